/- Package fresh, the program's side: a response in memory; its small functions. -/
import Derived.Test.YtajbeoignhnpjaaDoorFrG
import Derived.Deep.CutBlock
namespace Go.Proofs.YtajbeoignhnpjaaDoor
open Go.RowKit

/-- A message, its times, what it says, its date. -/
structure Rsp where
  a : ByteArray
  b : ByteArray
  st : Int
  c : ByteArray
  mi : Int
  fv : Value
  bv : Value
  A : Int
  G : Int
  s : Ctl.C
  d : Int
def rcells (r : Rsp) : Array Value := #[.string r.a, .string r.b, .int .i64 r.st, .string r.c, .int .i64 r.mi, r.fv, r.bv, .int .i64 r.A, .int .i64 r.G, .bool r.s.ns, .bool r.s.nc, .bool r.s.pu, .bool r.s.pr, .bool r.s.mu, .bool r.s.px, .bool r.s.oi, .int .i64 r.s.ma, .int .i64 r.s.sa, .int .i64 r.s.ms, .int .i64 r.s.mf, .int .i64 r.d]
def rv (r : Rsp) : Value := .agg (rcells r)
/-- The block g holds a response. -/
def RspAt (w : World) (g : Nat) (r : Rsp) : Prop := w.heap[g]? = some (.cells (rcells r) 50 (0, 0))
theorem RspAt.lt {w : World} {g : Nat} {r : Rsp} (h : RspAt w g r) : g < w.heap.size := lt_of_block h
theorem RspAt.later {w w' : World} {g : Nat} {r : Rsp} (h : RspAt w g r) (hb : Below w.heap.size w w') : RspAt w' g r := by
  unfold RspAt; rw [hb.block g h.lt]; exact h
theorem RspAt.cell {w : World} {g : Nat} {r : Rsp} (h : RspAt w g r) (k : Nat) : w.cell? ⟨g, k, none⟩ = (rcells r)[k]? := by
  simp only [World.cell?, RspAt] at *; rw [h]; rfl
theorem RspAt.new (w : World) (r : Rsp) : RspAt (w.alloc (.cells (rcells r) 50)) w.heap.size r := heap_alloc_new w _
theorem rcells_one {r : Rsp} (hf : Sl r.fv) (hb : Sl r.bv) : (rcells r).all (·.oneCell') = true := by
  obtain ⟨x, l, c, hf⟩ := hf
  obtain ⟨y, m, e, hb⟩ := hb
  unfold rcells
  rw [hf, hb]
  simp [Value.oneCell']
theorem Sl.of_fin {w : World} {v : Value} {fs : List Fld.F} (h : FIn w v fs) : Sl v := by
  obtain ⟨x, c, hv, _⟩ := h
  exact ⟨x, _, c, hv⟩

/-- A whole struct loaded, in a region that is walked once. -/
theorem quiet_row {P : Program} {ops : Array Oper} {C : World → Prop} {Q : Act → Prop} {a : Act} {o : Oper} {rest : List Oper} (hgd : o.guard = none) (ty : TypeId) (x : Operand) (ho : o.op = .load ty x)
    (g : Nat) (hx : a.eval x = .pointer (some ⟨g, 0, none⟩)) (t : TypeId) (cs : Array Value) (fr : Nat × Nat) (d : TypeDesc) (hg : ∀ w, C w → w.heap[g]? = some (.cells cs t fr))
    (hu : P.underlying ty = some d) (hd : (match d with | .struct _ | .array _ _ => true | _ => false) = true) (hi : (P.info? ty).map (·.size) = some cs.size)
    (h : wpQuiet P ops C Q rest (a.put o.dst (.agg cs))) : wpQuiet P ops C Q (o :: rest) a := by
  unfold wpQuiet
  rw [if_pos (by simp [Region.wanted, hgd])]
  refine ⟨.agg cs, fun w hw => ?_, h⟩
  unfold Oper.quietAt execOp
  simp only [ho, hx, Instr.loadAt, Instr.sureAddr, Sem.run_bind, Sem.run_pure, Result.andThen_ok, run_loadVar_row w g t ty cs fr d (hg w hw) hu hd hi]
  exact ⟨rfl, rfl⟩
theorem LateOf.blk {W : World} {g : Nat} {O : Obj} (h : W.heap[g]? = some O) : ∀ w, (∃ p : LateOf W, w = p.w) → w.heap[g]? = some O := fun w ⟨p, hp⟩ => by
  subst hp; rw [p.h.block g (lt_of_block h)]; exact h
theorem blk_keep {w w' : World} {g : Nat} {O : Obj} (h : w.heap[g]? = some O) (hb : Below w.heap.size w w') : w'.heap[g]? = some O := by
  rw [hb.block g (lt_of_block h)]; exact h
theorem rsp_info (r : Rsp) : (Tryd.prog.info? 50).map (·.size) = some (rcells r).size := by kernel_rfl

theorem within_w (n m : Int) (w : World) (hm : 0 ≤ m) : Calls Tryd.prog 20 #[.int .i64 n, .int .i64 m] w fun e w' => e = .returned (.int .i64 (Fr.cap n m)) ∧ w = w' := by
  obtain ⟨x, e1⟩ : ∃ x, (if n < 0 then 0 else n) = x := ⟨_, rfl⟩
  have e1' : max n 0 = x := by rw [← e1]; split <;> omega
  obtain ⟨y, e2⟩ : ∃ y, (if m < x then m else x) = y := ⟨_, rfl⟩
  have e2' : min x m = y := by rw [← e2]; split <;> omega
  have HR : Hid (Fr.cap n m = y) := Lib.hid (by unfold Fr.cap; omega)
  rw [HR.out]
  go_enter Tryd.func20, Tryd.ntmps20
  go_wp2_with fail
  go_ret
  exact ⟨rfl, rfl⟩

/-- Does it say that it isn't to be told, once it isn't fresh? -/
theorem stern_w (r : Rsp) (w : World) : Calls Tryd.prog 19 #[rv r] w fun e w' => e = .returned (.bool (r.s.mu || r.s.px || decide (0 ≤ r.s.sa))) ∧ Below w.heap.size w w' := by
  have hbw : Below w.heap.size w (w.alloc (.cells (rcells r) 50)) := (Below.refl _ w).alloc (Nat.le_refl _) _
  have hr := RspAt.new w r
  have c0 := hr.cell 13
  have c1 := hr.cell 14
  have c2 := hr.cell 17
  change _ = some (Value.bool r.s.mu) at c0
  change _ = some (Value.bool r.s.px) at c1
  change _ = some (Value.int .i64 r.s.sa) at c2
  unfold rv
  clear hr
  generalize rcells r = cc at *
  generalize r.s.mu = mu at *
  generalize r.s.px = px at *
  generalize r.s.sa = sa at *
  cases mu
  · cases px
    · by_cases h : 0 ≤ sa
      · have HR : Hid (decide (0 ≤ sa) = true) := Lib.hid (decide_eq_true h)
        go_enter Tryd.func19, Tryd.ntmps19
        go_wp2_with fail
        go_ret
        exact ⟨by rw [HR.out]; rfl, hbw⟩
      · have HR : Hid (decide (0 ≤ sa) = false) := Lib.hid (decide_eq_false h)
        go_enter Tryd.func19, Tryd.ntmps19
        go_wp2_with fail
        go_ret
        exact ⟨by rw [HR.out]; rfl, hbw⟩
    · go_enter Tryd.func19, Tryd.ntmps19
      go_wp2_with fail
      go_ret
      exact ⟨rfl, hbw⟩
  · go_enter Tryd.func19, Tryd.ntmps19
    go_wp2_with fail
    go_ret
    exact ⟨rfl, hbw⟩

/-- A moment as the two values that are told. -/
def mo : Option Int → Value
  | some a => .tuple #[.int .i64 a, .bool true]
  | none => .tuple #[.int .i64 0, .bool false]
set_option maxHeartbeats 800000 in
/-- The moment of its only field of a name. -/
theorem moment_w (r : Rsp) (fs : List Fld.F) (nm : List UInt8) (hn : nm.length ≤ 100) (w : World) (hf : FIn w r.fv fs) (hs : shortR fs = true) (hE : Env10 w) :
    Calls Tryd.prog 23 #[rv r, .string (str nm)] w fun e w' => e = .returned (mo (Fr.moment D0 fs nm)) ∧ Below w.heap.size w w' := by
  have hbw : Below w.heap.size w (w.alloc (.cells (rcells r) 50)) := (Below.refl _ w).alloc (Nat.le_refl _) _
  have c0 := (RspAt.new w r).cell 5
  change _ = some r.fv at c0
  unfold rv
  generalize rcells r = cc at *
  obtain ⟨ao, ca, hfv, hx9⟩ := id hf
  clear hx9
  rw [hfv] at hf c0
  by_cases hg : (Fld.get fs nm).length = 1
  case neg =>
    have cO := fun W' (hb : Below w.heap.size w W') => One_no (.slice ao fs.length ca) fs nm W' (hf.later hb) (small_of hs) (by omega) hg
    rw [Fr.moment_no hg]
    rw [show mo none = .tuple #[.int .i64 0, .bool false] from rfl]
    generalize str nm = sn at *
    generalize fs.length = n at *
    clear hf hs hE hfv hn hg
    go_enter Tryd.func23, Tryd.ntmps23
    go_upto_region 1 with fail
    generalize w.alloc (.cells cc 50) = W at *
    go_wp2_with fail
    refine (cO W hbw).mono ?_
    rintro e w1 ⟨rfl, hb1⟩
    go_wp2_with fail
    go_ret2
    exact ⟨rfl, hbw.trans (hb1.mono hbw.size)⟩
  obtain ⟨v, hv⟩ := List.length_eq_one_iff.1 hg
  have cO := fun W' (hb : Below w.heap.size w W') => One_yes (.slice ao fs.length ca) fs nm v W' (hf.later hb) (small_of hs) (by omega) hv
  rw [Fr.moment_one hv]
  clear hg hv
  cases hD : D0 v with
  | none =>
    have cP := fun W' (hb : Below w.heap.size w W') => Parse_none hD W' (hE.later hb).tabs
    rw [show mo none = .tuple #[.int .i64 0, .bool false] from rfl]
    generalize str nm = sn at *
    generalize str v = sv at *
    generalize fs.length = n at *
    clear hf hs hE hfv hn hD
    go_enter Tryd.func23, Tryd.ntmps23
    go_upto_region 1 with fail
    generalize w.alloc (.cells cc 50) = W at *
    go_wp2_with fail
    refine (cO W hbw).mono ?_
    rintro e w1 ⟨rfl, hb1⟩
    have hbw1 := hbw.trans (hb1.mono hbw.size)
    clear hb1
    go_wp2_with fail
    refine (cP w1 hbw1).mono ?_
    rintro e w2 ⟨rfl, hb2⟩
    go_wp2_with fail
    go_ret2
    exact ⟨rfl, hbw1.trans (hb2.mono hbw1.size)⟩
  | some a =>
    have cP := fun W' (hb : Below w.heap.size w W') => Parse_some hD W' (hE.later hb).tabs
    rw [show mo (some a) = .tuple #[.int .i64 a, .bool true] from rfl]
    generalize str nm = sn at *
    generalize str v = sv at *
    generalize fs.length = n at *
    clear hf hs hE hfv hn hD
    go_enter Tryd.func23, Tryd.ntmps23
    go_upto_region 1 with fail
    generalize w.alloc (.cells cc 50) = W at *
    go_wp2_with fail
    refine (cO W hbw).mono ?_
    rintro e w1 ⟨rfl, hb1⟩
    have hbw1 := hbw.trans (hb1.mono hbw.size)
    clear hb1
    go_wp2_with fail
    refine (cP w1 hbw1).mono ?_
    rintro e w2 ⟨rfl, hb2⟩
    go_wp2_with fail
    go_ret2
    exact ⟨rfl, hbw1.trans (hb2.mono hbw1.size)⟩

set_option maxHeartbeats 800000 in
/-- What the first field age says. -/
theorem told_w (r : Rsp) (fs : List Fld.F) (w : World) (hf : FIn w r.fv fs) (hs : shortR fs = true) :
    Calls Tryd.prog 24 #[rv r] w fun e w' => e = .returned (.int .i64 (Fr.told fs)) ∧ Below w.heap.size w w' := by
  have hbw : Below w.heap.size w (w.alloc (.cells (rcells r) 50)) := (Below.refl _ w).alloc (Nat.le_refl _) _
  have c0 := (RspAt.new w r).cell 5
  change _ = some r.fv at c0
  unfold rv
  generalize rcells r = cc at *
  obtain ⟨ao, ca, hfv, hx9⟩ := id hf
  clear hx9
  rw [hfv] at hf c0
  have cG := fun W' (hb : Below w.heap.size w W') => Get_r (.slice ao fs.length ca) fs Fr.kAge (by decide) hs W' (hf.later hb)
  rw [show str Fr.kAge = ⟨#[97, 103, 101]⟩ from rfl] at cG
  have hl := (got_len hs Fr.kAge).1
  have hz := (got_len hs Fr.kAge).2
  have HT0 := Lib.hid (fun h => Fr.told_none (fs := fs) h)
  have HT1 := Lib.hid (fun v vs h => Fr.told_some (fs := fs) (v := v) (vs := vs) h)
  generalize fs.length = n at *
  generalize Fr.told fs = told at *
  generalize Fld.get fs Fr.kAge = gs at *
  clear hf hs hfv
  match gs with
  | [] =>
    have HR := Lib.hid (HT0.out rfl)
    clear HT0 HT1 hz hl
    go_enter Tryd.func24, Tryd.ntmps24
    go_upto_region 1 with fail
    generalize w.alloc (.cells cc 50) = W at *
    go_wp2_with fail
    refine (cG W hbw).mono ?_
    rintro e w1 ⟨x, rfl, hx, hb1⟩
    obtain ⟨ao', c', rfl⟩ := sin_none hx
    clear hx
    go_wp2_with fail
    go_ret
    exact ⟨by rw [HR.out]; rfl, hbw.trans (hb1.mono hbw.size)⟩
  | v :: vs =>
    have HR := Lib.hid (HT1.out v vs rfl)
    have cN := fun W' => Number_r v W' (hz v (by simp))
    obtain ⟨N, hN⟩ : ∃ N, N = vs.length + 1 := ⟨_, rfl⟩
    have hN0 : 0 < N := by omega
    have hN9 : N ≤ 30 := by have : vs.length + 1 ≤ 30 := hl; omega
    have HN := Lib.hid hN
    have hNb : ((N : Int) == 0) = false := beq_eq_false_iff_ne.2 (by omega)
    have hNi : (0 : Int) < (N : Int) := by omega
    clear HT0 HT1 hz hl hN
    generalize (Oct.number 10 2147483647 v).1 = k at *
    generalize (Oct.number 10 2147483647 v).2 = e2 at *
    by_cases h12 : e2 = 12
    · subst h12
      rw [if_pos rfl] at HR
      go_enter Tryd.func24, Tryd.ntmps24
      go_upto_region 1 with fail
      generalize w.alloc (.cells cc 50) = W at *
      go_wp2_with fail
      refine (cG W hbw).mono ?_
      rintro e w1 ⟨x, rfl, hx, hb1⟩
      obtain ⟨b, o, c', rfl, hc⟩ := sin_first hx
      rw [← HN.out]
      have hbw1 := hbw.trans (hb1.mono hbw.size)
      generalize str v = sv at *
      clear hx hb1 c0
      go_wp2_with fail
      refine (cN w1).mono ?_
      rintro e w2 ⟨rfl, hb2⟩
      go_wp2_with fail
      go_ret
      exact ⟨by rw [HR.out]; rfl, hbw1.trans (hb2.mono hbw1.size)⟩
    · rw [if_neg h12] at HR
      have h12b : (e2 == 12) = false := beq_eq_false_iff_ne.2 h12
      clear h12
      go_enter Tryd.func24, Tryd.ntmps24
      go_upto_region 1 with fail
      generalize w.alloc (.cells cc 50) = W at *
      go_wp2_with fail
      refine (cG W hbw).mono ?_
      rintro e w1 ⟨x, rfl, hx, hb1⟩
      obtain ⟨b, o, c', rfl, hc⟩ := sin_first hx
      rw [← HN.out]
      have hbw1 := hbw.trans (hb1.mono hbw.size)
      generalize str v = sv at *
      clear hx hb1 c0
      go_wp2_with fail
      refine (cN w1).mono ?_
      rintro e w2 ⟨rfl, hb2⟩
      go_wp2_with fail
      go_ret
      exact ⟨by rw [HR.out]; rfl, hbw1.trans (hb2.mono hbw1.size)⟩
end Go.Proofs.YtajbeoignhnpjaaDoor
