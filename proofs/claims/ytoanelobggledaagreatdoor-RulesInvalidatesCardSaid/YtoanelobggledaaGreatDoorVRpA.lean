/- Package rules, the program's side: the calls of the layers below, as its functions make them. -/
import Derived.Test.YtoanelobggledaaGreatDoorVR1
import Derived.Deep.RegionHeld3
namespace Go.Proofs.YtoanelobggledaaGreatDoor
open Go.RowKit

theorem small_of {fs : List Fld.F} (h : Mid fs) : Small fs := h.small
theorem got_len {fs : List Fld.F} (h : Mid fs) (nm : List UInt8) : (Fld.get fs nm).length ≤ 100 ∧ ∀ l ∈ Fld.get fs nm, l.length ≤ 500 := h.got nm
theorem Get_r (fv : Value) (fs : List Fld.F) (nm : List UInt8) (hn : nm.length ≤ 100) (h : Mid fs) (w : World) (hf : FIn w fv fs) :
    Calls Tryz.prog 69 #[fv, .string (str nm)] w fun e w' => ∃ v, e = .returned v ∧ SIn w' v (Fld.get fs nm) ∧ Below w.heap.size w w' :=
  (Get_w fv fs nm w hf (small_of h) (by omega)).mono fun _ _ ⟨v, he, hb⟩ => ⟨v, he, hb.sin, hb.2⟩
theorem Says_r (v : Value) (fs : List Fld.F) (h : Mid fs) (w : World) (hv : SIn w v (Fld.get fs Fr.kCC)) (hm : MaxOk w) :
    Calls Tryz.prog 68 #[v] w fun e w' => e = .returned (cval (Fr.says fs)) ∧ Below w.heap.size w w' := by
  obtain ⟨h1, h2⟩ := got_len h Fr.kCC
  exact Parse_w v _ w hv (by omega) (fun l hl => by have := h2 l hl; omega) hm
end Go.Proofs.YtoanelobggledaaGreatDoor

namespace Go.Proofs.YtoanelobggledaaGreatDoor
open Go.RowKit

structure Rsp where
  a : ByteArray
  b : ByteArray
  st : Int
  c : ByteArray
  mi : Int
  fv : Value
  bv : Value
  A : Int
  G : Int
  s : Ctl.C
  d : Int
def rcells (r : Rsp) : Array Value := #[.string r.a, .string r.b, .int .i64 r.st, .string r.c, .int .i64 r.mi, r.fv, r.bv, .int .i64 r.A, .int .i64 r.G, .bool r.s.ns, .bool r.s.nc, .bool r.s.pu, .bool r.s.pr, .bool r.s.mu, .bool r.s.px, .bool r.s.oi, .int .i64 r.s.ma, .int .i64 r.s.sa, .int .i64 r.s.ms, .int .i64 r.s.mf, .int .i64 r.d]
def rv (r : Rsp) : Value := .agg (rcells r)
def RspAt (w : World) (g : Nat) (r : Rsp) : Prop := w.heap[g]? = some (.cells (rcells r) 119 (0, 0))
theorem RspAt.lt {w : World} {g : Nat} {r : Rsp} (h : RspAt w g r) : g < w.heap.size := lt_of_block h
theorem RspAt.later {w w' : World} {g : Nat} {r : Rsp} (h : RspAt w g r) (hb : Below w.heap.size w w') : RspAt w' g r := by
  unfold RspAt; rw [hb.block g h.lt]; exact h
theorem RspAt.cell {w : World} {g : Nat} {r : Rsp} (h : RspAt w g r) (k : Nat) : w.cell? ⟨g, k, none⟩ = (rcells r)[k]? := by
  simp only [World.cell?, RspAt] at *; rw [h]; rfl
theorem RspAt.new (w : World) (r : Rsp) : RspAt (w.alloc (.cells (rcells r) 119)) w.heap.size r := heap_alloc_new w _
theorem rcells_one {r : Rsp} (hf : Sl r.fv) (hb : Sl r.bv) : (rcells r).all (·.oneCell') = true := by
  obtain ⟨x, l, c, hf⟩ := hf
  obtain ⟨y, m, e, hb⟩ := hb
  unfold rcells
  rw [hf, hb]
  simp [Value.oneCell']
theorem blk_keep {w w' : World} {g : Nat} {O : Obj} (h : w.heap[g]? = some O) (hb : Below w.heap.size w w') : w'.heap[g]? = some O := by
  rw [hb.block g (lt_of_block h)]; exact h
theorem rsp_info (r : Rsp) : (Tryz.prog.info? 119).map (·.size) = some (rcells r).size := by kernel_rfl
theorem within_w (n m : Int) (w : World) (hm : 0 ≤ m) : Calls Tryz.prog 142 #[.int .i64 n, .int .i64 m] w fun e w' => e = .returned (.int .i64 (Fr.cap n m)) ∧ w = w' := by
  obtain ⟨x, e1⟩ : ∃ x, (if n < 0 then 0 else n) = x := ⟨_, rfl⟩
  have e1' : max n 0 = x := by rw [← e1]; split <;> omega
  obtain ⟨y, e2⟩ : ∃ y, (if m < x then m else x) = y := ⟨_, rfl⟩
  have e2' : min x m = y := by rw [← e2]; split <;> omega
  have HR : Hid (Fr.cap n m = y) := Lib.hid (by unfold Fr.cap; omega)
  rw [HR.out]
  go_enter Tryz.func142, Tryz.ntmps142
  go_wp2_with fail
  go_ret
  exact ⟨rfl, rfl⟩
def mo : Option Int → Value
  | some a => .tuple #[.int .i64 a, .bool true]
  | none => .tuple #[.int .i64 0, .bool false]
set_option maxHeartbeats 800000 in
theorem moment_w (r : Rsp) (fs : List Fld.F) (nm : List UInt8) (hn : nm.length ≤ 100) (w : World) (hf : FIn w r.fv fs) (hs : Mid fs) (hE : Env10 w) :
    Calls Tryz.prog 143 #[rv r, .string (str nm)] w fun e w' => e = .returned (mo (Fr.moment D0 fs nm)) ∧ Below w.heap.size w w' := by
  have hbw : Below w.heap.size w (w.alloc (.cells (rcells r) 119)) := (Below.refl _ w).alloc (Nat.le_refl _) _
  have c0 := (RspAt.new w r).cell 5
  change _ = some r.fv at c0
  unfold rv
  generalize rcells r = cc at *
  obtain ⟨ao, ca, hfv, hx9⟩ := id hf
  clear hx9
  rw [hfv] at hf c0
  by_cases hg : (Fld.get fs nm).length = 1
  case neg =>
    have cO := fun W' (hb : Below w.heap.size w W') => One_no (.slice ao fs.length ca) fs nm W' (hf.later hb) (small_of hs) (by omega) hg
    rw [Fr.moment_no hg]
    rw [show mo none = .tuple #[.int .i64 0, .bool false] from rfl]
    generalize str nm = sn at *
    generalize fs.length = n at *
    clear hf hs hE hfv hn hg
    go_enter Tryz.func143, Tryz.ntmps143
    go_upto_region 1 with fail
    generalize w.alloc (.cells cc 119) = W at *
    go_wp2_with fail
    refine (cO W hbw).mono ?_
    rintro e w1 ⟨rfl, hb1⟩
    go_wp2_with fail
    go_ret2
    exact ⟨rfl, hbw.trans (hb1.mono hbw.size)⟩
  obtain ⟨v, hv⟩ := List.length_eq_one_iff.1 hg
  have cO := fun W' (hb : Below w.heap.size w W') => One_yes (.slice ao fs.length ca) fs nm v W' (hf.later hb) (small_of hs) (by omega) hv
  rw [Fr.moment_one hv]
  clear hg hv
  cases hD : D0 v with
  | none =>
    have cP := fun W' (hb : Below w.heap.size w W') => Parse_none hD W' (hE.later hb).tabs
    rw [show mo none = .tuple #[.int .i64 0, .bool false] from rfl]
    generalize str nm = sn at *
    generalize str v = sv at *
    generalize fs.length = n at *
    clear hf hs hE hfv hn hD
    go_enter Tryz.func143, Tryz.ntmps143
    go_upto_region 1 with fail
    generalize w.alloc (.cells cc 119) = W at *
    go_wp2_with fail
    refine (cO W hbw).mono ?_
    rintro e w1 ⟨rfl, hb1⟩
    have hbw1 := hbw.trans (hb1.mono hbw.size)
    clear hb1
    go_wp2_with fail
    refine (cP w1 hbw1).mono ?_
    rintro e w2 ⟨rfl, hb2⟩
    go_wp2_with fail
    go_ret2
    exact ⟨rfl, hbw1.trans (hb2.mono hbw1.size)⟩
  | some a =>
    have cP := fun W' (hb : Below w.heap.size w W') => Parse_some hD W' (hE.later hb).tabs
    rw [show mo (some a) = .tuple #[.int .i64 a, .bool true] from rfl]
    generalize str nm = sn at *
    generalize str v = sv at *
    generalize fs.length = n at *
    clear hf hs hE hfv hn hD
    go_enter Tryz.func143, Tryz.ntmps143
    go_upto_region 1 with fail
    generalize w.alloc (.cells cc 119) = W at *
    go_wp2_with fail
    refine (cO W hbw).mono ?_
    rintro e w1 ⟨rfl, hb1⟩
    have hbw1 := hbw.trans (hb1.mono hbw.size)
    clear hb1
    go_wp2_with fail
    refine (cP w1 hbw1).mono ?_
    rintro e w2 ⟨rfl, hb2⟩
    go_wp2_with fail
    go_ret2
    exact ⟨rfl, hbw1.trans (hb2.mono hbw1.size)⟩
end Go.Proofs.YtoanelobggledaaGreatDoor

namespace Go.Proofs.YtoanelobggledaaGreatDoor
open Go.RowKit

set_option maxHeartbeats 1600000 in
set_option maxRecDepth 100000 in
theorem Heuristic_w (st : Int) (w : World) : Calls Tryz.prog 74 #[.int .i64 st] w fun e w' => e = .returned (.bool (Fr.heur st)) ∧ w = w' := by
  by_cases h : st ∈ [200, 203, 204, 300, 301, 308, 404, 405, 410, 414, 501]
  · simp only [List.mem_cons, List.not_mem_nil, or_false] at h
    rcases h with rfl | rfl | rfl | rfl | rfl | rfl | rfl | rfl | rfl | rfl | rfl
    all_goals go_enter Tryz.func74, Tryz.ntmps74
    all_goals go_wp2_with fail
    all_goals go_ret
    all_goals exact ⟨rfl, rfl⟩
  · have HR : Hid (Fr.heur st = false) := Lib.hid (by unfold Fr.heur; rw [decide_eq_false h])
    simp only [List.mem_cons, List.not_mem_nil, or_false, not_or] at h
    obtain ⟨h0, h1, h2, h3, h4, h5, h6, h7, h8, h9, h10⟩ := h
    go_enter Tryz.func74, Tryz.ntmps74
    go_wp2_with fail
    go_ret
    exact ⟨by rw [HR.out]; rfl, rfl⟩
end Go.Proofs.YtoanelobggledaaGreatDoor

namespace Go.Proofs.YtoanelobggledaaGreatDoor
open Go.RowKit

def lv (x : Int × Bool) : Value := .tuple #[.int .i64 x.1, .bool x.2]
set_option maxHeartbeats 1600000 in
set_option maxRecDepth 100000 in
theorem lifetime_w (r : Rsp) (fs : List Fld.F) (g : Int) (w : World) (hf : FIn w r.fv fs) (hs : Mid fs) (hE : Env10 w) (hsay : r.s = Fr.says fs) (hdt : r.d = Fr.date D0 fs g) (hd : 0 ≤ r.d ∧ r.d ≤ 1099511627776) :
    Calls Tryz.prog 106 #[rv r] w fun e w' => e = .returned (lv (Fr.life D0 r.st fs g)) ∧ Below w.heap.size w w' := by
  have hbw : Below w.heap.size w (w.alloc (.cells (rcells r) 119)) := (Below.refl _ w).alloc (Nat.le_refl _) _
  have hr := RspAt.new w r
  have c2 := hr.cell 2
  have c5 := hr.cell 5
  have c16 := hr.cell 16
  have c17 := hr.cell 17
  have c20 := hr.cell 20
  change _ = some (Value.int .i64 r.st) at c2
  change _ = some r.fv at c5
  change _ = some (Value.int .i64 r.s.ma) at c16
  change _ = some (Value.int .i64 r.s.sa) at c17
  change _ = some (Value.int .i64 r.d) at c20
  have hi := rsp_info r
  have hf0 := hf
  obtain ⟨ao, ca, hfv, hx9⟩ := id hf
  clear hx9
  rw [hfv] at hf c5
  have cG := fun W' (hb : Below w.heap.size w W') => Get_r (.slice ao fs.length ca) fs Fr.kExp (by decide) hs W' (hf.later hb)
  have cX := fun W' (hb : Below w.heap.size w W') => moment_w r fs Fr.kExp (by decide) W' (hf0.later hb) hs (hE.later hb)
  have cM := fun W' (hb : Below w.heap.size w W') => moment_w r fs Fr.kMod (by decide) W' (hf0.later hb) hs (hE.later hb)
  have cH := fun W' => Heuristic_w r.st W'
  have cE := fun n W' => within_w n 2147483647 W' (by decide)
  have hmx := fun a (h : Fr.moment D0 fs Fr.kExp = some a) => Fr.moment_bd D0_fine h
  have hmm := fun a (h : Fr.moment D0 fs Fr.kMod = some a) => Fr.moment_bd D0_fine h
  have hll := (got_len hs Fr.kExp).1
  rw [show str Fr.kExp = ⟨#[101, 120, 112, 105, 114, 101, 115]⟩ from rfl] at cG cX
  rw [show str Fr.kMod = ⟨#[108, 97, 115, 116, 45, 109, 111, 100, 105, 102, 105, 101, 100]⟩ from rfl] at cM
  have L1 := Lib.hid (fun h => Fr.life_sa D0 r.st (fs := fs) g h)
  have L2 := Lib.hid (fun h h1 => Fr.life_ma D0 r.st (fs := fs) g h h1)
  have L3 := Lib.hid (fun n h h1 h2 hm => Fr.life_exp D0 r.st (fs := fs) g (n := n) h h1 h2 hm)
  have L4 := Lib.hid (fun h h1 h2 hm => Fr.life_bad D0 r.st (fs := fs) g h h1 h2 hm)
  have L5 := Lib.hid (fun n h h1 h2 hm hh hn => Fr.life_mod D0 r.st (fs := fs) g (n := n) h h1 h2 hm hh hn)
  have L6 := Lib.hid (fun n h h1 h2 hm hh => Fr.life_not D0 r.st (fs := fs) g (n := n) h h1 h2 hm hh)
  have L7 := Lib.hid (fun h h1 h2 hm => Fr.life_none D0 r.st (fs := fs) g h h1 h2 hm)
  rw [← hdt] at L3 L5 L6
  rw [← hsay] at L1 L2 L3 L4 L5 L6 L7
  clear hf hf0 hE hs hsay hdt hfv
  unfold rv RspAt Fr.maxD at *
  generalize Fr.life D0 r.st fs g = L at *
  generalize Fld.get fs Fr.kExp = gs at *
  generalize Fr.moment D0 fs Fr.kExp = mx at *
  generalize Fr.moment D0 fs Fr.kMod = mm at *
  generalize Fr.heur r.st = hh at *
  generalize fs.length = N at *
  generalize rcells r = cc at *
  generalize r.s.ma = ma at *
  generalize r.s.sa = sa at *
  generalize r.st = st at *
  generalize r.d = d at *
  clear r fs g
  by_cases h1 : 0 ≤ sa
  · rw [show L = (sa, true) from L1.out h1]
    clear L1 L2 L3 L4 L5 L6 L7 cG cX cM cH cE hmx hmm hll
    unfold lv
    go_enter Tryz.func106, Tryz.ntmps106
    go_upto_region 1 with fail
    generalize w.alloc (.cells cc 119) = W at *
    go_wp2_with fail
    go_ret2
    exact ⟨rfl, hbw⟩
  have h1' : ¬ 0 ≤ sa := h1
  by_cases h2 : 0 ≤ ma
  · rw [show L = (ma, true) from L2.out h1 h2]
    clear L1 L2 L3 L4 L5 L6 L7 cG cX cM cH cE hmx hmm hll
    unfold lv
    go_enter Tryz.func106, Tryz.ntmps106
    go_upto_region 1 with fail
    generalize w.alloc (.cells cc 119) = W at *
    go_wp2_with fail
    go_ret2
    exact ⟨rfl, hbw⟩
  match gs with
  | q :: qs =>
    have hq : q :: qs ≠ [] := by simp
    obtain ⟨n, hn⟩ : ∃ n, n = (q :: qs).length := ⟨_, rfl⟩
    have hn0 : (0 : Int) < (n : Int) := by rw [hn]; simp
    rw [← hn] at hll
    have HN := Lib.hid hn
    clear hn
    match mx with
    | none =>
      rw [show L = (0, true) from L4.out h1 h2 hq rfl]
      rw [show mo none = .tuple #[.int .i64 0, .bool false] from rfl] at cX
      clear L1 L2 L3 L4 L5 L6 L7 cM cH cE hmx hmm hq
      unfold lv
      go_enter Tryz.func106, Tryz.ntmps106
      go_upto_region 1 with fail
      generalize w.alloc (.cells cc 119) = W at *
      go_wp2_with fail
      refine (cG W hbw).mono ?_
      rintro e w1 ⟨x, rfl, hx, hb1⟩
      obtain ⟨ao', c', rfl, hx9⟩ := hx
      rw [← HN.out]
      have hr := blk_keep hr hb1
      have hbw1 := hbw.trans (hb1.mono hbw.size)
      clear hx9 hb1 c2 c5 c16 c17 c20
      go_wp2_with (refine wpList_load_row rfl 119 _ rfl w.heap.size rfl 119 cc (0, 0) _ hr Tryz.underlying119 rfl hi ?_)
      refine (cX w1 hbw1).mono ?_
      rintro e w2 ⟨rfl, hb2⟩
      go_wp2_with fail
      go_ret2
      exact ⟨rfl, hbw1.trans (hb2.mono hbw1.size)⟩
    | some a =>
      obtain ⟨ha0, ha1⟩ := hmx a rfl
      obtain ⟨x1, f1⟩ : ∃ x1, a - d = x1 := ⟨_, rfl⟩
      have w1 : IntKind.i64.wrap (a - d) = x1 := by rw [IntKind.wrap_i64]; omega
      rw [show L = (Fr.cap (a - d) 2147483647, true) from L3.out a h1 h2 hq rfl]
      rw [show mo (some a) = .tuple #[.int .i64 a, .bool true] from rfl] at cX
      rw [f1]
      have cE5 := fun W' => cE x1 W'
      generalize Fr.cap x1 2147483647 = R at *
      clear L1 L2 L3 L4 L5 L6 L7 cM cH cE hmx hmm hq f1 ha0 ha1
      unfold lv
      go_enter Tryz.func106, Tryz.ntmps106
      go_upto_region 1 with fail
      generalize w.alloc (.cells cc 119) = W at *
      go_wp2_with fail
      refine (cG W hbw).mono ?_
      rintro e w1 ⟨x, rfl, hx, hb1⟩
      obtain ⟨ao', c', rfl, hx9⟩ := hx
      rw [← HN.out]
      have hr := blk_keep hr hb1
      have hbw1 := hbw.trans (hb1.mono hbw.size)
      have k20 := (hb1.cell (p := ⟨w.heap.size, 20, none⟩) (World.block_lt_of_cell? _ _ c20)).trans c20
      clear hx9 hb1 c2 c5 c16 c17 c20
      go_wp2_with (refine wpList_load_row rfl 119 _ rfl w.heap.size rfl 119 cc (0, 0) _ hr Tryz.underlying119 rfl hi ?_)
      refine (cX w1 hbw1).mono ?_
      rintro e w2 ⟨rfl, hb2⟩
      have hbw2 := hbw1.trans (hb2.mono hbw1.size)
      have k20' := (hb2.cell (p := ⟨w.heap.size, 20, none⟩) (World.block_lt_of_cell? _ _ k20)).trans k20
      clear k20 hb2 hr
      go_wp2_with fail
      refine (cE5 w2).mono ?_
      rintro e w3 ⟨rfl, rfl⟩
      go_wp2_with fail
      go_ret2
      exact ⟨rfl, hbw2⟩
  | [] =>
    have hn0 : ([] : List (List UInt8)).length = 0 := rfl
    match mm with
    | none =>
      rw [show L = (0, false) from L7.out h1 h2 rfl rfl]
      rw [show mo none = .tuple #[.int .i64 0, .bool false] from rfl] at cM
      clear L1 L2 L3 L4 L5 L6 L7 cX cE hmx hmm
      unfold lv
      go_enter Tryz.func106, Tryz.ntmps106
      go_upto_region 1 with fail
      generalize w.alloc (.cells cc 119) = W at *
      go_wp2_with fail
      refine (cG W hbw).mono ?_
      rintro e w1 ⟨x, rfl, hx, hb1⟩
      obtain ⟨ao', c', rfl, hx9⟩ := hx
      rw [hn0]
      have hr := blk_keep hr hb1
      have hbw1 := hbw.trans (hb1.mono hbw.size)
      clear hx9 hb1 c2 c5 c16 c17 c20
      go_wp2_with (refine wpList_load_row rfl 119 _ rfl w.heap.size rfl 119 cc (0, 0) _ hr Tryz.underlying119 rfl hi ?_)
      refine (cM w1 hbw1).mono ?_
      rintro e w2 ⟨rfl, hb2⟩
      go_wp2_with fail
      go_ret2
      exact ⟨rfl, hbw1.trans (hb2.mono hbw1.size)⟩
    | some a =>
      obtain ⟨ha0, ha1⟩ := hmm a rfl
      rw [show mo (some a) = .tuple #[.int .i64 a, .bool true] from rfl] at cM
      by_cases h3 : d < a
      · rw [show L = (0, false) from L6.out a h1 h2 rfl rfl (fun h => by have := h.2; omega)]
        clear L1 L2 L3 L4 L5 L6 L7 cX cE hmx hmm ha0 ha1
        unfold lv
        go_enter Tryz.func106, Tryz.ntmps106
        go_upto_region 1 with fail
        generalize w.alloc (.cells cc 119) = W at *
        go_wp2_with fail
        refine (cG W hbw).mono ?_
        rintro e w1 ⟨x, rfl, hx, hb1⟩
        obtain ⟨ao', c', rfl, hx9⟩ := hx
        rw [hn0]
        have hr := blk_keep hr hb1
        have hbw1 := hbw.trans (hb1.mono hbw.size)
        have k20 := (hb1.cell (p := ⟨w.heap.size, 20, none⟩) (World.block_lt_of_cell? _ _ c20)).trans c20
        clear hx9 hb1 c2 c5 c16 c17 c20
        go_wp2_with (refine wpList_load_row rfl 119 _ rfl w.heap.size rfl 119 cc (0, 0) _ hr Tryz.underlying119 rfl hi ?_)
        refine (cM w1 hbw1).mono ?_
        rintro e w2 ⟨rfl, hb2⟩
        have hbw2 := hbw1.trans (hb2.mono hbw1.size)
        have k20' := (hb2.cell (p := ⟨w.heap.size, 20, none⟩) (World.block_lt_of_cell? _ _ k20)).trans k20
        clear k20 hb2 hr
        go_wp2_with fail
        go_ret2
        exact ⟨rfl, hbw2⟩
      cases hh with
      | false =>
        rw [show L = (0, false) from L6.out a h1 h2 rfl rfl (fun h => by have := h.1; cases this)]
        clear L1 L2 L3 L4 L5 L6 L7 cX cE hmx hmm ha0 ha1
        unfold lv
        go_enter Tryz.func106, Tryz.ntmps106
        go_upto_region 1 with fail
        generalize w.alloc (.cells cc 119) = W at *
        go_wp2_with fail
        refine (cG W hbw).mono ?_
        rintro e w1 ⟨x, rfl, hx, hb1⟩
        obtain ⟨ao', c', rfl, hx9⟩ := hx
        rw [hn0]
        have hr := blk_keep hr hb1
        have hbw1 := hbw.trans (hb1.mono hbw.size)
        have k2 := (hb1.cell (p := ⟨w.heap.size, 2, none⟩) (World.block_lt_of_cell? _ _ c2)).trans c2
        have k20 := (hb1.cell (p := ⟨w.heap.size, 20, none⟩) (World.block_lt_of_cell? _ _ c20)).trans c20
        clear hx9 hb1 c2 c5 c16 c17 c20
        go_wp2_with (refine wpList_load_row rfl 119 _ rfl w.heap.size rfl 119 cc (0, 0) _ hr Tryz.underlying119 rfl hi ?_)
        refine (cM w1 hbw1).mono ?_
        rintro e w2 ⟨rfl, hb2⟩
        have hbw2 := hbw1.trans (hb2.mono hbw1.size)
        have k2' := (hb2.cell (p := ⟨w.heap.size, 2, none⟩) (World.block_lt_of_cell? _ _ k2)).trans k2
        have k20' := (hb2.cell (p := ⟨w.heap.size, 20, none⟩) (World.block_lt_of_cell? _ _ k20)).trans k20
        clear k2 k20 hb2 hr
        go_wp2_with fail
        refine (cH w2).mono ?_
        rintro e w3 ⟨rfl, rfl⟩
        go_wp2_with fail
        go_ret2
        exact ⟨rfl, hbw2⟩
      | true =>
        obtain ⟨x1, f1⟩ : ∃ x1, d - a = x1 := ⟨_, rfl⟩
        have v1 : IntKind.i64.wrap (d - a) = x1 := by rw [IntKind.wrap_i64]; omega
        obtain ⟨x2, f2⟩ : ∃ x2, x1 / 10 = x2 := ⟨_, rfl⟩
        have v2 : Int.tdiv x1 10 = x2 := by rw [Int.tdiv_eq_ediv_of_nonneg (by omega)]; exact f2
        have v3 : IntKind.i64.wrap x2 = x2 := by rw [IntKind.wrap_i64]; omega
        rw [show L = (Fr.cap x2 2147483647, false) from by rw [← f2, ← f1]; exact L5.out a h1 h2 rfl rfl rfl (by omega)]
        have cE5 := fun W' => cE x2 W'
        generalize Fr.cap x2 2147483647 = R at *
        clear L1 L2 L3 L4 L5 L6 L7 cX cE hmx hmm ha0 ha1 f1 f2
        unfold lv
        go_enter Tryz.func106, Tryz.ntmps106
        go_upto_region 1 with fail
        generalize w.alloc (.cells cc 119) = W at *
        go_wp2_with fail
        refine (cG W hbw).mono ?_
        rintro e w1 ⟨x, rfl, hx, hb1⟩
        obtain ⟨ao', c', rfl, hx9⟩ := hx
        rw [hn0]
        have hr := blk_keep hr hb1
        have hbw1 := hbw.trans (hb1.mono hbw.size)
        have k2 := (hb1.cell (p := ⟨w.heap.size, 2, none⟩) (World.block_lt_of_cell? _ _ c2)).trans c2
        have k20 := (hb1.cell (p := ⟨w.heap.size, 20, none⟩) (World.block_lt_of_cell? _ _ c20)).trans c20
        clear hx9 hb1 c2 c5 c16 c17 c20
        go_wp2_with (refine wpList_load_row rfl 119 _ rfl w.heap.size rfl 119 cc (0, 0) _ hr Tryz.underlying119 rfl hi ?_)
        refine (cM w1 hbw1).mono ?_
        rintro e w2 ⟨rfl, hb2⟩
        have hbw2 := hbw1.trans (hb2.mono hbw1.size)
        have k2' := (hb2.cell (p := ⟨w.heap.size, 2, none⟩) (World.block_lt_of_cell? _ _ k2)).trans k2
        have k20' := (hb2.cell (p := ⟨w.heap.size, 20, none⟩) (World.block_lt_of_cell? _ _ k20)).trans k20
        clear k2 k20 hb2 hr
        go_wp2_with fail
        refine (cH w2).mono ?_
        rintro e w3 ⟨rfl, rfl⟩
        go_wp2_with fail
        refine (cE5 w2).mono ?_
        rintro e w3 ⟨rfl, rfl⟩
        go_wp2_with fail
        go_ret2
        exact ⟨rfl, hbw2⟩
end Go.Proofs.YtoanelobggledaaGreatDoor

namespace Go.Proofs.YtoanelobggledaaGreatDoor
open Go.RowKit

def noRsp : Rsp := ⟨⟨#[]⟩, ⟨#[]⟩, 0, ⟨#[]⟩, 0, .slice none 0 0, .slice none 0 0, 0, 0, ⟨false, false, false, false, false, false, false, 0, 0, 0, 0⟩, 0⟩
theorem three_at (w : World) (A B C : Obj) : (((w.alloc A).alloc B).alloc C).heap[w.heap.size]? = some A ∧ (((w.alloc A).alloc B).alloc C).heap[w.heap.size + 1]? = some B ∧ (((w.alloc A).alloc B).alloc C).heap[w.heap.size + 1 + 1]? = some C := by
  have hb : Below ((w.alloc A).alloc B).heap.size ((w.alloc A).alloc B) (((w.alloc A).alloc B).alloc C) := (Below.refl _ _).alloc (Nat.le_refl _) C
  refine ⟨blk_keep (blk_keep (heap_alloc_new w A) ((Below.refl _ _).alloc (Nat.le_refl _) B)) hb, blk_keep (heap_alloc2_new w A B) hb, ?_⟩
  have := heap_alloc_new ((w.alloc A).alloc B) C
  simpa using this
theorem cells2_at {w : World} {g : Nat} {a b : Value} {t : TypeId} (hh : w.heap[g]? = some (.cells #[a, b] t (0, 0))) : w.cell? ⟨g, 0, none⟩ = some a ∧ w.cell? ⟨g, 1, none⟩ = some b := by
  simp [World.cell?, hh]
structure Own3 (w W : World) (gM gT gR : Nat) (mc : Array Value) (x y : Int) : Prop where
  msg : W.heap[gM]? = some (.cells mc 27 (0, 0))
  tim : W.heap[gT]? = some (.cells #[.int .i64 x, .int .i64 y] 66 (0, 0))
  res : W.heap[gR]? = some (.cells (rcells noRsp) 119 (0, 0))
  below : Below w.heap.size w W
  ge : w.heap.size ≤ gT
  geR : w.heap.size ≤ gR
  ne : gM ≠ gT ∧ gR ≠ gT
theorem Own3.later {w W W' : World} {gM gT gR : Nat} {mc : Array Value} {x y : Int} (h : Own3 w W gM gT gR mc x y) (hb : Below W.heap.size W W') : Own3 w W' gM gT gR mc x y :=
  ⟨blk_keep h.msg hb, blk_keep h.tim hb, blk_keep h.res hb, h.below.trans (hb.mono h.below.size), h.ge, h.geR, h.ne⟩
theorem Own3.put0 {w W : World} {gM gT gR : Nat} {mc : Array Value} {x y : Int} (h : Own3 w W gM gT gR mc x y) (z : Int) : Own3 w (W.setCell ⟨gT, 0, none⟩ (.int .i64 z)) gM gT gR mc z y := by
  refine ⟨?_, ?_, ?_, h.below.setCell h.ge _, h.ge, h.geR, h.ne⟩
  · rw [Below.heap_setCell _ _ _ _ (by simpa using h.ne.1)]; exact h.msg
  · have := h.tim; simp [World.setCell, Array.getElem?_modify, this]
  · rw [Below.heap_setCell _ _ _ _ (by simpa using h.ne.2)]; exact h.res
theorem Own3.put1 {w W : World} {gM gT gR : Nat} {mc : Array Value} {x y : Int} (h : Own3 w W gM gT gR mc x y) (z : Int) : Own3 w (W.setCell ⟨gT, 1, none⟩ (.int .i64 z)) gM gT gR mc x z := by
  refine ⟨?_, ?_, ?_, h.below.setCell h.ge _, h.ge, h.geR, h.ne⟩
  · rw [Below.heap_setCell _ _ _ _ (by simpa using h.ne.1)]; exact h.msg
  · have := h.tim; simp [World.setCell, Array.getElem?_modify, this]
  · rw [Below.heap_setCell _ _ _ _ (by simpa using h.ne.2)]; exact h.res
theorem Own3.free {w W : World} {gM gT gR : Nat} {mc : Array Value} {x y : Int} (h : Own3 w W gM gT gR mc x y) (k : Nat) : W.frozen? ⟨gT, k, none⟩ = false := by
  simp only [World.frozen?]; rw [h.tim]; simp
theorem exec_row {P : Program} {o : Oper} {a : Act} {w : World} {T : TypeId} {x : Operand} (ho : o.op = .load T x) (g : Nat) (hx : a.eval x = .pointer (some ⟨g, 0, none⟩)) (t : TypeId) (cs : Array Value) (fr : Nat × Nat) (d : TypeDesc) (hg : w.heap[g]? = some (.cells cs t fr))
    (hu : P.underlying T = some d) (hd : (match d with | .struct _ | .array _ _ => true | _ => false) = true) (hi : (P.info? T).map (·.size) = some cs.size) : (execOp a.eval o).run P w = .ok (.value (.agg cs)) w := by
  unfold execOp
  simp only [ho, hx, Instr.loadAt, Instr.sureAddr, Sem.run_bind, Sem.run_pure, Result.andThen_ok, run_loadVar_row w g t T cs fr d hg hu hd hi]
theorem wpOp_into {P : Program} {ops : Array Oper} {Q : Exit → Act → World → Prop} {i : Nat} {o : Oper} {a : Act} {w : World} {J : Act → World → Prop} {f : FuncId} {args : Array Value} (ho : ops[i]? = some o) (hg : o.guard = none)
    (hr : (execOp a.eval o).run P w = .ok (.enter f args) w) (hc : Calls P f args w fun e w' => ∃ v, e = .returned v ∧ J (a.put o.dst v) w') : wpOp P ops Q i J a w := by
  refine wpOp_plain ho hg ?_
  unfold Oper.wp
  rw [hr]
  exact hc.mono fun e w' ⟨v, he, hJ⟩ => by subst he; exact hJ
theorem load_fields {w : World} {g k : Nat} {x : Option Addr} {l c : Nat} (h : w.cell? ⟨g, k, none⟩ = some (.slice x l c)) : (Instr.loadAt 24 (.pointer (some ⟨g, k, none⟩))).run Tryz.prog w = .ok (.slice x l c) w := by go_simp
theorem load_num {w : World} {g k : Nat} {n : Int} (h : w.cell? ⟨g, k, none⟩ = some (.int .i64 n)) : (Instr.loadAt 3 (.pointer (some ⟨g, k, none⟩))).run Tryz.prog w = .ok (.int .i64 n) w := by go_simp
theorem heap_row {w : World} {g b : Nat} {O : Obj} (h : w.heap[g]? = some O) (hne : g ≠ b) (cs : Array Value) : (w.setRow b cs).heap[g]? = some O := by
  have hne' : b ≠ g := fun e => hne e.symm
  simp [World.setRow, Array.getElem?_modify, hne', h]
theorem Own3.row {w W : World} {gM gT gR : Nat} {mc : Array Value} {x y : Int} (h : Own3 w W gM gT gR mc x y) {b : Nat} (hb : w.heap.size ≤ b) (h1 : gM ≠ b) (h2 : gT ≠ b) (h3 : gR ≠ b) (cs : Array Value) : Own3 w (W.setRow b cs) gM gT gR mc x y :=
  ⟨heap_row h.msg h1 cs, heap_row h.tim h2 cs, heap_row h.res h3 cs, Below.row h.below hb cs, h.ge, h.geR, h.ne⟩
theorem Own3.beside {w W : World} {gM gT gR : Nat} {mc : Array Value} {x y : Int} (h : Own3 w W gM gT gR mc x y) {b : Nat} (hb : w.heap.size ≤ b) (h1 : gM ≠ b) (h2 : gT ≠ b) (h3 : gR ≠ b) (k : Nat) (v : Value) : Own3 w (W.setCell ⟨b, k, none⟩ v) gM gT gR mc x y := by
  refine ⟨?_, ?_, ?_, h.below.setCell hb _, h.ge, h.geR, h.ne⟩
  · rw [Below.heap_setCell _ _ _ _ (by simpa using h1)]; exact h.msg
  · rw [Below.heap_setCell _ _ _ _ (by simpa using h2)]; exact h.tim
  · rw [Below.heap_setCell _ _ _ _ (by simpa using h3)]; exact h.res
theorem RspAt.row {w : World} {g : Nat} {r : Rsp} (h : RspAt w g r) (d : Rsp) : RspAt (w.setRow g (rcells d)) g d := by
  unfold RspAt at *
  simp [World.setRow, Array.getElem?_modify, h]
theorem RspAt.put {w : World} {g : Nat} {r d : Rsp} (h : RspAt w g r) (k : Nat) (v : Value) (hd : (rcells r).setIfInBounds k v = rcells d) : RspAt (w.setCell ⟨g, k, none⟩ v) g d := by
  unfold RspAt at *
  rw [← hd]
  simp [World.setCell, Array.getElem?_modify, h]
theorem RspAt.free {w : World} {g : Nat} {r : Rsp} (h : RspAt w g r) (k : Nat) : w.frozen? ⟨g, k, none⟩ = false := by
  unfold RspAt at h; simp only [World.frozen?]; rw [h]; simp
set_option maxHeartbeats 3200000 in
set_option maxRecDepth 100000 in
theorem responseOf_w (a b c : ByteArray) (st mi : Int) (fv bv : Value) (fs : List Fld.F) (ta tg : Int) (w : World) (hE : Env10 w) (hf : FIn w fv fs) (sb : Sl bv) (hs : Mid fs) :
    Calls Tryz.prog 105 #[mv a b st c mi fv bv, tv ta tg] w fun e w' => e = .returned (rv ⟨a, b, st, c, mi, fv, bv, Fr.ask ta, Fr.got ta tg, Fr.says fs, Fr.date D0 fs (Fr.got ta tg)⟩) ∧ Below w.heap.size w w' := by
  obtain ⟨fa, fc, hfv, hx9⟩ := id hf
  obtain ⟨ba, bl, bc, rfl⟩ := sb
  clear hx9
  rw [hfv] at hf ⊢
  clear hfv
  have c0 := fun W' => within_w ta 1099511627776 W' (by decide)
  have c1 := fun W' => within_w tg 1099511627776 W' (by decide)
  have cG := Lib.hid (fun W' (hb : Below w.heap.size w W') => Get_r (.slice fa fs.length fc) fs Fr.kCC (by decide) hs W' (hf.later hb))
  have cP := Lib.hid (fun v W' (hb : Below w.heap.size w W') (hv : SIn W' v (Fld.get fs Fr.kCC)) => Says_r v fs hs W' hv (hE.later hb).max)
  have cM := fun r (e : r.fv = .slice fa fs.length fc) W' (hb : Below w.heap.size w W') => moment_w r fs Fr.kDate (by decide) W' (e ▸ hf.later hb) hs (hE.later hb)
  have HA : Hid (Fr.ask ta = Fr.cap ta 1099511627776) := Lib.hid rfl
  have HG : Hid (Fr.got ta tg = max (Fr.cap tg 1099511627776) (Fr.cap ta 1099511627776)) := Lib.hid rfl
  have HD : Hid (∀ g, Fr.date D0 fs g = (Fr.moment D0 fs Fr.kDate).getD g) := Lib.hid fun g => rfl
  rw [show str Fr.kCC = ⟨#[99, 97, 99, 104, 101, 45, 99, 111, 110, 116, 114, 111, 108]⟩ from rfl] at cG
  rw [show str Fr.kDate = ⟨#[100, 97, 116, 101]⟩ from rfl] at cM
  rw [HA.out, HG.out, HD.out]
  clear HA HG HD hf hs hE
  generalize Fr.cap ta 1099511627776 = x at *
  generalize Fr.cap tg 1099511627776 = y' at *
  obtain ⟨y, e1⟩ : ∃ y, (if y' < x then x else y') = y := ⟨_, rfl⟩
  have e1' : max y' x = y := by rw [← e1]; split <;> omega
  rw [e1']
  generalize Fr.moment D0 fs Fr.kDate = md at *
  generalize Fr.says fs = S at *
  obtain ⟨dd, hdd⟩ : ∃ dd, md.getD y = dd := ⟨_, rfl⟩
  rw [hdd]
  have HDD := Lib.hid hdd
  clear hdd
  generalize Fld.get fs Fr.kCC = gs at *
  generalize fs.length = fl at *
  clear fs
  have h3 := three_at w (.cells #[.string a, .string b, .int .i64 st, .string c, .int .i64 mi, .slice fa fl fc, .slice ba bl bc] 27) (.cells #[.int .i64 ta, .int .i64 tg] 66) (.cells (rcells noRsp) 119)
  obtain ⟨W, hW⟩ : ∃ W, W = ((w.alloc (.cells #[.string a, .string b, .int .i64 st, .string c, .int .i64 mi, .slice fa fl fc, .slice ba bl bc] 27)).alloc (.cells #[.int .i64 ta, .int .i64 tg] 66)).alloc (.cells (rcells noRsp) 119) := ⟨_, rfl⟩
  have hW' : ((w.alloc (.cells #[.string a, .string b, .int .i64 st, .string c, .int .i64 mi, .slice fa fl fc, .slice ba bl bc] 27)).alloc (.cells #[.int .i64 ta, .int .i64 tg] 66)).alloc (.cells #[.string ⟨#[]⟩, .string ⟨#[]⟩, .int .i64 0, .string ⟨#[]⟩, .int .i64 0, .slice none 0 0, .slice none 0 0, .int .i64 0, .int .i64 0, .bool false, .bool false, .bool false, .bool false, .bool false, .bool false, .bool false, .int .i64 0, .int .i64 0, .int .i64 0, .int .i64 0, .int .i64 0] 119) = W := hW.symm
  have hbw : Below w.heap.size w W := by rw [hW]; exact (((Below.refl _ w).alloc (Nat.le_refl _) _).alloc (by simp) _).alloc (by simp; omega) _
  rw [← hW] at h3
  have hO : Own3 w W w.heap.size (w.heap.size + 1) (w.heap.size + 1 + 1) #[.string a, .string b, .int .i64 st, .string c, .int .i64 mi, .slice fa fl fc, .slice ba bl bc] ta tg := ⟨h3.1, h3.2.1, h3.2.2, hbw, by omega, by omega, by omega⟩
  clear h3 hbw hW
  unfold mv mcell tv
  go_enter Tryz.func105, Tryz.ntmps105
  go_upto_region 1 with fail
  clear hW'
  generalize w.heap.size + 1 + 1 = gR at *
  generalize w.heap.size + 1 = gT at *
  obtain ⟨gM, hgM⟩ : ∃ gM, gM = w.heap.size := ⟨_, rfl⟩
  rw [← hgM] at hO ⊢
  have HGM := Lib.hid hgM
  clear hgM
  obtain ⟨t0, t1⟩ := cells2_at hO.tim
  have q0 := hO.free 0
  have hO1 := hO.put0 x
  go_upto_region 2 with (refine (c0 W).mono ?_; rintro e w1 ⟨rfl, rfl⟩)
  generalize W.setCell ⟨gT, 0, none⟩ (.int .i64 x) = W1 at *
  clear hO t0 t1 q0 c0 W
  obtain ⟨t0, t1⟩ := cells2_at hO1.tim
  have q1 := hO1.free 1
  have hO2 := (hO1.later (W' := W1.drew) ((Below.refl _ W1).drew)).put1 y
  go_upto_region 2 with fail
  have cS : ∀ w, Calls Tryz.prog 142 #[.int .i64 tg, .int .i64 1099511627776] w fun e w' => e = .returned (.int .i64 y') ∧ w' = w := fun w => same (c1 w)
  refine wp_region_still_tail 7 (by kernel_rfl) (by kernel_rfl) ?_
  simp only [List.take_succ_cons, List.take_zero, List.drop_succ_cons, List.drop_zero]
  still_step
  still_step
  still_call (cS _)
  repeat still_step
  refine wpStill_nil ?_
  change wpList _ _ _ _ _ W1.drew
  clear cS c1 e1 e1'
  go_upto_region 3 with fail
  change Code.wp _ _ _ _ (W1.drew.setCell ⟨gT, 1, none⟩ (.int .i64 y))
  generalize W1.drew.setCell ⟨gT, 1, none⟩ (.int .i64 y) = W2 at *
  clear t0 t1 hO1 q1 W1
  go_cut [5] (fun u5 wx => ∃ w3 g, w3 = wx ∧ u5 = .pointer (some ⟨g, 0, none⟩) ∧ RspAt w3 g ⟨a, b, st, c, mi, .slice fa fl fc, .slice ba bl bc, x, y, S, y⟩ ∧ w.heap.size ≤ g ∧ gR ≠ g ∧ gM ≠ g ∧ gT ≠ g ∧ Own3 w w3 gM gT gR #[.string a, .string b, .int .i64 st, .string c, .int .i64 mi, .slice fa fl fc, .slice ba bl bc] x y)
  case first =>
    have h1 : (rcells ⟨a, b, st, c, mi, .slice fa fl fc, .slice ba bl bc, x, y, S, y⟩).all (·.oneCell') = true := rcells_one ⟨_, _, _, rfl⟩ ⟨_, _, _, rfl⟩
    have OD := hO2.later ((Below.refl _ W2).drew)
    refine wp_region_noPanic ?_
    refine wp_region_held (S := fun W' => Own3 w W' gM gT gR #[.string a, .string b, .int .i64 st, .string c, .int .i64 mi, .slice fa fl fc, .slice ba bl bc] x y) (by kernel_rfl) ?_
    change wpAnyH _ _ _ _ _ _ _ _ W2.drew
    generalize W2.drew = V0 at *
    clear hO2 W2
    refine held_of_takes (fuel := 5) (by kernel_rfl) (fun _ _ _ _ _ h => h) OD [0, 1, 2, 3, 6, 7] _ _ (by kernel_rfl) ?_
    refine Takes.val (.agg #[.string a, .string b, .int .i64 st, .string c, .int .i64 mi, .slice fa fl fc, .slice ba bl bc]) rfl rfl (fun W' h => exec_row rfl gM rfl 27 _ (0, 0) _ h.msg Tryz.underlying27 rfl (by kernel_rfl)) ?_
    refine Takes.val (.agg #[.int .i64 x, .int .i64 y]) rfl rfl (fun W' h => exec_row rfl gT rfl 66 _ (0, 0) _ h.tim Tryz.underlying66 rfl (by kernel_rfl)) ?_
    refine Takes.val (.pointer (some ⟨gM, 5, none⟩)) rfl rfl (fun _ _ => by kernel_rfl) ?_
    refine Takes.val (.slice fa fl fc) rfl rfl (fun W' h => exec_load (s := 21) rfl (by kernel_rfl) (load_fields (g := gM) (k := 5) (by rw [World.cell?, h.msg]; rfl))) ?_
    refine Takes.val (.pointer (some ⟨gT, 1, none⟩)) rfl rfl (fun _ _ => by kernel_rfl) ?_
    refine Takes.val (.int .i64 y) rfl rfl (fun W' h => exec_load (s := 25) rfl (by kernel_rfl) (load_num (g := gT) (k := 1) (by rw [World.cell?, h.tim]; rfl))) ?_
    refine wpAnyH_all (rs := [4, 9]) (by kernel_rfl) (by simp) (fun i hi => ?_)
    simp only [List.mem_cons, List.not_mem_nil, or_false] at hi
    rcases hi with rfl | rfl
    · refine wpOp_into (f := 69) (args := #[.slice fa fl fc, .string ⟨#[99, 97, 99, 104, 101, 45, 99, 111, 110, 116, 114, 111, 108]⟩]) rfl rfl (by kernel_rfl) ((cG.out _ OD.below).mono ?_)
      rintro e V1 ⟨vV1, rfl, SV1, hbV1⟩
      have OV1 := OD.later hbV1
      refine ⟨vV1, rfl, OV1, ?_⟩
      refine wpAnyH_all (rs := [5, 9]) (by kernel_rfl) (by simp) (fun i hi => ?_)
      simp only [List.mem_cons, List.not_mem_nil, or_false] at hi
      rcases hi with rfl | rfl
      · refine wpOp_into (f := 68) (args := #[vV1]) rfl rfl (by kernel_rfl) ((cP.out _ _ OV1.below SV1).mono ?_)
        rintro e V2 ⟨rfl, hbV2⟩
        have OV2 := OV1.later hbV2
        refine ⟨_, rfl, OV2, ?_⟩
        refine held_of_takes (fuel := 2) (by kernel_rfl) (fun _ _ _ _ _ h => h) OV2 [8] _ _ (by kernel_rfl) ?_
        refine Takes.val (rv ⟨a, b, st, c, mi, .slice fa fl fc, .slice ba bl bc, x, y, S, y⟩) rfl rfl (fun _ _ => by kernel_rfl) ?_
        refine wpAnyH_all (rs := [9]) (by kernel_rfl) (by simp) (fun i hi => ?_)
        obtain rfl := List.mem_singleton.1 hi
        have hbV3 : Below V2.heap.size V2 (V2.alloc (.cells (rcells noRsp) 119)) := (Below.refl _ _).alloc (Nat.le_refl _) _
        have OV3 := OV2.later hbV3
        have RV3 : RspAt (V2.alloc (.cells (rcells noRsp) 119)) V2.heap.size noRsp := RspAt.new V2 noRsp
        have gV3 : w.heap.size ≤ V2.heap.size := OV2.below.size
        have n1V3 := lt_of_block OV2.msg
        have n2V3 := lt_of_block OV2.tim
        have n3V3 := lt_of_block OV2.res
        refine wpOp_make (v := .pointer (some ⟨V2.heap.size, 0, none⟩)) (w' := V2.alloc (.cells (rcells noRsp) 119)) rfl rfl (by kernel_rfl) ⟨OV3, ?_⟩
        generalize V2.heap.size = g at *
        generalize V2.alloc (.cells (rcells noRsp) 119) = V3 at *
        refine wpAnyH_all (rs := [10]) (by kernel_rfl) (by simp) (fun i hi => ?_)
        obtain rfl := List.mem_singleton.1 hi
        refine wpOp_known (.store 119 (.tmp 5) (.tmp 27)) none (by kernel_rfl) (fun o e1 e2 => wp_store_row 119 _ _ e1 g (rcells ⟨a, b, st, c, mi, .slice fa fl fc, .slice ba bl bc, x, y, S, y⟩) (by kernel_rfl) (by kernel_rfl) 119 (rcells noRsp) RV3 (rsp_info _) rfl h1 ?_)
        rw [e2]
        have OE := OV3.row gV3 (by omega) (by omega) (by omega) (rcells ⟨a, b, st, c, mi, .slice fa fl fc, .slice ba bl bc, x, y, S, y⟩)
        have RE := RV3.row ⟨a, b, st, c, mi, .slice fa fl fc, .slice ba bl bc, x, y, S, y⟩
        refine ⟨OE, ?_⟩
        refine wpAnyH_done (P := Tryz.prog) (by kernel_rfl) ?_ 0
        generalize V3.setRow g (rcells ⟨a, b, st, c, mi, .slice fa fl fc, .slice ba bl bc, x, y, S, y⟩) = VE at *
        refine NoPanic.normal ?_
        go_simp
        go_wp2_with fail
        go_meet
        case rel => exact ⟨_, g, rfl, rfl, RE, gV3, by omega, by omega, by omega, OE⟩
      · have hbV2 : Below V1.heap.size V1 (V1.alloc (.cells (rcells noRsp) 119)) := (Below.refl _ _).alloc (Nat.le_refl _) _
        have OV2 := OV1.later hbV2
        have RV2 : RspAt (V1.alloc (.cells (rcells noRsp) 119)) V1.heap.size noRsp := RspAt.new V1 noRsp
        have gV2 : w.heap.size ≤ V1.heap.size := OV1.below.size
        have n1V2 := lt_of_block OV1.msg
        have n2V2 := lt_of_block OV1.tim
        have n3V2 := lt_of_block OV1.res
        refine wpOp_make (v := .pointer (some ⟨V1.heap.size, 0, none⟩)) (w' := V1.alloc (.cells (rcells noRsp) 119)) rfl rfl (by kernel_rfl) ⟨OV2, ?_⟩
        have SV2 := SV1.later hbV2
        generalize V1.heap.size = g at *
        generalize V1.alloc (.cells (rcells noRsp) 119) = V2 at *
        refine wpAnyH_all (rs := [5]) (by kernel_rfl) (by simp) (fun i hi => ?_)
        obtain rfl := List.mem_singleton.1 hi
        refine wpOp_into (f := 68) (args := #[vV1]) rfl rfl (by kernel_rfl) ((cP.out _ _ OV2.below SV2).mono ?_)
        rintro e V3 ⟨rfl, hbV3⟩
        have OV3 := OV2.later hbV3
        refine ⟨_, rfl, OV3, ?_⟩
        have RV3 := RV2.later hbV3
        refine held_of_takes (fuel := 1) (by kernel_rfl) (fun _ _ _ _ _ h => h) OV3 [8] _ _ (by kernel_rfl) ?_
        refine Takes.val (rv ⟨a, b, st, c, mi, .slice fa fl fc, .slice ba bl bc, x, y, S, y⟩) rfl rfl (fun _ _ => by kernel_rfl) ?_
        refine wpAnyH_all (rs := [10]) (by kernel_rfl) (by simp) (fun i hi => ?_)
        obtain rfl := List.mem_singleton.1 hi
        refine wpOp_known (.store 119 (.tmp 5) (.tmp 27)) none (by kernel_rfl) (fun o e1 e2 => wp_store_row 119 _ _ e1 g (rcells ⟨a, b, st, c, mi, .slice fa fl fc, .slice ba bl bc, x, y, S, y⟩) (by kernel_rfl) (by kernel_rfl) 119 (rcells noRsp) RV3 (rsp_info _) rfl h1 ?_)
        rw [e2]
        have OE := OV3.row gV2 (by omega) (by omega) (by omega) (rcells ⟨a, b, st, c, mi, .slice fa fl fc, .slice ba bl bc, x, y, S, y⟩)
        have RE := RV3.row ⟨a, b, st, c, mi, .slice fa fl fc, .slice ba bl bc, x, y, S, y⟩
        refine ⟨OE, ?_⟩
        refine wpAnyH_done (P := Tryz.prog) (by kernel_rfl) ?_ 0
        generalize V3.setRow g (rcells ⟨a, b, st, c, mi, .slice fa fl fc, .slice ba bl bc, x, y, S, y⟩) = VE at *
        refine NoPanic.normal ?_
        go_simp
        go_wp2_with fail
        go_meet
        case rel => exact ⟨_, g, rfl, rfl, RE, gV2, by omega, by omega, by omega, OE⟩
    · have hbV1 : Below V0.heap.size V0 (V0.alloc (.cells (rcells noRsp) 119)) := (Below.refl _ _).alloc (Nat.le_refl _) _
      have OV1 := OD.later hbV1
      have RV1 : RspAt (V0.alloc (.cells (rcells noRsp) 119)) V0.heap.size noRsp := RspAt.new V0 noRsp
      have gV1 : w.heap.size ≤ V0.heap.size := OD.below.size
      have n1V1 := lt_of_block OD.msg
      have n2V1 := lt_of_block OD.tim
      have n3V1 := lt_of_block OD.res
      refine wpOp_make (v := .pointer (some ⟨V0.heap.size, 0, none⟩)) (w' := V0.alloc (.cells (rcells noRsp) 119)) rfl rfl (by kernel_rfl) ⟨OV1, ?_⟩
      generalize V0.heap.size = g at *
      generalize V0.alloc (.cells (rcells noRsp) 119) = V1 at *
      refine wpAnyH_all (rs := [4]) (by kernel_rfl) (by simp) (fun i hi => ?_)
      obtain rfl := List.mem_singleton.1 hi
      refine wpOp_into (f := 69) (args := #[.slice fa fl fc, .string ⟨#[99, 97, 99, 104, 101, 45, 99, 111, 110, 116, 114, 111, 108]⟩]) rfl rfl (by kernel_rfl) ((cG.out _ OV1.below).mono ?_)
      rintro e V2 ⟨vV2, rfl, SV2, hbV2⟩
      have OV2 := OV1.later hbV2
      refine ⟨vV2, rfl, OV2, ?_⟩
      have RV2 := RV1.later hbV2
      refine wpAnyH_all (rs := [5]) (by kernel_rfl) (by simp) (fun i hi => ?_)
      obtain rfl := List.mem_singleton.1 hi
      refine wpOp_into (f := 68) (args := #[vV2]) rfl rfl (by kernel_rfl) ((cP.out _ _ OV2.below SV2).mono ?_)
      rintro e V3 ⟨rfl, hbV3⟩
      have OV3 := OV2.later hbV3
      refine ⟨_, rfl, OV3, ?_⟩
      have RV3 := RV2.later hbV3
      refine held_of_takes (fuel := 1) (by kernel_rfl) (fun _ _ _ _ _ h => h) OV3 [8] _ _ (by kernel_rfl) ?_
      refine Takes.val (rv ⟨a, b, st, c, mi, .slice fa fl fc, .slice ba bl bc, x, y, S, y⟩) rfl rfl (fun _ _ => by kernel_rfl) ?_
      refine wpAnyH_all (rs := [10]) (by kernel_rfl) (by simp) (fun i hi => ?_)
      obtain rfl := List.mem_singleton.1 hi
      refine wpOp_known (.store 119 (.tmp 5) (.tmp 27)) none (by kernel_rfl) (fun o e1 e2 => wp_store_row 119 _ _ e1 g (rcells ⟨a, b, st, c, mi, .slice fa fl fc, .slice ba bl bc, x, y, S, y⟩) (by kernel_rfl) (by kernel_rfl) 119 (rcells noRsp) RV3 (rsp_info _) rfl h1 ?_)
      rw [e2]
      have OE := OV3.row gV1 (by omega) (by omega) (by omega) (rcells ⟨a, b, st, c, mi, .slice fa fl fc, .slice ba bl bc, x, y, S, y⟩)
      have RE := RV3.row ⟨a, b, st, c, mi, .slice fa fl fc, .slice ba bl bc, x, y, S, y⟩
      refine ⟨OE, ?_⟩
      refine wpAnyH_done (P := Tryz.prog) (by kernel_rfl) ?_ 0
      generalize V3.setRow g (rcells ⟨a, b, st, c, mi, .slice fa fl fc, .slice ba bl bc, x, y, S, y⟩) = VE at *
      refine NoPanic.normal ?_
      go_simp
      go_wp2_with fail
      go_meet
      case rel => exact ⟨_, g, rfl, rfl, RE, gV1, by omega, by omega, by omega, OE⟩
  case rest =>
    obtain ⟨w3, g, rfl, rfl, hR, hge, hne, hneM, hneT, hO⟩ := hcut
    clear cG cP
    have cMm := cM ⟨a, b, st, c, mi, .slice fa fl fc, .slice ba bl bc, x, y, S, y⟩ rfl w3 hO.below
    clear cM
    unfold RspAt at hR
    unfold rv at cMm
    match md with
    | none =>
      rw [show mo none = .tuple #[.int .i64 0, .bool false] from rfl] at cMm
      have hi := rsp_info ⟨a, b, st, c, mi, .slice fa fl fc, .slice ba bl bc, x, y, S, y⟩
      have h1 : (rcells ⟨a, b, st, c, mi, .slice fa fl fc, .slice ba bl bc, x, y, S, y⟩).all (·.oneCell') = true := rcells_one ⟨_, _, _, rfl⟩ ⟨_, _, _, rfl⟩
      have hsz : (rcells noRsp).size = (rcells ⟨a, b, st, c, mi, .slice fa fl fc, .slice ba bl bc, x, y, S, y⟩).size := rfl
      have HV : Hid (Value.agg (rcells ⟨a, b, st, c, mi, .slice fa fl fc, .slice ba bl bc, x, y, S, y⟩) = rv ⟨a, b, st, c, mi, .slice fa fl fc, .slice ba bl bc, x, y, S, dd⟩) := Lib.hid (by rw [← show y = dd from HDD.out]; rfl)
      generalize rcells ⟨a, b, st, c, mi, .slice fa fl fc, .slice ba bl bc, x, y, S, y⟩ = cc at *
      go_upto_region 4 with fail
      go_wp2_with (refine wpList_load_row rfl 119 _ rfl g rfl 119 cc (0, 0) _ hR Tryz.underlying119 rfl hi ?_)
      refine cMm.mono ?_
      rintro e w4 ⟨rfl, hb4⟩
      have hR4 := blk_keep hR hb4
      have hO4 := hO.later hb4
      have HB := Lib.hid (Below.row hO4.below (show w.heap.size ≤ gR from hO4.geR) cc)
      have HF := Lib.hid (setRow_heap w4 gR (rcells noRsp) cc 119 (0, 0) hO4.res)
      have hres := hO4.res
      clear cMm hb4 hR hO
      go_wp2_with (first | refine wpList_load_row rfl 119 _ rfl g rfl 119 cc (0, 0) _ hR4 Tryz.underlying119 rfl hi ?_ | refine wpList_store_row rfl 119 _ _ rfl gR cc rfl rfl 119 (rcells noRsp) hres hi hsz h1 ?_)
      (try simp only [Exit.inBlock, Exit.then])
      refine bodyPost_ret (v := .agg cc) ?h1 ?h2 ?h3
      case h1 => exact results_cell_row rfl _ _ gR _ cc (0, 0) _ rfl HF.out Tryz.underlying119 rfl hi
      case h2 => rfl
      case h3 => exact ⟨congrArg Ending.returned HV.out, HB.out⟩
    | some m =>
      rw [show mo (some m) = .tuple #[.int .i64 m, .bool true] from rfl] at cMm
      have hi := rsp_info ⟨a, b, st, c, mi, .slice fa fl fc, .slice ba bl bc, x, y, S, y⟩
      have hRb : RspAt w3 g ⟨a, b, st, c, mi, .slice fa fl fc, .slice ba bl bc, x, y, S, y⟩ := hR
      generalize hcc : rcells ⟨a, b, st, c, mi, .slice fa fl fc, .slice ba bl bc, x, y, S, y⟩ = cc at *
      have HV : Hid (Value.agg (rcells ⟨a, b, st, c, mi, .slice fa fl fc, .slice ba bl bc, x, y, S, m⟩) = rv ⟨a, b, st, c, mi, .slice fa fl fc, .slice ba bl bc, x, y, S, dd⟩) := Lib.hid (by rw [← show m = dd from HDD.out]; rfl)
      go_upto_region 4 with fail
      go_wp2_with (refine wpList_load_row rfl 119 _ rfl g rfl 119 cc (0, 0) _ hR Tryz.underlying119 rfl hi ?_)
      refine cMm.mono ?_
      rintro e w4 ⟨rfl, hb4⟩
      have hR4 := hRb.later hb4
      have hO4 := hO.later hb4
      have fz := hR4.free 20
      have k20 := hR4.cell 20
      change _ = some (Value.int .i64 y) at k20
      have hR5 : RspAt (w4.setCell ⟨g, 20, none⟩ (.int .i64 m)) g ⟨a, b, st, c, mi, .slice fa fl fc, .slice ba bl bc, x, y, S, m⟩ := hR4.put 20 (.int .i64 m) rfl
      have hO5 := hO4.beside hge hneM hneT hne 20 (.int .i64 m)
      go_upto_region 7 with fail
      generalize w4.setCell ⟨g, 20, none⟩ (.int .i64 m) = w5 at *
      clear hR4 hO4 fz k20 hb4 hR hRb cMm hO w4
      have hi := rsp_info ⟨a, b, st, c, mi, .slice fa fl fc, .slice ba bl bc, x, y, S, m⟩
      have h1 : (rcells ⟨a, b, st, c, mi, .slice fa fl fc, .slice ba bl bc, x, y, S, m⟩).all (·.oneCell') = true := rcells_one ⟨_, _, _, rfl⟩ ⟨_, _, _, rfl⟩
      have hsz : (rcells noRsp).size = (rcells ⟨a, b, st, c, mi, .slice fa fl fc, .slice ba bl bc, x, y, S, m⟩).size := rfl
      unfold RspAt at hR5
      generalize rcells ⟨a, b, st, c, mi, .slice fa fl fc, .slice ba bl bc, x, y, S, m⟩ = cd at *
      have HB := Lib.hid (Below.row hO5.below (show w.heap.size ≤ gR from hO5.geR) cd)
      have HF := Lib.hid (setRow_heap w5 gR (rcells noRsp) cd 119 (0, 0) hO5.res)
      have hres := hO5.res
      go_wp2_with (first | refine wpList_load_row rfl 119 _ rfl g rfl 119 cd (0, 0) _ hR5 Tryz.underlying119 rfl hi ?_ | refine wpList_store_row rfl 119 _ _ rfl gR cd rfl rfl 119 (rcells noRsp) hres hi hsz h1 ?_)
      (try simp only [Exit.inBlock, Exit.then])
      refine bodyPost_ret (v := .agg cd) ?h1 ?h2 ?h3
      case h1 => exact results_cell_row rfl _ _ gR _ cd (0, 0) _ rfl HF.out Tryz.underlying119 rfl hi
      case h2 => rfl
      case h3 => exact ⟨congrArg Ending.returned HV.out, HB.out⟩
end Go.Proofs.YtoanelobggledaaGreatDoor

