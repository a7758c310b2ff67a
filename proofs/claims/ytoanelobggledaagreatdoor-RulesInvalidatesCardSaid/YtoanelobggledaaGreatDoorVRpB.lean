/- Package rules, the program's side: is one of some texts so? -/
import Derived.Test.YtoanelobggledaaGreatDoorVVrBase
import Derived.Test.YtoanelobggledaaGreatDoorVRpA
namespace Go.Proofs.YtoanelobggledaaGreatDoor
open Go.RowKit

theorem any_missP (ns : List (List UInt8)) (p : List UInt8 → Bool) (k : Nat) (h : k < ns.length) (hp : p ns[k] = false) (ht : (ns.take k).any p = false) : (ns.take (k + 1)).any p = false := by
  rw [List.take_succ_eq_append_getElem h, List.any_append, ht]; simp [hp]
set_option maxHeartbeats 1600000 in
set_option maxRecDepth 100000 in
theorem Index_0 (p : List UInt8 → Bool) (vn : Value) (ns : List (List UInt8)) (w : World) (hn : SIn w vn ns) (hnl : ns.length ≤ 1000000000) (hnz : ∀ n ∈ ns, n.length ≤ 1000000) (hp : ∀ nm : List UInt8, nm.length ≤ 1000000 → ∀ w1, Below w.heap.size w w1 → Calls Tryz.prog 70 #[.string (str nm)] w1 fun e w' => e = .returned (.bool (p nm)) ∧ Below w1.heap.size w1 w') :
    Calls Tryz.prog 97 #[vn, .func (.func 70) #[] #[]] w fun e w' => ∃ i : Int, e = .returned (.int .i64 i) ∧ -1 ≤ i ∧ i ≤ 1000000000 ∧ (decide (0 ≤ i) = ns.any p) ∧ Below w.heap.size w w' := by
  have HP := Lib.hid hp
  have HZ := Lib.hid hnz
  obtain ⟨n, hnn⟩ : ∃ n, n = ns.length := ⟨_, rfl⟩
  have HN := Lib.hid hnn
  by_cases h0 : ns = []
  · obtain ⟨ao, cap, rfl, _⟩ := hn
    have HE := Lib.hid h0
    have e0 : ns.length = 0 := by rw [h0]; rfl
    rw [e0]
    clear h0 hnn hnz e0 hp
    go_enter Tryz.func97, Tryz.ntmps97
    go_wp2_with fail
    refine wp_loop_rounds 1 ?_
    rw [rounds_succ]
    go_wp2_with fail
    go_ret
    exact ⟨-1, rfl, by omega, by omega, by rw [HE.out]; rfl, Below.refl _ _⟩
  obtain ⟨bn, on, cn, rfl, hc⟩ := hn.at_ h0
  rw [← hnn] at hnl ⊢
  have HC := Lib.hid hc
  clear h0 hnz hnn hc hp hn
  go_enter Tryz.func97, Tryz.ntmps97
  go_wp2_with fail
  go_loopw [8] (fun i wr => ∃ k : Nat, k ≤ n ∧ i = .int .i64 k ∧ Below w.heap.size w wr ∧ Hid ((ns.take k).any p = false)) (fun i _ => n - (intOf i).toNat)
  case atStart => exact ⟨0, by omega, rfl, Below.refl _ _, Lib.hid rfl⟩
  case round =>
    obtain ⟨k, hk, rfl, hbr, HT⟩ := hrel
    by_cases hlt : k < n
    · have ka : k < ns.length := by have := HN.out; omega
      have c1 := HC.out wr hbr k ka
      have cP := HP.out ns[k] (HZ.out _ (List.getElem_mem ka)) wr hbr
      cases hp : p ns[k] with
      | false =>
        have HY := Lib.hid (any_missP ns p k ka hp)
        rw [hp] at cP
        generalize str ns[k] = x at c1 cP
        clear hp
        go_wp2_with fail
        refine cP.mono ?_
        rintro e w2 ⟨rfl, hb2⟩
        go_wp2_with fail
        go_roundw
        case rel => exact ⟨k + 1, by omega, by go_num, hbr.trans (hb2.mono hbr.size), Lib.hid (HY.out HT.out)⟩
        case measure => simp [intOf]; omega
      | true =>
        have HY := Lib.hid ((List.any_eq_true.2 ⟨_, List.getElem_mem ka, hp⟩ : ns.any p = true))
        rw [hp] at cP
        generalize str ns[k] = x at c1 cP
        clear hp
        go_wp2_with fail
        refine cP.mono ?_
        rintro e w2 ⟨rfl, hb2⟩
        go_wp2_with fail
        go_ret
        exact ⟨k, rfl, by omega, by omega, by rw [HY.out]; simp, hbr.trans (hb2.mono hbr.size)⟩
    · have HE := Lib.hid (show ns.take k = ns from List.take_of_length_le (by have := HN.out; omega))
      go_wp2_with fail
      go_ret
      exact ⟨-1, rfl, by omega, by omega, by rw [← HE.out, HT.out]; rfl, hbr⟩
set_option maxHeartbeats 1600000 in
set_option maxRecDepth 100000 in
theorem Contains_0 (p : List UInt8 → Bool) (vn : Value) (ns : List (List UInt8)) (w : World) (hn : SIn w vn ns) (hnl : ns.length ≤ 1000000000) (hnz : ∀ n ∈ ns, n.length ≤ 1000000) (hp : ∀ nm : List UInt8, nm.length ≤ 1000000 → ∀ w1, Below w.heap.size w w1 → Calls Tryz.prog 70 #[.string (str nm)] w1 fun e w' => e = .returned (.bool (p nm)) ∧ Below w1.heap.size w1 w') :
    Calls Tryz.prog 65 #[vn, .func (.func 70) #[] #[]] w fun e w' => e = .returned (.bool (ns.any p)) ∧ Below w.heap.size w w' := by
  have c := Index_0  p vn ns w hn hnl hnz hp
  obtain ⟨ao, cap, rfl, _⟩ := hn
  clear hp hnz hnl
  go_enter Tryz.func65, Tryz.ntmps65
  go_wp2_with fail
  refine c.mono ?_
  rintro e w1 ⟨i, rfl, hi1, hi2, hi3, hb1⟩
  have HI := Lib.hid hi3
  clear hi3 c
  go_wp2_with fail
  go_ret
  exact ⟨by rw [← HI.out]; rfl, hb1⟩
set_option maxHeartbeats 1600000 in
set_option maxRecDepth 100000 in
theorem Index_1 (cp : Value) (p : List UInt8 → Bool) (vn : Value) (ns : List (List UInt8)) (w : World) (hn : SIn w vn ns) (hnl : ns.length ≤ 1000000000) (hnz : ∀ n ∈ ns, n.length ≤ 1000000) (hp : ∀ nm : List UInt8, nm.length ≤ 1000000 → ∀ w1, Below w.heap.size w w1 → Calls Tryz.prog 71 #[.string (str nm), cp] w1 fun e w' => e = .returned (.bool (p nm)) ∧ Below w1.heap.size w1 w') :
    Calls Tryz.prog 97 #[vn, .func (.func 71) #[] #[cp]] w fun e w' => ∃ i : Int, e = .returned (.int .i64 i) ∧ -1 ≤ i ∧ i ≤ 1000000000 ∧ (decide (0 ≤ i) = ns.any p) ∧ Below w.heap.size w w' := by
  have HP := Lib.hid hp
  have HZ := Lib.hid hnz
  obtain ⟨n, hnn⟩ : ∃ n, n = ns.length := ⟨_, rfl⟩
  have HN := Lib.hid hnn
  by_cases h0 : ns = []
  · obtain ⟨ao, cap, rfl, _⟩ := hn
    have HE := Lib.hid h0
    have e0 : ns.length = 0 := by rw [h0]; rfl
    rw [e0]
    clear h0 hnn hnz e0 hp
    go_enter Tryz.func97, Tryz.ntmps97
    go_wp2_with fail
    refine wp_loop_rounds 1 ?_
    rw [rounds_succ]
    go_wp2_with fail
    go_ret
    exact ⟨-1, rfl, by omega, by omega, by rw [HE.out]; rfl, Below.refl _ _⟩
  obtain ⟨bn, on, cn, rfl, hc⟩ := hn.at_ h0
  rw [← hnn] at hnl ⊢
  have HC := Lib.hid hc
  clear h0 hnz hnn hc hp hn
  go_enter Tryz.func97, Tryz.ntmps97
  go_wp2_with fail
  go_loopw [8] (fun i wr => ∃ k : Nat, k ≤ n ∧ i = .int .i64 k ∧ Below w.heap.size w wr ∧ Hid ((ns.take k).any p = false)) (fun i _ => n - (intOf i).toNat)
  case atStart => exact ⟨0, by omega, rfl, Below.refl _ _, Lib.hid rfl⟩
  case round =>
    obtain ⟨k, hk, rfl, hbr, HT⟩ := hrel
    by_cases hlt : k < n
    · have ka : k < ns.length := by have := HN.out; omega
      have c1 := HC.out wr hbr k ka
      have cP := HP.out ns[k] (HZ.out _ (List.getElem_mem ka)) wr hbr
      cases hp : p ns[k] with
      | false =>
        have HY := Lib.hid (any_missP ns p k ka hp)
        rw [hp] at cP
        generalize str ns[k] = x at c1 cP
        clear hp
        go_wp2_with fail
        refine cP.mono ?_
        rintro e w2 ⟨rfl, hb2⟩
        go_wp2_with fail
        go_roundw
        case rel => exact ⟨k + 1, by omega, by go_num, hbr.trans (hb2.mono hbr.size), Lib.hid (HY.out HT.out)⟩
        case measure => simp [intOf]; omega
      | true =>
        have HY := Lib.hid ((List.any_eq_true.2 ⟨_, List.getElem_mem ka, hp⟩ : ns.any p = true))
        rw [hp] at cP
        generalize str ns[k] = x at c1 cP
        clear hp
        go_wp2_with fail
        refine cP.mono ?_
        rintro e w2 ⟨rfl, hb2⟩
        go_wp2_with fail
        go_ret
        exact ⟨k, rfl, by omega, by omega, by rw [HY.out]; simp, hbr.trans (hb2.mono hbr.size)⟩
    · have HE := Lib.hid (show ns.take k = ns from List.take_of_length_le (by have := HN.out; omega))
      go_wp2_with fail
      go_ret
      exact ⟨-1, rfl, by omega, by omega, by rw [← HE.out, HT.out]; rfl, hbr⟩
set_option maxHeartbeats 1600000 in
set_option maxRecDepth 100000 in
theorem Contains_1 (cp : Value) (p : List UInt8 → Bool) (vn : Value) (ns : List (List UInt8)) (w : World) (hn : SIn w vn ns) (hnl : ns.length ≤ 1000000000) (hnz : ∀ n ∈ ns, n.length ≤ 1000000) (hp : ∀ nm : List UInt8, nm.length ≤ 1000000 → ∀ w1, Below w.heap.size w w1 → Calls Tryz.prog 71 #[.string (str nm), cp] w1 fun e w' => e = .returned (.bool (p nm)) ∧ Below w1.heap.size w1 w') :
    Calls Tryz.prog 65 #[vn, .func (.func 71) #[] #[cp]] w fun e w' => e = .returned (.bool (ns.any p)) ∧ Below w.heap.size w w' := by
  have c := Index_1 cp p vn ns w hn hnl hnz hp
  obtain ⟨ao, cap, rfl, _⟩ := hn
  clear hp hnz hnl
  go_enter Tryz.func65, Tryz.ntmps65
  go_wp2_with fail
  refine c.mono ?_
  rintro e w1 ⟨i, rfl, hi1, hi2, hi3, hb1⟩
  have HI := Lib.hid hi3
  clear hi3 c
  go_wp2_with fail
  go_ret
  exact ⟨by rw [← HI.out]; rfl, hb1⟩
set_option maxHeartbeats 1600000 in
set_option maxRecDepth 100000 in
theorem Index_2 (cp : Value) (p : List UInt8 → Bool) (vn : Value) (ns : List (List UInt8)) (w : World) (hn : SIn w vn ns) (hnl : ns.length ≤ 1000000000) (hnz : ∀ n ∈ ns, n.length ≤ 1000000) (hp : ∀ nm : List UInt8, nm.length ≤ 1000000 → ∀ w1, Below w.heap.size w w1 → Calls Tryz.prog 67 #[.string (str nm), cp] w1 fun e w' => e = .returned (.bool (p nm)) ∧ Below w1.heap.size w1 w') :
    Calls Tryz.prog 97 #[vn, .func (.func 67) #[] #[cp]] w fun e w' => ∃ i : Int, e = .returned (.int .i64 i) ∧ -1 ≤ i ∧ i ≤ 1000000000 ∧ (decide (0 ≤ i) = ns.any p) ∧ Below w.heap.size w w' := by
  have HP := Lib.hid hp
  have HZ := Lib.hid hnz
  obtain ⟨n, hnn⟩ : ∃ n, n = ns.length := ⟨_, rfl⟩
  have HN := Lib.hid hnn
  by_cases h0 : ns = []
  · obtain ⟨ao, cap, rfl, _⟩ := hn
    have HE := Lib.hid h0
    have e0 : ns.length = 0 := by rw [h0]; rfl
    rw [e0]
    clear h0 hnn hnz e0 hp
    go_enter Tryz.func97, Tryz.ntmps97
    go_wp2_with fail
    refine wp_loop_rounds 1 ?_
    rw [rounds_succ]
    go_wp2_with fail
    go_ret
    exact ⟨-1, rfl, by omega, by omega, by rw [HE.out]; rfl, Below.refl _ _⟩
  obtain ⟨bn, on, cn, rfl, hc⟩ := hn.at_ h0
  rw [← hnn] at hnl ⊢
  have HC := Lib.hid hc
  clear h0 hnz hnn hc hp hn
  go_enter Tryz.func97, Tryz.ntmps97
  go_wp2_with fail
  go_loopw [8] (fun i wr => ∃ k : Nat, k ≤ n ∧ i = .int .i64 k ∧ Below w.heap.size w wr ∧ Hid ((ns.take k).any p = false)) (fun i _ => n - (intOf i).toNat)
  case atStart => exact ⟨0, by omega, rfl, Below.refl _ _, Lib.hid rfl⟩
  case round =>
    obtain ⟨k, hk, rfl, hbr, HT⟩ := hrel
    by_cases hlt : k < n
    · have ka : k < ns.length := by have := HN.out; omega
      have c1 := HC.out wr hbr k ka
      have cP := HP.out ns[k] (HZ.out _ (List.getElem_mem ka)) wr hbr
      cases hp : p ns[k] with
      | false =>
        have HY := Lib.hid (any_missP ns p k ka hp)
        rw [hp] at cP
        generalize str ns[k] = x at c1 cP
        clear hp
        go_wp2_with fail
        refine cP.mono ?_
        rintro e w2 ⟨rfl, hb2⟩
        go_wp2_with fail
        go_roundw
        case rel => exact ⟨k + 1, by omega, by go_num, hbr.trans (hb2.mono hbr.size), Lib.hid (HY.out HT.out)⟩
        case measure => simp [intOf]; omega
      | true =>
        have HY := Lib.hid ((List.any_eq_true.2 ⟨_, List.getElem_mem ka, hp⟩ : ns.any p = true))
        rw [hp] at cP
        generalize str ns[k] = x at c1 cP
        clear hp
        go_wp2_with fail
        refine cP.mono ?_
        rintro e w2 ⟨rfl, hb2⟩
        go_wp2_with fail
        go_ret
        exact ⟨k, rfl, by omega, by omega, by rw [HY.out]; simp, hbr.trans (hb2.mono hbr.size)⟩
    · have HE := Lib.hid (show ns.take k = ns from List.take_of_length_le (by have := HN.out; omega))
      go_wp2_with fail
      go_ret
      exact ⟨-1, rfl, by omega, by omega, by rw [← HE.out, HT.out]; rfl, hbr⟩
set_option maxHeartbeats 1600000 in
set_option maxRecDepth 100000 in
theorem Contains_2 (cp : Value) (p : List UInt8 → Bool) (vn : Value) (ns : List (List UInt8)) (w : World) (hn : SIn w vn ns) (hnl : ns.length ≤ 1000000000) (hnz : ∀ n ∈ ns, n.length ≤ 1000000) (hp : ∀ nm : List UInt8, nm.length ≤ 1000000 → ∀ w1, Below w.heap.size w w1 → Calls Tryz.prog 67 #[.string (str nm), cp] w1 fun e w' => e = .returned (.bool (p nm)) ∧ Below w1.heap.size w1 w') :
    Calls Tryz.prog 65 #[vn, .func (.func 67) #[] #[cp]] w fun e w' => e = .returned (.bool (ns.any p)) ∧ Below w.heap.size w w' := by
  have c := Index_2 cp p vn ns w hn hnl hnz hp
  obtain ⟨ao, cap, rfl, _⟩ := hn
  clear hp hnz hnl
  go_enter Tryz.func65, Tryz.ntmps65
  go_wp2_with fail
  refine c.mono ?_
  rintro e w1 ⟨i, rfl, hi1, hi2, hi3, hb1⟩
  have HI := Lib.hid hi3
  clear hi3 c
  go_wp2_with fail
  go_ret
  exact ⟨by rw [← HI.out]; rfl, hb1⟩
end Go.Proofs.YtoanelobggledaaGreatDoor

namespace Go.Proofs.YtoanelobggledaaGreatDoor
open Go.RowKit

structure Mx where
  a : ByteArray
  b : ByteArray
  c : ByteArray
  st : Int
  mi : Int
  fv : Value
  bv : Value
  s : Ctl.C
def xcells (x : Mx) : Array Value := #[.string x.a, .string x.b, .int .i64 x.st, .string x.c, .int .i64 x.mi, x.fv, x.bv, .bool x.s.ns, .bool x.s.nc, .bool x.s.pu, .bool x.s.pr, .bool x.s.mu, .bool x.s.px, .bool x.s.oi, .int .i64 x.s.ma, .int .i64 x.s.sa, .int .i64 x.s.ms, .int .i64 x.s.mf]
def xv (x : Mx) : Value := .agg (xcells x)
def XAt (w : World) (g : Nat) (x : Mx) : Prop := w.heap[g]? = some (.cells (xcells x) 58 (0, 0))
theorem XAt.lt {w : World} {g : Nat} {x : Mx} (h : XAt w g x) : g < w.heap.size := lt_of_block h
theorem XAt.later {w w' : World} {g : Nat} {x : Mx} (h : XAt w g x) (hb : Below w.heap.size w w') : XAt w' g x := by
  unfold XAt; rw [hb.block g h.lt]; exact h
theorem XAt.cell {w : World} {g : Nat} {x : Mx} (h : XAt w g x) (k : Nat) : w.cell? ⟨g, k, none⟩ = (xcells x)[k]? := by
  simp only [World.cell?, XAt] at *; rw [h]; rfl
theorem XAt.new (w : World) (x : Mx) : XAt (w.alloc (.cells (xcells x) 58)) w.heap.size x := heap_alloc_new w _
theorem xcells_one {x : Mx} (hf : Sl x.fv) (hb : Sl x.bv) : (xcells x).all (·.oneCell') = true := by
  obtain ⟨p, l, c, hf⟩ := hf
  obtain ⟨q, m, e, hb⟩ := hb
  unfold xcells
  rw [hf, hb]
  simp [Value.oneCell']
theorem x_info (x : Mx) : (Tryz.prog.info? 58).map (·.size) = some (xcells x).size := by kernel_rfl
theorem wpList_row_if {P : Program} {ops : Array Oper} {rest : List Oper} {o : Oper} {a : Act} {w : World} {Q : Exit → Act → World → Prop} (hgd : Region.wanted o (yielded ops a.tmps) = true) (ty : TypeId) (x : Operand) (ho : o.op = .load ty x)
    (g : Nat) (hx : a.eval x = .pointer (some ⟨g, 0, none⟩)) (t : TypeId) (cs : Array Value) (fr : Nat × Nat) (d : TypeDesc) (hg : w.heap[g]? = some (.cells cs t fr))
    (hu : P.underlying ty = some d) (hd : (match d with | .struct _ | .array _ _ => true | _ => false) = true) (hi : (P.info? ty).map (·.size) = some cs.size)
    (h : wpList P ops Q rest (a.put o.dst (.agg cs)) w) : wpList P ops Q (o :: rest) a w := by
  unfold wpList
  rw [if_pos hgd]
  exact .inl (wp_load_row ty x ho g hx t cs fr d hg hu hd hi h)
def onp (o : Option (List UInt8)) : Value := .tuple #[.string (str (o.getD [])), .bool o.isSome]
theorem One_p (fv : Value) (fs : List Fld.F) (nm : List UInt8) (w : World) (hf : FIn w fv fs) (hs : Mid fs) (hn : nm.length ≤ 1000) :
    Calls Tryz.prog 86 #[fv, .string (str nm)] w fun e w' => e = .returned (onp (Rl.one fs nm)) ∧ Below w.heap.size w w' := by
  by_cases h : (Fld.get fs nm).length = 1
  · obtain ⟨v, hv⟩ := List.length_eq_one_iff.1 h
    have := One_yes fv fs nm v w hf hs.small (by omega) hv
    rw [show Rl.one fs nm = some v by unfold Rl.one; rw [hv]]
    exact this
  · have := One_no fv fs nm w hf hs.small (by omega) h
    rw [show Rl.one fs nm = none by
      unfold Rl.one
      split
      · rename_i v hv; rw [hv] at h; exact absurd rfl h
      · rfl]
    exact this
theorem Split_p (v : Value) (ls : List (List UInt8)) (w : World) (hv : SIn w v ls) (hn : ls.length ≤ 1000) (hl : ∀ l ∈ ls, l.length ≤ 1000000) :
    Calls Tryz.prog 84 #[v] w fun e w' => ∃ u, e = .returned u ∧ SBuf w w' u (Oct.splitAll ls) :=
  (Split_s v ls w hv hn hl).mono fun e w' ⟨u, he, ho, hb⟩ => ⟨u, he, row_from ho (by omega), hb⟩
theorem isNoCache_w (p : List UInt8) (w : World) (hp : p.length ≤ 1000000) :
    Calls Tryz.prog 70 #[.string (str p)] w fun e w' => e = .returned (.bool (Oct.lower p == Rl.kNoCache)) ∧ Below w.heap.size w w' := by
  have cL := Lower_big (str p) w (by rw [str_size]; omega)
  rw [str_list] at cL
  have HX : Hid ((Oct.lower p == Rl.kNoCache) = ((str (Oct.lower p)).toList == [110, 111, 45, 99, 97, 99, 104, 101])) := Lib.hid (by rw [str_toList]; rfl)
  rw [HX.out]
  generalize str (Oct.lower p) = l at *
  generalize str p = sp at *
  clear HX hp
  go_enter Tryz.func70, Tryz.ntmps70
  go_wp2_with fail
  refine cL.mono ?_
  rintro e w1 ⟨rfl, hb1⟩
  go_wp2_with fail
  go_ret
  exact ⟨rfl, hb1⟩
set_option maxHeartbeats 1600000 in
set_option maxRecDepth 100000 in
theorem shared_w (x : Mx) (w : World) :
    Calls Tryz.prog 40 #[xv x] w fun e w' => e = .returned (.bool (x.s.pu || x.s.mu || decide (0 ≤ x.s.sa))) ∧ Below w.heap.size w w' := by
  have hbw : Below w.heap.size w (w.alloc (.cells (xcells x) 58)) := (Below.refl _ w).alloc (Nat.le_refl _) _
  have hr := XAt.new w x
  have c0 := hr.cell 9
  have c1 := hr.cell 11
  have c2 := hr.cell 15
  change _ = some (Value.bool x.s.pu) at c0
  change _ = some (Value.bool x.s.mu) at c1
  change _ = some (Value.int .i64 x.s.sa) at c2
  unfold xv
  clear hr
  generalize xcells x = cc at *
  generalize x.s.pu = pu at *
  generalize x.s.mu = mu at *
  generalize x.s.sa = sa at *
  cases pu
  · cases mu
    · by_cases h : 0 ≤ sa
      · have HR : Hid (decide (0 ≤ sa) = true) := Lib.hid (decide_eq_true h)
        go_enter Tryz.func40, Tryz.ntmps40
        go_wp2_with fail
        go_ret
        exact ⟨by rw [HR.out]; rfl, hbw⟩
      · have HR : Hid (decide (0 ≤ sa) = false) := Lib.hid (decide_eq_false h)
        go_enter Tryz.func40, Tryz.ntmps40
        go_wp2_with fail
        go_ret
        exact ⟨by rw [HR.out]; rfl, hbw⟩
    · go_enter Tryz.func40, Tryz.ntmps40
      go_wp2_with fail
      go_ret
      exact ⟨rfl, hbw⟩
  · go_enter Tryz.func40, Tryz.ntmps40
    go_wp2_with fail
    go_ret
    exact ⟨rfl, hbw⟩
set_option maxHeartbeats 1600000 in
set_option maxRecDepth 100000 in
theorem tag_w (x : Mx) (fs : List Fld.F) (w : World) (hf : FIn w x.fv fs) (hs : Mid fs) :
    Calls Tryz.prog 54 #[xv x] w fun e w' => e = .returned (onp (Rl.one fs Rl.kETag)) ∧ Below w.heap.size w w' := by
  have hbw : Below w.heap.size w (w.alloc (.cells (xcells x) 58)) := (Below.refl _ w).alloc (Nat.le_refl _) _
  have hr := XAt.new w x
  have c5 := hr.cell 5
  change _ = some x.fv at c5
  obtain ⟨ao, ca, hfv, hx9⟩ := id hf
  clear hx9
  rw [hfv] at hf c5
  have cO := fun W' (hb : Below w.heap.size w W') => One_p (.slice ao fs.length ca) fs Rl.kETag W' (hf.later hb) hs (by decide)
  rw [show str Rl.kETag = ⟨#[101, 116, 97, 103]⟩ from rfl] at cO
  unfold onp at *
  generalize str ((Rl.one fs Rl.kETag).getD []) = sv at *
  generalize (Rl.one fs Rl.kETag).isSome = sb at *
  generalize fs.length = fl at *
  clear hf hs hfv
  unfold xv
  clear hr
  generalize xcells x = cc at *
  go_enter Tryz.func54, Tryz.ntmps54
  go_upto_region 1 with fail
  generalize w.alloc (.cells cc 58) = W at *
  go_wp2_with fail
  refine (cO W hbw).mono ?_
  rintro e w1 ⟨rfl, hb1⟩
  go_wp2_with fail
  go_ret2
  exact ⟨rfl, hbw.trans (hb1.mono hbw.size)⟩
set_option maxHeartbeats 1600000 in
set_option maxRecDepth 100000 in
theorem pieces_w (x : Mx) (fs : List Fld.F) (nm : List UInt8) (w : World) (hf : FIn w x.fv fs) (hs : Mid fs) (hn : nm.length ≤ 1000) :
    Calls Tryz.prog 66 #[xv x, .string (str nm)] w fun e w' => (∃ v, e = .returned v ∧ SBuf w w' v (Oct.splitAll (Fld.get fs nm))) ∧ Below w.heap.size w w' := by
  have hbw : Below w.heap.size w (w.alloc (.cells (xcells x) 58)) := (Below.refl _ w).alloc (Nat.le_refl _) _
  have hr := XAt.new w x
  have c5 := hr.cell 5
  change _ = some x.fv at c5
  obtain ⟨ao, ca, hfv, hx9⟩ := id hf
  clear hx9
  rw [hfv] at hf c5
  have cG := fun W' (hb : Below w.heap.size w W') => Get_w (.slice ao fs.length ca) fs nm W' (hf.later hb) hs.small (by omega)
  have hg := hs.got nm
  have cS := fun v W' (hv : SIn W' v (Fld.get fs nm)) => Split_p v (Fld.get fs nm) W' hv (by omega) (fun l hl => by have := hg.2 l hl; omega)
  generalize Fld.get fs nm = gs at *
  generalize Oct.splitAll gs = NS at *
  generalize str nm = sn at *
  generalize fs.length = fl at *
  clear hf hs hfv hg hn
  unfold xv
  clear hr
  generalize xcells x = cc at *
  go_enter Tryz.func66, Tryz.ntmps66
  go_upto_region 1 with fail
  generalize w.alloc (.cells cc 58) = W at *
  go_wp2_with fail
  refine (cG W hbw).mono ?_
  rintro e w1 ⟨v1, rfl, hB1⟩
  have hbw1 := hbw.trans (hB1.2.mono hbw.size)
  have cS1 := cS v1 w1 hB1.sin
  clear c5 cG cS
  obtain ⟨a1, e1, rfl, hx1⟩ := hB1.sin
  clear hx1 hB1
  go_wp2_with fail
  refine cS1.mono ?_
  rintro e w2 ⟨v2, rfl, hB2⟩
  have HB := Lib.hid hB2
  clear hB2 cS1
  obtain ⟨a2, e2, rfl, hx2⟩ := HB.out.sin
  clear hx2
  go_wp2_with fail
  go_ret
  exact ⟨⟨_, rfl, HB.out.from_ hbw1⟩, hbw1.trans (HB.out.2.mono hbw1.size)⟩
set_option maxHeartbeats 1600000 in
set_option maxRecDepth 100000 in
theorem moment2_w (x : Mx) (fs : List Fld.F) (nm : List UInt8) (hn : nm.length ≤ 100) (w : World) (hf : FIn w x.fv fs) (hs : Mid fs) (hE : Env10 w) :
    Calls Tryz.prog 55 #[xv x, .string (str nm)] w fun e w' => e = .returned (mo (Fr.moment D0 fs nm)) ∧ Below w.heap.size w w' := by
  have hbw : Below w.heap.size w (w.alloc (.cells (xcells x) 58)) := (Below.refl _ w).alloc (Nat.le_refl _) _
  have c0 := (XAt.new w x).cell 5
  change _ = some x.fv at c0
  unfold xv
  generalize xcells x = cc at *
  obtain ⟨ao, ca, hfv, hx9⟩ := id hf
  clear hx9
  rw [hfv] at hf c0
  by_cases hg : (Fld.get fs nm).length = 1
  case neg =>
    have cO := fun W' (hb : Below w.heap.size w W') => One_no (.slice ao fs.length ca) fs nm W' (hf.later hb) (small_of hs) (by omega) hg
    rw [Fr.moment_no hg]
    rw [show mo none = .tuple #[.int .i64 0, .bool false] from rfl]
    generalize str nm = sn at *
    generalize fs.length = n at *
    clear hf hs hE hfv hn hg
    go_enter Tryz.func55, Tryz.ntmps55
    go_upto_region 1 with fail
    generalize w.alloc (.cells cc 58) = W at *
    go_wp2_with fail
    refine (cO W hbw).mono ?_
    rintro e w1 ⟨rfl, hb1⟩
    go_wp2_with fail
    go_ret2
    exact ⟨rfl, hbw.trans (hb1.mono hbw.size)⟩
  obtain ⟨v, hv⟩ := List.length_eq_one_iff.1 hg
  have cO := fun W' (hb : Below w.heap.size w W') => One_yes (.slice ao fs.length ca) fs nm v W' (hf.later hb) (small_of hs) (by omega) hv
  rw [Fr.moment_one hv]
  clear hg hv
  cases hD : D0 v with
  | none =>
    have cP := fun W' (hb : Below w.heap.size w W') => Parse_none hD W' (hE.later hb).tabs
    rw [show mo none = .tuple #[.int .i64 0, .bool false] from rfl]
    generalize str nm = sn at *
    generalize str v = sv at *
    generalize fs.length = n at *
    clear hf hs hE hfv hn hD
    go_enter Tryz.func55, Tryz.ntmps55
    go_upto_region 1 with fail
    generalize w.alloc (.cells cc 58) = W at *
    go_wp2_with fail
    refine (cO W hbw).mono ?_
    rintro e w1 ⟨rfl, hb1⟩
    have hbw1 := hbw.trans (hb1.mono hbw.size)
    clear hb1
    go_wp2_with fail
    refine (cP w1 hbw1).mono ?_
    rintro e w2 ⟨rfl, hb2⟩
    go_wp2_with fail
    go_ret2
    exact ⟨rfl, hbw1.trans (hb2.mono hbw1.size)⟩
  | some a =>
    have cP := fun W' (hb : Below w.heap.size w W') => Parse_some hD W' (hE.later hb).tabs
    rw [show mo (some a) = .tuple #[.int .i64 a, .bool true] from rfl]
    generalize str nm = sn at *
    generalize str v = sv at *
    generalize fs.length = n at *
    clear hf hs hE hfv hn hD
    go_enter Tryz.func55, Tryz.ntmps55
    go_upto_region 1 with fail
    generalize w.alloc (.cells cc 58) = W at *
    go_wp2_with fail
    refine (cO W hbw).mono ?_
    rintro e w1 ⟨rfl, hb1⟩
    have hbw1 := hbw.trans (hb1.mono hbw.size)
    clear hb1
    go_wp2_with fail
    refine (cP w1 hbw1).mono ?_
    rintro e w2 ⟨rfl, hb2⟩
    go_wp2_with fail
    go_ret2
    exact ⟨rfl, hbw1.trans (hb2.mono hbw1.size)⟩
set_option maxHeartbeats 1600000 in
set_option maxRecDepth 100000 in
theorem has1_c (x : Mx) (fs : List Fld.F) (g : Nat) (nm : List UInt8) (w : World) (hx : XAt w g x) (hf : FIn w x.fv fs) (hs : Mid fs) (hn : nm.length ≤ 1000000) :
    Calls Tryz.prog 71 #[.string (str nm), .pointer (some ⟨g, 0, none⟩)] w fun e w' => e = .returned (.bool (Rl.has fs nm)) ∧ Below w.heap.size w w' := by
  have c5 := hx.cell 5
  change _ = some x.fv at c5
  obtain ⟨ao, ca, hfv, hx9⟩ := id hf
  clear hx9
  rw [hfv] at hf c5
  have cG := Get_w (.slice ao fs.length ca) fs nm w hf hs.small (by omega)
  have HR : Hid (Rl.has fs nm = !(Fld.get fs nm).isEmpty) := Lib.hid rfl
  rw [HR.out]
  have hg := (hs.got nm).1
  generalize Fld.get fs nm = gs at *
  generalize str nm = sn at *
  generalize fs.length = fl at *
  clear hf hs hn HR hx hfv
  go_enter Tryz.func71, Tryz.ntmps71
  go_wp2_with fail
  refine cG.mono ?_
  rintro e w1 ⟨v, rfl, hB⟩
  obtain ⟨ao', cp, rfl, hx⟩ := hB.sin
  have hb1 := hB.2
  clear hx hB cG c5
  cases gs with
  | nil =>
    simp only [List.length_nil]
    go_wp2_with fail
    go_ret
    exact ⟨rfl, hb1⟩
  | cons q qs =>
    obtain ⟨N, hN⟩ : ∃ N, N = (q :: qs).length := ⟨_, rfl⟩
    have h0 : (0 : Int) < (N : Int) := by rw [hN]; simp
    have HN := Lib.hid (show 0 < N by omega)
    rw [← hN] at hg ⊢
    clear hN
    go_wp2_with fail
    go_ret
    refine ⟨?_, hb1⟩
    show Ending.returned (.bool (decide (0 < N))) = Ending.returned (.bool true)
    rw [decide_eq_true HN.out]
set_option maxHeartbeats 1600000 in
set_option maxRecDepth 100000 in
theorem has_w (x : Mx) (fs : List Fld.F) (vn : Value) (ns : List (List UInt8)) (w : World) (hf : FIn w x.fv fs) (hs : Mid fs) (hn : SIn w vn ns) (hnl : ns.length ≤ 1000) (hnz : ∀ n ∈ ns, n.length ≤ 1000) :
    Calls Tryz.prog 39 #[xv x, vn] w fun e w' => e = .returned (.bool (ns.any (Rl.has fs))) ∧ Below w.heap.size w w' := by
  have hbw : Below w.heap.size w (w.alloc (.cells (xcells x) 58)) := (Below.refl _ w).alloc (Nat.le_refl _) _
  have hr := XAt.new w x
  have cC := fun W' (hb : Below w.heap.size w W') (hx : XAt W' w.heap.size x) => Contains_1 (.pointer (some ⟨w.heap.size, 0, none⟩)) (Rl.has fs) vn ns W' (hn.later hb) (by omega) (fun n hn' => by have := hnz n hn'; omega) (fun nm hnm w1 hb1 => has1_c x fs w.heap.size nm w1 (hx.later hb1) (hf.later (hb.trans (hb1.mono hb.size))) hs hnm)
  have cC1 := cC _ hbw hr
  clear cC hr
  obtain ⟨na, nc, rfl, hx9⟩ := hn
  clear hx9 hf hs hnz
  generalize ns.any (Rl.has fs) = R at *
  generalize ns.length = nl at *
  have hmf : ∀ (fn : Fn) (first cap : Array Value) (w : World), (Instr.makeFunc fn first cap).run Tryz.prog w = .ok (.func fn first cap) w := fun _ _ _ _ => rfl
  unfold xv
  generalize xcells x = cc at *
  go_enter Tryz.func39, Tryz.ntmps39
  go_upto_region 1 with fail
  generalize w.alloc (.cells cc 58) = W at *
  go_wp2_with fail
  refine cC1.mono ?_
  rintro e w1 ⟨rfl, hb1⟩
  go_wp2_with fail
  go_ret
  exact ⟨rfl, hbw.trans (hb1.mono hbw.size)⟩
theorem trim_bare (o : List UInt8) : (⟨(Lib.trimPrefix o [87, 47]).toArray⟩ : ByteArray) = str (Rl.bare o) := by
  have : Lib.trimPrefix o [87, 47] = Rl.bare o := by
    unfold Rl.bare
    match o with
    | [] => rfl
    | [a] =>
      have h : Lib.trimPrefix [a] [87, 47] = [a] := by simp [Lib.trimPrefix, Lib.hasPrefix, List.isPrefixOf]
      rw [h]; simp
    | a :: b :: r =>
      by_cases h : a = 87
      · subst h
        by_cases h2 : b = 47
        · subst h2; rfl
        · have e : ((47 : UInt8) == b) = false := beq_eq_false_iff_ne.2 (Ne.symm h2)
          simp [Lib.trimPrefix, Lib.hasPrefix, List.isPrefixOf, e, h2]
      · have e : ((87 : UInt8) == a) = false := beq_eq_false_iff_ne.2 (Ne.symm h)
        simp [Lib.trimPrefix, Lib.hasPrefix, List.isPrefixOf, e, h]
  rw [this]; rfl
set_option maxHeartbeats 1600000 in
set_option maxRecDepth 100000 in
theorem tagged_w (x : Mx) (fs : List Fld.F) (t : List UInt8) (w : World) (hf : FIn w x.fv fs) (hs : Mid fs) :
    Calls Tryz.prog 58 #[xv x, .string (str t)] w fun e w' => e = .returned (.bool (Rl.like fs t)) ∧ Below w.heap.size w w' := by
  have hbw : Below w.heap.size w (w.alloc (.cells (xcells x) 58)) := (Below.refl _ w).alloc (Nat.le_refl _) _
  have hr := XAt.new w x
  have cT := fun W' (hb : Below w.heap.size w W') => tag_w x fs W' (hf.later hb) hs
  have hi := x_info x
  have cP1 := fun o W' => Tryz.strings_TrimPrefix (str o) ⟨#[87, 47]⟩ W'
  have HL : Hid (∀ o, Rl.one fs Rl.kETag = some o → Rl.like fs t = (Rl.bare o == Rl.bare t)) := Lib.hid fun o h => by unfold Rl.like; rw [h]
  have HN : Hid (Rl.one fs Rl.kETag = none → Rl.like fs t = false) := Lib.hid fun h => by unfold Rl.like; rw [h]
  have HB : Hid (∀ o : List UInt8, (⟨(Lib.trimPrefix (str o).data.toList (⟨#[87, 47]⟩ : ByteArray).data.toList).toArray⟩ : ByteArray) = str (Rl.bare o)) := Lib.hid fun o => by rw [str_list]; exact trim_bare o
  unfold xv at *
  unfold XAt at hr
  generalize Rl.like fs t = R at *
  generalize xcells x = cc at *
  clear hf hs
  cases ho : Rl.one fs Rl.kETag with
  | none =>
    rw [ho] at cT
    have HR := Lib.hid (HN.out ho)
    rw [show onp none = .tuple #[.string ⟨#[]⟩, .bool false] from rfl] at cT
    clear HL HN HB ho cP1
    generalize str t = sx at *
    go_enter Tryz.func58, Tryz.ntmps58
    go_upto_region 1 with fail
    generalize w.alloc (.cells cc 58) = W at *
    generalize hg : w.heap.size = g at hr ⊢
    go_wp2_with (refine wpList_load_row rfl 58 _ rfl g rfl 58 cc (0, 0) _ hr Tryz.underlying58 rfl hi ?_)
    refine (cT W hbw).mono ?_
    rintro e w1 ⟨rfl, hb1⟩
    go_wp2_with fail
    go_ret
    exact ⟨by rw [HR.out]; rfl, hbw.trans (hb1.mono hbw.size)⟩
  | some o =>
    rw [ho] at cT
    have HR := Lib.hid (HL.out o ho)
    have p1 := cP1 o
    have p2 := cP1 t
    rw [HB.out] at p1 p2
    rw [show onp (some o) = .tuple #[.string (str o), .bool true] from rfl] at cT
    have HX : Hid ((Rl.bare o == Rl.bare t) = ((str (Rl.bare o)).toList == (str (Rl.bare t)).toList)) := Lib.hid (by rw [str_toList, str_toList])
    rw [HX.out] at HR
    clear HL HN HB ho cP1 HX
    generalize str (Rl.bare o) = y1 at *
    generalize str (Rl.bare t) = y2 at *
    generalize str o = so at *
    generalize str t = sx at *
    go_enter Tryz.func58, Tryz.ntmps58
    go_upto_region 1 with fail
    generalize w.alloc (.cells cc 58) = W at *
    generalize hg : w.heap.size = g at hr ⊢
    go_wp2_with (refine wpList_load_row rfl 58 _ rfl g rfl 58 cc (0, 0) _ hr Tryz.underlying58 rfl hi ?_)
    refine (cT W hbw).mono ?_
    rintro e w1 ⟨rfl, hb1⟩
    go_wp2_with fail
    refine (p1 w1).mono ?_
    rintro e w2 ⟨rfl, rfl⟩
    go_wp2_with fail
    refine (p2 w2).mono ?_
    rintro e w3 ⟨rfl, rfl⟩
    go_wp2_with fail
    go_ret
    refine ⟨by rw [HR.out]; rfl, ?_⟩
    exact hbw.trans (hb1.mono hbw.size)
set_option maxHeartbeats 1600000 in
set_option maxRecDepth 100000 in
theorem tellsApart_w (x : Mx) (fs : List Fld.F) (w : World) (hf : FIn w x.fv fs) (hs : Mid fs) :
    Calls Tryz.prog 41 #[xv x] w fun e w' => e = .returned (.bool (Vr.names (Fld.get fs Rl.kVary)).2) ∧ Below w.heap.size w w' := by
  have hbw : Below w.heap.size w (w.alloc (.cells (xcells x) 58)) := (Below.refl _ w).alloc (Nat.le_refl _) _
  have hr := XAt.new w x
  have c5 := hr.cell 5
  change _ = some x.fv at c5
  obtain ⟨ao, ca, hfv, hx9⟩ := id hf
  clear hx9
  rw [hfv] at hf c5
  have cG := fun W' (hb : Below w.heap.size w W') => Get_w (.slice ao fs.length ca) fs Rl.kVary W' (hf.later hb) hs.small (by decide)
  have hg := hs.got Rl.kVary
  have cN := fun v W' (hv : SIn W' v (Fld.get fs Rl.kVary)) => Names_w v (Fld.get fs Rl.kVary) W' hv (by omega) (fun l hl => by have := hg.2 l hl; omega)
  rw [show str Rl.kVary = ⟨#[118, 97, 114, 121]⟩ from rfl] at cG
  generalize Fld.get fs Rl.kVary = gs at *
  generalize (Vr.names gs).2 = nb at *
  generalize (Vr.names gs).1 = NS at *
  generalize fs.length = fl at *
  clear hf hs hfv hg
  unfold xv
  clear hr
  generalize xcells x = cc at *
  go_enter Tryz.func41, Tryz.ntmps41
  go_upto_region 1 with fail
  generalize w.alloc (.cells cc 58) = W at *
  go_wp2_with fail
  refine (cG W hbw).mono ?_
  rintro e w1 ⟨v1, rfl, hB1⟩
  have hbw1 := hbw.trans (hB1.2.mono hbw.size)
  have cS1 := cN v1 w1 hB1.sin
  clear c5 cG cN
  obtain ⟨a1, e1, rfl, hx1⟩ := hB1.sin
  clear hx1 hB1
  go_wp2_with fail
  refine cS1.mono ?_
  rintro e w2 ⟨v2, rfl, hB2⟩
  have HB := Lib.hid hB2
  clear hB2 cS1
  obtain ⟨a2, e2, rfl, hx2⟩ := HB.out.sin
  clear hx2
  go_wp2_with fail
  go_ret
  exact ⟨rfl, hbw1.trans (HB.out.2.mono hbw1.size)⟩
end Go.Proofs.YtoanelobggledaaGreatDoor

namespace Go.Proofs.YtoanelobggledaaGreatDoor
open Go.RowKit

def mq (st : Int) (fs : List Fld.F) : Ctl.C := if st = 0 ∧ Rl.has fs Fr.kCC = false ∧ (Oct.splitAll (Fld.get fs Rl.kPragma)).any (fun p => Oct.lower p == Rl.kNoCache) = true then { Fr.says fs with nc := true } else Fr.says fs
theorem mq_not {st : Int} {fs : List Fld.F} (h : ¬ st = 0) : mq st fs = Fr.says fs := by unfold mq; rw [if_neg (fun e => h e.1)]
theorem mq_cc {st : Int} {fs : List Fld.F} (h : Rl.has fs Fr.kCC = true) : mq st fs = Fr.says fs := by unfold mq; rw [if_neg (fun e => by rw [h] at e; cases e.2.1)]
theorem mq_no {st : Int} {fs : List Fld.F} (h : (Oct.splitAll (Fld.get fs Rl.kPragma)).any (fun p => Oct.lower p == Rl.kNoCache) = false) : mq st fs = Fr.says fs := by unfold mq; rw [if_neg (fun e => by rw [h] at e; cases e.2.2)]
theorem mq_yes {fs : List Fld.F} (h : Rl.has fs Fr.kCC = false) (h2 : (Oct.splitAll (Fld.get fs Rl.kPragma)).any (fun p => Oct.lower p == Rl.kNoCache) = true) : mq 0 fs = { Fr.says fs with nc := true } := by unfold mq; rw [if_pos ⟨rfl, h, h2⟩]
theorem mq_ns (st : Int) (fs : List Fld.F) : (mq st fs).ns = (Fr.says fs).ns := by unfold mq; split <;> rfl
theorem mq_pr (st : Int) (fs : List Fld.F) : (mq st fs).pr = (Fr.says fs).pr := by unfold mq; split <;> rfl
theorem mq_pu (st : Int) (fs : List Fld.F) : (mq st fs).pu = (Fr.says fs).pu := by unfold mq; split <;> rfl
theorem mq_mu (st : Int) (fs : List Fld.F) : (mq st fs).mu = (Fr.says fs).mu := by unfold mq; split <;> rfl
theorem mq_sa (st : Int) (fs : List Fld.F) : (mq st fs).sa = (Fr.says fs).sa := by unfold mq; split <;> rfl
theorem SBuf.lit_p (w : World) (ts : List (List UInt8)) (cs : Array Value) (hc : cs.toList = strCells ts) (hl : ts.length ≤ 1000) : SBuf w (w.alloc (.cells cs 9)) (.slice (some ⟨w.heap.size, 0, none⟩) ts.length ts.length) ts := by
  refine ⟨?_, (Below.refl _ w).alloc (Nat.le_refl _) _⟩
  rw [← hc]
  refine World.ownsRow_lit w cs ts.length (Nat.le_refl _) (by unfold maxLen; omega) ?_
  rw [← Array.length_toList, hc]
  unfold strCells; rw [List.length_map, Nat.mul_one]
def noX : Mx := ⟨⟨#[]⟩, ⟨#[]⟩, ⟨#[]⟩, 0, 0, .slice none 0 0, .slice none 0 0, ⟨false, false, false, false, false, false, false, 0, 0, 0, 0⟩⟩
theorem XAt.row {w : World} {g : Nat} {r : Mx} (h : XAt w g r) (d : Mx) : XAt (w.setRow g (xcells d)) g d := by
  unfold XAt at *
  simp [World.setRow, Array.getElem?_modify, h]
theorem XAt.put {w : World} {g : Nat} {r d : Mx} (h : XAt w g r) (k : Nat) (v : Value) (hd : (xcells r).setIfInBounds k v = xcells d) : XAt (w.setCell ⟨g, k, none⟩ v) g d := by
  unfold XAt at *
  rw [← hd]
  simp [World.setCell, Array.getElem?_modify, h]
theorem XAt.free {w : World} {g : Nat} {r : Mx} (h : XAt w g r) (k : Nat) : w.frozen? ⟨g, k, none⟩ = false := by
  unfold XAt at h; simp only [World.frozen?]; rw [h]; simp
structure Own2 (w W : World) (gM gR : Nat) (mc : Array Value) : Prop where
  msg : W.heap[gM]? = some (.cells mc 27 (0, 0))
  res : W.heap[gR]? = some (.cells (xcells noX) 58 (0, 0))
  below : Below w.heap.size w W
  geR : w.heap.size ≤ gR
theorem Own2.later {w W W' : World} {gM gR : Nat} {mc : Array Value} (h : Own2 w W gM gR mc) (hb : Below W.heap.size W W') : Own2 w W' gM gR mc :=
  ⟨blk_keep h.msg hb, blk_keep h.res hb, h.below.trans (hb.mono h.below.size), h.geR⟩
theorem Own2.row {w W : World} {gM gR : Nat} {mc : Array Value} (h : Own2 w W gM gR mc) {b : Nat} (hb : w.heap.size ≤ b) (h1 : gM ≠ b) (h3 : gR ≠ b) (cs : Array Value) : Own2 w (W.setRow b cs) gM gR mc :=
  ⟨heap_row h.msg h1 cs, heap_row h.res h3 cs, Below.row h.below hb cs, h.geR⟩
theorem Own2.beside {w W : World} {gM gR : Nat} {mc : Array Value} (h : Own2 w W gM gR mc) {b : Nat} (hb : w.heap.size ≤ b) (h1 : gM ≠ b) (h3 : gR ≠ b) (k : Nat) (v : Value) : Own2 w (W.setCell ⟨b, k, none⟩ v) gM gR mc := by
  refine ⟨?_, ?_, h.below.setCell hb _, h.geR⟩
  · rw [Below.heap_setCell _ _ _ _ (by simpa using h1)]; exact h.msg
  · rw [Below.heap_setCell _ _ _ _ (by simpa using h3)]; exact h.res
theorem pair_at (w : World) (A B : Obj) : ((w.alloc A).alloc B).heap[w.heap.size]? = some A ∧ ((w.alloc A).alloc B).heap[w.heap.size + 1]? = some B :=
  ⟨blk_keep (heap_alloc_new w A) ((Below.refl _ _).alloc (Nat.le_refl _) B), heap_alloc2_new w A B⟩
set_option maxHeartbeats 3200000 in
set_option maxRecDepth 100000 in
theorem messageOf_w (a b c : ByteArray) (st mi : Int) (fv bv : Value) (fs : List Fld.F) (w : World) (hE : Env10 w) (hf : FIn w fv fs) (sb : Sl bv) (hs : Mid fs) :
    Calls Tryz.prog 38 #[mv a b st c mi fv bv] w fun e w' => e = .returned (xv ⟨a, b, c, st, mi, fv, bv, mq st fs⟩) ∧ Below w.heap.size w w' := by
  obtain ⟨fa, fc, hfv, hx9⟩ := id hf
  obtain ⟨ba, bl, bc, rfl⟩ := sb
  clear hx9
  rw [hfv] at hf ⊢
  clear hfv
  have cG := Lib.hid (fun W' (hb : Below w.heap.size w W') => Get_r (.slice fa fs.length fc) fs Fr.kCC (by decide) hs W' (hf.later hb))
  have cP := Lib.hid (fun v W' (hb : Below w.heap.size w W') (hv : SIn W' v (Fld.get fs Fr.kCC)) => Says_r v fs hs W' hv (hE.later hb).max)
  have cH := fun (x : Mx) (e : x.fv = .slice fa fs.length fc) v W' (hb : Below w.heap.size w W') (hv : SIn W' v [Fr.kCC]) => has_w x fs v [Fr.kCC] W' (e ▸ hf.later hb) hs hv (by decide) (by decide)
  have cI := fun (x : Mx) (e : x.fv = .slice fa fs.length fc) W' (hb : Below w.heap.size w W') => pieces_w x fs Rl.kPragma W' (e ▸ hf.later hb) hs (by decide)
  have hg := hs.got Rl.kPragma
  have hgl := Vr.piece_len (ls := Fld.get fs Rl.kPragma) (m := 500) hg.2
  have hgn := Oct.splitAll_len (Fld.get fs Rl.kPragma) (fun l hl => by have := hg.2 l hl; omega)
  have cC := fun v W' (hv : SIn W' v (Oct.splitAll (Fld.get fs Rl.kPragma))) => Contains_0 (fun p => Oct.lower p == Rl.kNoCache) v (Oct.splitAll (Fld.get fs Rl.kPragma)) W' hv (by omega) (fun n hn => by have := hgl n hn; omega) (fun nm hnm w1 _ => isNoCache_w nm w1 hnm)
  rw [show str Fr.kCC = ⟨#[99, 97, 99, 104, 101, 45, 99, 111, 110, 116, 114, 111, 108]⟩ from rfl] at cG
  rw [show str Rl.kPragma = ⟨#[112, 114, 97, 103, 109, 97]⟩ from rfl] at cI
  have hany : ∀ p : List UInt8 → Bool, [Fr.kCC].any p = p Fr.kCC := fun p => by simp
  rw [hany] at cH
  obtain ⟨Q, hQ⟩ : ∃ Q, Q = mq st fs := ⟨_, rfl⟩
  have HQ : Hid ((¬ st = 0 → Fr.says fs = Q) ∧ (st = 0 → Rl.has fs Fr.kCC = true → Fr.says fs = Q) ∧ (st = 0 → Rl.has fs Fr.kCC = false → ((Oct.splitAll (Fld.get fs Rl.kPragma)).any (fun p => Oct.lower p == Rl.kNoCache) = false → Fr.says fs = Q) ∧ ((Oct.splitAll (Fld.get fs Rl.kPragma)).any (fun p => Oct.lower p == Rl.kNoCache) = true → { Fr.says fs with nc := true } = Q))) := Lib.hid ⟨fun h => by rw [hQ, mq_not h], fun _ h => by rw [hQ, mq_cc h], fun h0 h => ⟨fun h2 => by rw [hQ, mq_no h2], fun h2 => by rw [hQ, h0, mq_yes h h2]⟩⟩
  rw [← hQ]
  clear hQ hf hs hE hg hgl hgn hany
  generalize Fr.says fs = S at *
  generalize hfl : fs.length = fl at *
  clear hfl
  have h3 := pair_at w (.cells #[.string a, .string b, .int .i64 st, .string c, .int .i64 mi, .slice fa fl fc, .slice ba bl bc] 27) (.cells (xcells noX) 58)
  obtain ⟨W, hW⟩ : ∃ W, W = (w.alloc (.cells #[.string a, .string b, .int .i64 st, .string c, .int .i64 mi, .slice fa fl fc, .slice ba bl bc] 27)).alloc (.cells (xcells noX) 58) := ⟨_, rfl⟩
  have hW' : (w.alloc (.cells #[.string a, .string b, .int .i64 st, .string c, .int .i64 mi, .slice fa fl fc, .slice ba bl bc] 27)).alloc (.cells #[.string ⟨#[]⟩, .string ⟨#[]⟩, .int .i64 0, .string ⟨#[]⟩, .int .i64 0, .slice none 0 0, .slice none 0 0, .bool false, .bool false, .bool false, .bool false, .bool false, .bool false, .bool false, .int .i64 0, .int .i64 0, .int .i64 0, .int .i64 0] 58) = W := hW.symm
  have hbw : Below w.heap.size w W := by rw [hW]; exact ((Below.refl _ w).alloc (Nat.le_refl _) _).alloc (by simp) _
  rw [← hW] at h3
  have hO : Own2 w W w.heap.size (w.heap.size + 1) #[.string a, .string b, .int .i64 st, .string c, .int .i64 mi, .slice fa fl fc, .slice ba bl bc] := ⟨h3.1, h3.2, hbw, by omega⟩
  clear h3 hbw hW
  unfold mv mcell
  go_enter Tryz.func38, Tryz.ntmps38
  go_upto_region 1 with fail
  clear hW'
  generalize w.heap.size + 1 = gR at *
  obtain ⟨gM, hgM⟩ : ∃ gM, gM = w.heap.size := ⟨_, rfl⟩
  rw [← hgM] at hO ⊢
  have HGM := Lib.hid hgM
  clear hgM
  go_cut [3] (fun u3 wx => ∃ w3 g, w3 = wx ∧ u3 = .pointer (some ⟨g, 0, none⟩) ∧ XAt w3 g ⟨a, b, c, st, mi, .slice fa fl fc, .slice ba bl bc, S⟩ ∧ w.heap.size ≤ g ∧ gR ≠ g ∧ gM ≠ g ∧ Own2 w w3 gM gR #[.string a, .string b, .int .i64 st, .string c, .int .i64 mi, .slice fa fl fc, .slice ba bl bc])
  case first =>
    have h1 : (xcells ⟨a, b, c, st, mi, .slice fa fl fc, .slice ba bl bc, S⟩).all (·.oneCell') = true := xcells_one ⟨_, _, _, rfl⟩ ⟨_, _, _, rfl⟩
    have OD := hO.later ((Below.refl _ W).drew)
    refine wp_region_noPanic ?_
    refine wp_region_held (S := fun W' => Own2 w W' gM gR #[.string a, .string b, .int .i64 st, .string c, .int .i64 mi, .slice fa fl fc, .slice ba bl bc]) (by kernel_rfl) ?_
    change wpAnyH _ _ _ _ _ _ _ _ W.drew
    generalize W.drew = V0 at *
    clear hO W
    refine held_of_takes (fuel := 5) (by kernel_rfl) (fun _ _ _ _ _ h => h) OD [0, 1, 2] _ _ (by kernel_rfl) ?_
    refine Takes.val (.agg #[.string a, .string b, .int .i64 st, .string c, .int .i64 mi, .slice fa fl fc, .slice ba bl bc]) rfl rfl (fun W' h => exec_row rfl gM rfl 27 _ (0, 0) _ h.msg Tryz.underlying27 rfl (by kernel_rfl)) ?_
    refine Takes.val (.pointer (some ⟨gM, 5, none⟩)) rfl rfl (fun _ _ => by kernel_rfl) ?_
    refine Takes.val (.slice fa fl fc) rfl rfl (fun W' h => exec_load (s := 5) rfl (by kernel_rfl) (load_fields (g := gM) (k := 5) (by rw [World.cell?, h.msg]; rfl))) ?_
    refine wpAnyH_all (rs := [3, 6]) (by kernel_rfl) (by simp) (fun i hi => ?_)
    simp only [List.mem_cons, List.not_mem_nil, or_false] at hi
    rcases hi with rfl | rfl
    · refine wpOp_into (f := 69) (args := #[.slice fa fl fc, .string ⟨#[99, 97, 99, 104, 101, 45, 99, 111, 110, 116, 114, 111, 108]⟩]) rfl rfl (by kernel_rfl) ((cG.out _ OD.below).mono ?_)
      rintro e V1 ⟨vV1, rfl, SV1, hbV1⟩
      have OV1 := OD.later hbV1
      refine ⟨vV1, rfl, OV1, ?_⟩
      refine wpAnyH_all (rs := [4, 6]) (by kernel_rfl) (by simp) (fun i hi => ?_)
      simp only [List.mem_cons, List.not_mem_nil, or_false] at hi
      rcases hi with rfl | rfl
      · refine wpOp_into (f := 68) (args := #[vV1]) rfl rfl (by kernel_rfl) ((cP.out _ _ OV1.below SV1).mono ?_)
        rintro e V2 ⟨rfl, hbV2⟩
        have OV2 := OV1.later hbV2
        refine ⟨_, rfl, OV2, ?_⟩
        refine held_of_takes (fuel := 2) (by kernel_rfl) (fun _ _ _ _ _ h => h) OV2 [5] _ _ (by kernel_rfl) ?_
        refine Takes.val (xv ⟨a, b, c, st, mi, .slice fa fl fc, .slice ba bl bc, S⟩) rfl rfl (fun _ _ => by kernel_rfl) ?_
        refine wpAnyH_all (rs := [6]) (by kernel_rfl) (by simp) (fun i hi => ?_)
        obtain rfl := List.mem_singleton.1 hi
        have hbV3 : Below V2.heap.size V2 (V2.alloc (.cells (xcells noX) 58)) := (Below.refl _ _).alloc (Nat.le_refl _) _
        have OV3 := OV2.later hbV3
        have RV3 : XAt (V2.alloc (.cells (xcells noX) 58)) V2.heap.size noX := XAt.new V2 noX
        have gV3 : w.heap.size ≤ V2.heap.size := OV2.below.size
        have n1V3 := lt_of_block OV2.msg
        have n3V3 := lt_of_block OV2.res
        refine wpOp_make (v := .pointer (some ⟨V2.heap.size, 0, none⟩)) (w' := V2.alloc (.cells (xcells noX) 58)) rfl rfl (by kernel_rfl) ⟨OV3, ?_⟩
        generalize V2.heap.size = g at *
        generalize V2.alloc (.cells (xcells noX) 58) = V3 at *
        refine wpAnyH_all (rs := [7]) (by kernel_rfl) (by simp) (fun i hi => ?_)
        obtain rfl := List.mem_singleton.1 hi
        refine wpOp_known (.store 58 (.tmp 3) (.tmp 9)) none (by kernel_rfl) (fun o e1 e2 => wp_store_row 58 _ _ e1 g (xcells ⟨a, b, c, st, mi, .slice fa fl fc, .slice ba bl bc, S⟩) (by kernel_rfl) (by kernel_rfl) 58 (xcells noX) RV3 (x_info _) rfl h1 ?_)
        rw [e2]
        have OE := OV3.row gV3 (by omega) (by omega) (xcells ⟨a, b, c, st, mi, .slice fa fl fc, .slice ba bl bc, S⟩)
        have RE := RV3.row ⟨a, b, c, st, mi, .slice fa fl fc, .slice ba bl bc, S⟩
        refine ⟨OE, ?_⟩
        refine wpAnyH_done (P := Tryz.prog) (by kernel_rfl) ?_ 0
        generalize V3.setRow g (xcells ⟨a, b, c, st, mi, .slice fa fl fc, .slice ba bl bc, S⟩) = VE at *
        refine NoPanic.normal ?_
        go_simp
        go_wp2_with fail
        go_meet
        case rel => exact ⟨_, g, rfl, rfl, RE, gV3, by omega, by omega, OE⟩
      · have hbV2 : Below V1.heap.size V1 (V1.alloc (.cells (xcells noX) 58)) := (Below.refl _ _).alloc (Nat.le_refl _) _
        have OV2 := OV1.later hbV2
        have RV2 : XAt (V1.alloc (.cells (xcells noX) 58)) V1.heap.size noX := XAt.new V1 noX
        have gV2 : w.heap.size ≤ V1.heap.size := OV1.below.size
        have n1V2 := lt_of_block OV1.msg
        have n3V2 := lt_of_block OV1.res
        refine wpOp_make (v := .pointer (some ⟨V1.heap.size, 0, none⟩)) (w' := V1.alloc (.cells (xcells noX) 58)) rfl rfl (by kernel_rfl) ⟨OV2, ?_⟩
        have SV2 := SV1.later hbV2
        generalize V1.heap.size = g at *
        generalize V1.alloc (.cells (xcells noX) 58) = V2 at *
        refine wpAnyH_all (rs := [4]) (by kernel_rfl) (by simp) (fun i hi => ?_)
        obtain rfl := List.mem_singleton.1 hi
        refine wpOp_into (f := 68) (args := #[vV1]) rfl rfl (by kernel_rfl) ((cP.out _ _ OV2.below SV2).mono ?_)
        rintro e V3 ⟨rfl, hbV3⟩
        have OV3 := OV2.later hbV3
        refine ⟨_, rfl, OV3, ?_⟩
        have RV3 := RV2.later hbV3
        refine held_of_takes (fuel := 1) (by kernel_rfl) (fun _ _ _ _ _ h => h) OV3 [5] _ _ (by kernel_rfl) ?_
        refine Takes.val (xv ⟨a, b, c, st, mi, .slice fa fl fc, .slice ba bl bc, S⟩) rfl rfl (fun _ _ => by kernel_rfl) ?_
        refine wpAnyH_all (rs := [7]) (by kernel_rfl) (by simp) (fun i hi => ?_)
        obtain rfl := List.mem_singleton.1 hi
        refine wpOp_known (.store 58 (.tmp 3) (.tmp 9)) none (by kernel_rfl) (fun o e1 e2 => wp_store_row 58 _ _ e1 g (xcells ⟨a, b, c, st, mi, .slice fa fl fc, .slice ba bl bc, S⟩) (by kernel_rfl) (by kernel_rfl) 58 (xcells noX) RV3 (x_info _) rfl h1 ?_)
        rw [e2]
        have OE := OV3.row gV2 (by omega) (by omega) (xcells ⟨a, b, c, st, mi, .slice fa fl fc, .slice ba bl bc, S⟩)
        have RE := RV3.row ⟨a, b, c, st, mi, .slice fa fl fc, .slice ba bl bc, S⟩
        refine ⟨OE, ?_⟩
        refine wpAnyH_done (P := Tryz.prog) (by kernel_rfl) ?_ 0
        generalize V3.setRow g (xcells ⟨a, b, c, st, mi, .slice fa fl fc, .slice ba bl bc, S⟩) = VE at *
        refine NoPanic.normal ?_
        go_simp
        go_wp2_with fail
        go_meet
        case rel => exact ⟨_, g, rfl, rfl, RE, gV2, by omega, by omega, OE⟩
    · have hbV1 : Below V0.heap.size V0 (V0.alloc (.cells (xcells noX) 58)) := (Below.refl _ _).alloc (Nat.le_refl _) _
      have OV1 := OD.later hbV1
      have RV1 : XAt (V0.alloc (.cells (xcells noX) 58)) V0.heap.size noX := XAt.new V0 noX
      have gV1 : w.heap.size ≤ V0.heap.size := OD.below.size
      have n1V1 := lt_of_block OD.msg
      have n3V1 := lt_of_block OD.res
      refine wpOp_make (v := .pointer (some ⟨V0.heap.size, 0, none⟩)) (w' := V0.alloc (.cells (xcells noX) 58)) rfl rfl (by kernel_rfl) ⟨OV1, ?_⟩
      generalize V0.heap.size = g at *
      generalize V0.alloc (.cells (xcells noX) 58) = V1 at *
      refine wpAnyH_all (rs := [3]) (by kernel_rfl) (by simp) (fun i hi => ?_)
      obtain rfl := List.mem_singleton.1 hi
      refine wpOp_into (f := 69) (args := #[.slice fa fl fc, .string ⟨#[99, 97, 99, 104, 101, 45, 99, 111, 110, 116, 114, 111, 108]⟩]) rfl rfl (by kernel_rfl) ((cG.out _ OV1.below).mono ?_)
      rintro e V2 ⟨vV2, rfl, SV2, hbV2⟩
      have OV2 := OV1.later hbV2
      refine ⟨vV2, rfl, OV2, ?_⟩
      have RV2 := RV1.later hbV2
      refine wpAnyH_all (rs := [4]) (by kernel_rfl) (by simp) (fun i hi => ?_)
      obtain rfl := List.mem_singleton.1 hi
      refine wpOp_into (f := 68) (args := #[vV2]) rfl rfl (by kernel_rfl) ((cP.out _ _ OV2.below SV2).mono ?_)
      rintro e V3 ⟨rfl, hbV3⟩
      have OV3 := OV2.later hbV3
      refine ⟨_, rfl, OV3, ?_⟩
      have RV3 := RV2.later hbV3
      refine held_of_takes (fuel := 1) (by kernel_rfl) (fun _ _ _ _ _ h => h) OV3 [5] _ _ (by kernel_rfl) ?_
      refine Takes.val (xv ⟨a, b, c, st, mi, .slice fa fl fc, .slice ba bl bc, S⟩) rfl rfl (fun _ _ => by kernel_rfl) ?_
      refine wpAnyH_all (rs := [7]) (by kernel_rfl) (by simp) (fun i hi => ?_)
      obtain rfl := List.mem_singleton.1 hi
      refine wpOp_known (.store 58 (.tmp 3) (.tmp 9)) none (by kernel_rfl) (fun o e1 e2 => wp_store_row 58 _ _ e1 g (xcells ⟨a, b, c, st, mi, .slice fa fl fc, .slice ba bl bc, S⟩) (by kernel_rfl) (by kernel_rfl) 58 (xcells noX) RV3 (x_info _) rfl h1 ?_)
      rw [e2]
      have OE := OV3.row gV1 (by omega) (by omega) (xcells ⟨a, b, c, st, mi, .slice fa fl fc, .slice ba bl bc, S⟩)
      have RE := RV3.row ⟨a, b, c, st, mi, .slice fa fl fc, .slice ba bl bc, S⟩
      refine ⟨OE, ?_⟩
      refine wpAnyH_done (P := Tryz.prog) (by kernel_rfl) ?_ 0
      generalize V3.setRow g (xcells ⟨a, b, c, st, mi, .slice fa fl fc, .slice ba bl bc, S⟩) = VE at *
      refine NoPanic.normal ?_
      go_simp
      go_wp2_with fail
      go_meet
      case rel => exact ⟨_, g, rfl, rfl, RE, gV1, by omega, by omega, OE⟩
  case rest =>
    obtain ⟨w3, g, rfl, rfl, hR, hge, hne, hneM, hO⟩ := hcut
    clear cG cP
    have c2 : w3.cell? ⟨gM, 2, none⟩ = some (.int .i64 st) := by rw [World.cell?, hO.msg]; rfl
    by_cases hst : st = 0
    case neg =>
      have hstb : (st == 0) = false := beq_eq_false_iff_ne.2 hst
      have HQ1 := Lib.hid (HQ.out.1 hst)
      clear cH cI cC HQ
      go_upto_region 4 with fail
      have h1 : (xcells ⟨a, b, c, st, mi, .slice fa fl fc, .slice ba bl bc, S⟩).all (·.oneCell') = true := xcells_one ⟨_, _, _, rfl⟩ ⟨_, _, _, rfl⟩
      have hsz : (xcells noX).size = (xcells ⟨a, b, c, st, mi, .slice fa fl fc, .slice ba bl bc, S⟩).size := rfl
      have hi := x_info ⟨a, b, c, st, mi, .slice fa fl fc, .slice ba bl bc, S⟩
      have HV : Hid (Value.agg (xcells ⟨a, b, c, st, mi, .slice fa fl fc, .slice ba bl bc, S⟩) = xv ⟨a, b, c, st, mi, .slice fa fl fc, .slice ba bl bc, Q⟩) := Lib.hid (by rw [HQ1.out]; rfl)
      unfold XAt at hR
      generalize xcells ⟨a, b, c, st, mi, .slice fa fl fc, .slice ba bl bc, S⟩ = cd at *
      have HB := Lib.hid (Below.row hO.below (show w.heap.size ≤ gR from hO.geR) cd)
      have HF := Lib.hid (setRow_heap w3 gR (xcells noX) cd 58 (0, 0) hO.res)
      have hres := hO.res
      clear hO
      go_wp2_with (first | refine wpList_load_row rfl 58 _ rfl g rfl 58 cd (0, 0) _ hR Tryz.underlying58 rfl hi ?_ | refine wpList_store_row rfl 58 _ _ rfl gR cd rfl rfl 58 (xcells noX) hres hi hsz h1 ?_)
      (try simp only [Exit.inBlock, Exit.then])
      refine bodyPost_ret (v := .agg cd) ?h1 ?h2 ?h3
      case h1 => exact results_cell_row rfl _ _ gR _ cd (0, 0) _ rfl HF.out Tryz.underlying58 rfl hi
      case h2 => rfl
      case h3 => exact ⟨congrArg Ending.returned HV.out, HB.out⟩
    have hL := SBuf.lit_p w3 [Fr.kCC] #[.string ⟨#[99, 97, 99, 104, 101, 45, 99, 111, 110, 116, 114, 111, 108]⟩] rfl (by decide)
    have hR2 := hR.later hL.2
    have hO2 := hO.later hL.2
    have cH1 := cH ⟨a, b, c, st, mi, .slice fa fl fc, .slice ba bl bc, S⟩ rfl _ _ hO2.below hL.sin
    have cI1 := Lib.hid (cI ⟨a, b, c, st, mi, .slice fa fl fc, .slice ba bl bc, S⟩ rfl)
    change Calls _ _ #[.agg (xcells ⟨a, b, c, st, mi, .slice fa fl fc, .slice ba bl bc, S⟩), .slice (some ⟨w3.heap.size, 0, none⟩) 1 1] _ _ at cH1
    have hi := x_info ⟨a, b, c, st, mi, .slice fa fl fc, .slice ba bl bc, S⟩
    have HR := Lib.hid hR
    unfold XAt at hR
    have HL := Lib.hid (And.intro hR2 hO2)
    clear cH cI hR2 hO2
    have Hxc : Hid (xv ⟨a, b, c, st, mi, .slice fa fl fc, .slice ba bl bc, S⟩ = .agg (xcells ⟨a, b, c, st, mi, .slice fa fl fc, .slice ba bl bc, S⟩)) := Lib.hid rfl
    obtain ⟨cc, hcc⟩ : ∃ cc, cc = xcells ⟨a, b, c, st, mi, .slice fa fl fc, .slice ba bl bc, S⟩ := ⟨_, rfl⟩
    have HCC := Lib.hid hcc
    rw [← hcc] at hR hi cH1
    clear hcc
    subst hst
    go_wp2_with (refine wpList_row_if rfl 58 _ rfl g rfl 58 cc (0, 0) _ hR Tryz.underlying58 rfl hi ?_)
    refine cH1.mono ?_
    rintro e w4 ⟨rfl, hb4⟩
    obtain ⟨hR2, hO2⟩ := HL.out
    have hR4 := hR2.later hb4
    have hO4 := hO2.later hb4
    clear hL hO cH1 hb4 hR2 hO2 HL HR c2 hR
    cases hcb : Rl.has fs Fr.kCC with
    | true =>
      have HQ1 := Lib.hid (HQ.out.2.1 (by first | rfl | trivial) hcb)
      clear cI1 cC HQ hcb hi HCC Hxc
      go_upto_region 4 with fail
      have h1 : (xcells ⟨a, b, c, 0, mi, .slice fa fl fc, .slice ba bl bc, S⟩).all (·.oneCell') = true := xcells_one ⟨_, _, _, rfl⟩ ⟨_, _, _, rfl⟩
      have hsz : (xcells noX).size = (xcells ⟨a, b, c, 0, mi, .slice fa fl fc, .slice ba bl bc, S⟩).size := rfl
      have hi := x_info ⟨a, b, c, 0, mi, .slice fa fl fc, .slice ba bl bc, S⟩
      have HV : Hid (Value.agg (xcells ⟨a, b, c, 0, mi, .slice fa fl fc, .slice ba bl bc, S⟩) = xv ⟨a, b, c, 0, mi, .slice fa fl fc, .slice ba bl bc, Q⟩) := Lib.hid (by rw [HQ1.out]; rfl)
      unfold XAt at hR4
      generalize xcells ⟨a, b, c, 0, mi, .slice fa fl fc, .slice ba bl bc, S⟩ = cd at *
      have HB := Lib.hid (Below.row hO4.below (show w.heap.size ≤ gR from hO4.geR) cd)
      have HF := Lib.hid (setRow_heap w4 gR (xcells noX) cd 58 (0, 0) hO4.res)
      have hres := hO4.res
      clear hO4
      go_wp2_with (first | refine wpList_load_row rfl 58 _ rfl g rfl 58 cd (0, 0) _ hR4 Tryz.underlying58 rfl hi ?_ | refine wpList_store_row rfl 58 _ _ rfl gR cd rfl rfl 58 (xcells noX) hres hi hsz h1 ?_)
      (try simp only [Exit.inBlock, Exit.then])
      refine bodyPost_ret (v := .agg cd) ?h1 ?h2 ?h3
      case h1 => exact results_cell_row rfl _ _ gR _ cd (0, 0) _ rfl HF.out Tryz.underlying58 rfl hi
      case h2 => rfl
      case h3 => exact ⟨congrArg Ending.returned HV.out, HB.out⟩
    | false =>
      have HQ2 := Lib.hid (HQ.out.2.2 (by first | rfl | trivial) hcb)
      have cI2 := cI1.out w4 hO4.below
      rw [Hxc.out, ← HCC.out] at cI2
      have hR4b := hR4
      unfold XAt at hR4b
      rw [← HCC.out] at hR4b
      clear cI1 HQ hcb
      go_wp2_with (refine wpList_row_if rfl 58 _ rfl g rfl 58 cc (0, 0) _ hR4b Tryz.underlying58 rfl hi ?_)
      refine cI2.mono ?_
      rintro e w5 ⟨⟨v5, rfl, hB5⟩, hx5⟩
      clear hx5
      have hR5 := hR4.later hB5.2
      have hO5 := hO4.later hB5.2
      have cC5 := cC _ w5 hB5.sin
      obtain ⟨a5, e5, rfl, hx5⟩ := hB5.sin
      clear hx5 hB5 cI2 cC hR4 hR4b hO4 hi HCC Hxc
      go_wp2_with fail
      refine cC5.mono ?_
      rintro e w6 ⟨rfl, hb6⟩
      have hR6 := hR5.later hb6
      have hO6 := hO5.later hb6
      clear cC5 hR5 hO5 hb6
      cases hab : (Oct.splitAll (Fld.get fs Rl.kPragma)).any (fun p => Oct.lower p == Rl.kNoCache) with
      | false =>
        have HQ1 := Lib.hid (HQ2.out.1 hab)
        clear HQ2 hab
        go_upto_region 4 with fail
        have h1 : (xcells ⟨a, b, c, 0, mi, .slice fa fl fc, .slice ba bl bc, S⟩).all (·.oneCell') = true := xcells_one ⟨_, _, _, rfl⟩ ⟨_, _, _, rfl⟩
        have hsz : (xcells noX).size = (xcells ⟨a, b, c, 0, mi, .slice fa fl fc, .slice ba bl bc, S⟩).size := rfl
        have hi := x_info ⟨a, b, c, 0, mi, .slice fa fl fc, .slice ba bl bc, S⟩
        have HV : Hid (Value.agg (xcells ⟨a, b, c, 0, mi, .slice fa fl fc, .slice ba bl bc, S⟩) = xv ⟨a, b, c, 0, mi, .slice fa fl fc, .slice ba bl bc, Q⟩) := Lib.hid (by rw [HQ1.out]; rfl)
        unfold XAt at hR6
        generalize xcells ⟨a, b, c, 0, mi, .slice fa fl fc, .slice ba bl bc, S⟩ = cd at *
        have HB := Lib.hid (Below.row hO6.below (show w.heap.size ≤ gR from hO6.geR) cd)
        have HF := Lib.hid (setRow_heap w6 gR (xcells noX) cd 58 (0, 0) hO6.res)
        have hres := hO6.res
        clear hO6
        go_wp2_with (first | refine wpList_load_row rfl 58 _ rfl g rfl 58 cd (0, 0) _ hR6 Tryz.underlying58 rfl hi ?_ | refine wpList_store_row rfl 58 _ _ rfl gR cd rfl rfl 58 (xcells noX) hres hi hsz h1 ?_)
        (try simp only [Exit.inBlock, Exit.then])
        refine bodyPost_ret (v := .agg cd) ?h1 ?h2 ?h3
        case h1 => exact results_cell_row rfl _ _ gR _ cd (0, 0) _ rfl HF.out Tryz.underlying58 rfl hi
        case h2 => rfl
        case h3 => exact ⟨congrArg Ending.returned HV.out, HB.out⟩
      | true =>
        have HQ1 := Lib.hid (HQ2.out.2 hab)
        clear HQ2 hab
        have fz := hR6.free 8
        have k8 := hR6.cell 8
        change _ = some (Value.bool S.nc) at k8
        have hR7 : XAt (w6.setCell ⟨g, 8, none⟩ (.bool true)) g ⟨a, b, c, 0, mi, .slice fa fl fc, .slice ba bl bc, { S with nc := true }⟩ := hR6.put 8 (.bool true) rfl
        have hO7 := hO6.beside hge hneM hne 8 (.bool true)
        go_upto_region 4 with fail
        generalize w6.setCell ⟨g, 8, none⟩ (.bool true) = w7 at *
        clear hR6 hO6 fz k8 w6
        have h1 : (xcells ⟨a, b, c, 0, mi, .slice fa fl fc, .slice ba bl bc, { S with nc := true }⟩).all (·.oneCell') = true := xcells_one ⟨_, _, _, rfl⟩ ⟨_, _, _, rfl⟩
        have hsz : (xcells noX).size = (xcells ⟨a, b, c, 0, mi, .slice fa fl fc, .slice ba bl bc, { S with nc := true }⟩).size := rfl
        have hi := x_info ⟨a, b, c, 0, mi, .slice fa fl fc, .slice ba bl bc, { S with nc := true }⟩
        have HV : Hid (Value.agg (xcells ⟨a, b, c, 0, mi, .slice fa fl fc, .slice ba bl bc, { S with nc := true }⟩) = xv ⟨a, b, c, 0, mi, .slice fa fl fc, .slice ba bl bc, Q⟩) := Lib.hid (by rw [HQ1.out]; rfl)
        unfold XAt at hR7
        generalize xcells ⟨a, b, c, 0, mi, .slice fa fl fc, .slice ba bl bc, { S with nc := true }⟩ = cd at *
        have HB := Lib.hid (Below.row hO7.below (show w.heap.size ≤ gR from hO7.geR) cd)
        have HF := Lib.hid (setRow_heap w7 gR (xcells noX) cd 58 (0, 0) hO7.res)
        have hres := hO7.res
        clear hO7
        go_wp2_with (first | refine wpList_load_row rfl 58 _ rfl g rfl 58 cd (0, 0) _ hR7 Tryz.underlying58 rfl hi ?_ | refine wpList_store_row rfl 58 _ _ rfl gR cd rfl rfl 58 (xcells noX) hres hi hsz h1 ?_)
        (try simp only [Exit.inBlock, Exit.then])
        refine bodyPost_ret (v := .agg cd) ?h1 ?h2 ?h3
        case h1 => exact results_cell_row rfl _ _ gR _ cd (0, 0) _ rfl HF.out Tryz.underlying58 rfl hi
        case h2 => rfl
        case h3 => exact ⟨congrArg Ending.returned HV.out, HB.out⟩
end Go.Proofs.YtoanelobggledaaGreatDoor

