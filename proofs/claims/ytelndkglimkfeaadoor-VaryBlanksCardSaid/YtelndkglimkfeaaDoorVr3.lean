/- Package vary: matches. -/
import Derived.Test.YtelndkglimkfeaaDoorVr2
namespace Go.Proofs.YtelndkglimkfeaaDoor
open Go.RowKit

/-- Two functions that are asked for parts, in a block each. -/
structure Two (w : World) (bA bB : Nat) (fa fb : List Fld.F) : Prop where
  a : ∃ vA, w.heap[bA]? = some (.cells #[vA] 38 (0, 0)) ∧ PartFn w vA fa
  b : ∃ vB, w.heap[bB]? = some (.cells #[vB] 38 (0, 0)) ∧ PartFn w vB fb
theorem Two.later {w w' : World} {bA bB : Nat} {fa fb : List Fld.F} (h : Two w bA bB fa fb) (hb : Below w.heap.size w w') : Two w' bA bB fa fb := by
  obtain ⟨⟨vA, h1, h2⟩, ⟨vB, h3, h4⟩⟩ := h
  exact ⟨⟨vA, (hb.block _ (lt_of_block h1)).trans h1, h2.later hb⟩, ⟨vB, (hb.block _ (lt_of_block h3)).trans h3, h4.later hb⟩⟩

set_option maxHeartbeats 1600000 in
set_option maxRecDepth 100000 in
theorem match1_c (nm : List UInt8) (bA bB : Nat) (fa fb : List Fld.F) (w : World) (h : Two w bA bB fa fb) (ha : Fits fa) (hb : Fits fb) (hn : nm.length ≤ 1000000) :
    Calls Tryd.prog 31 #[.string (str nm), .pointer (some ⟨bA, 0, none⟩), .pointer (some ⟨bB, 0, none⟩)] w fun e w' => e = .returned (.bool (!(Vr.part nm fa == Vr.part nm fb))) ∧ Below w.heap.size w w' := by
  obtain ⟨⟨vA, h1, h2⟩, ⟨vB, h3, h4⟩⟩ := h
  obtain ⟨pA, rfl, cA⟩ := h2.call ha
  obtain ⟨pB, rfl, cB⟩ := h4.call hb
  have k1 := cell_of_one h1
  have k2 := cell_of_one h3
  have a1 := fun (p : LateOf w) => p.cell k1
  have a2 := fun (p : LateOf w) => p.cell k2
  have cA' := fun (p : LateOf w) => late p (cA p.w p.h nm hn)
  have cB' := fun (p : LateOf w) => late p (cB p.w p.h nm hn)
  have hx : (!(Vr.part nm fa == Vr.part nm fb)) = !((str (Vr.part nm fa)).toList == (str (Vr.part nm fb)).toList) := by rw [str_toList, str_toList]
  have HX := Lib.hid hx
  generalize str nm = s at *
  generalize str (Vr.part nm fa) = x at *
  generalize str (Vr.part nm fb) = y at *
  clear h1 h2 h3 h4 cA cB hx k1 k2
  go_enter Tryd.func31, Tryd.ntmps31
  go_wp2_with fail
  refine wp_region_late (by kernel_rfl) (by kernel_rfl) ?_
  quiet_step (fail)
  quiet_step (fail)
  quiet_step (exact cA' _)
  quiet_step (fail)
  quiet_step (fail)
  quiet_step (exact cB' _)
  quiet_step (fail)
  quiet_step (fail)
  refine wpQuiet_nil ?_
  intro w2 hw'
  have hb2 : Below w.heap.size w w2 := by obtain ⟨p, rfl⟩ := hw'; exact p.h
  go_wp2_with fail
  go_ret
  exact ⟨by rw [HX.out]; rfl, hb2⟩

/-- Behind world w the function of block pair A, B is asked of names. -/
def pickAt (w : World) (nm : List UInt8) (bA bB : Nat) (fa fb : List Fld.F) : Prop := ∀ w1, Below w.heap.size w w1 →
    Calls Tryd.prog 31 #[.string (str nm), .pointer (some ⟨bA, 0, none⟩), .pointer (some ⟨bB, 0, none⟩)] w1 fun e w' => e = .returned (.bool (!(Vr.part nm fa == Vr.part nm fb))) ∧ Below w1.heap.size w1 w'

theorem idx_miss {ns : List (List UInt8)} {a b : List Fld.F} {k : Nat} (h : k < ns.length) (hp : (Vr.part ns[k] a == Vr.part ns[k] b) = false) : Vr.fits ns a b = false := Vr.fits_miss h hp

set_option maxHeartbeats 1600000 in
set_option maxRecDepth 100000 in
/-- slices.IndexFunc: not less than nought just if the names don't fit. -/
theorem Index_w (vn : Value) (ns : List (List UInt8)) (bA bB : Nat) (fa fb : List Fld.F) (w : World) (hn : SIn w vn ns) (hnl : ns.length ≤ 100000) (hnz : ∀ n ∈ ns, n.length ≤ 1000000) (h : Two w bA bB fa fb) (ha : Fits fa) (hb : Fits fb) :
    Calls Tryd.prog 46 #[vn, .func (.func 31) #[] #[.pointer (some ⟨bA, 0, none⟩), .pointer (some ⟨bB, 0, none⟩)]] w fun e w' => ∃ i : Int, e = .returned (.int .i64 i) ∧ -1 ≤ i ∧ i ≤ 100000 ∧ (decide (0 ≤ i) = !(Vr.fits ns fa fb)) ∧ Below w.heap.size w w' := by
  have HP : Hid (∀ nm : List UInt8, nm.length ≤ 1000000 → pickAt w nm bA bB fa fb) := Lib.hid (fun nm hz w1 hb1 => match1_c nm bA bB fa fb w1 (h.later hb1) ha hb hz)
  have HZ := Lib.hid hnz
  obtain ⟨n, hnn⟩ : ∃ n, n = ns.length := ⟨_, rfl⟩
  have HN := Lib.hid hnn
  by_cases h0 : ns = []
  · obtain ⟨ao, cap, rfl, _⟩ := hn
    have HE := Lib.hid h0
    have e0 : ns.length = 0 := by rw [h0]; rfl
    rw [e0]
    clear h0 hnn hnz e0 h ha hb
    go_enter Tryd.func46, Tryd.ntmps46
    go_wp2_with fail
    refine wp_loop_rounds 1 ?_
    rw [rounds_succ]
    go_wp2_with fail
    go_ret
    exact ⟨-1, rfl, by omega, by omega, by rw [HE.out]; rfl, Below.refl _ _⟩
  obtain ⟨bn, on, cn, rfl, hc⟩ := hn.at_ h0
  rw [← hnn] at hnl ⊢
  have HC := Lib.hid hc
  clear h0 hnz hnn hc ha hb hn h
  go_enter Tryd.func46, Tryd.ntmps46
  go_wp2_with fail
  go_loopw [8] (fun i wr => ∃ k : Nat, k ≤ n ∧ i = .int .i64 k ∧ Below w.heap.size w wr ∧ Hid (Vr.fits (ns.take k) fa fb = true)) (fun i _ => n - (intOf i).toNat)
  case atStart => exact ⟨0, by omega, rfl, Below.refl _ _, Lib.hid rfl⟩
  case round =>
    obtain ⟨k, hk, rfl, hbr, HT⟩ := hrel
    by_cases hlt : k < n
    · have ka : k < ns.length := by have := HN.out; omega
      have c1 := HC.out wr hbr k ka
      have cP := HP.out ns[k] (HZ.out _ (List.getElem_mem ka)) wr hbr
      have HS := Lib.hid (Vr.fits_snoc ns fa fb k ka)
      by_cases hp : (Vr.part ns[k] fa == Vr.part ns[k] fb) = true
      · have HY := Lib.hid hp
        rw [hp] at cP
        generalize str ns[k] = x at c1 cP
        clear hp
        go_wp2_with fail
        refine cP.mono ?_
        rintro e w2 ⟨rfl, hb2⟩
        go_wp2_with fail
        go_roundw
        case rel => exact ⟨k + 1, by omega, by go_num, hbr.trans (hb2.mono hbr.size), Lib.hid (by rw [HS.out, HT.out, HY.out]; rfl)⟩
        case measure => simp [intOf]; omega
      · have hp' : (Vr.part ns[k] fa == Vr.part ns[k] fb) = false := by simpa using hp
        have HY := Lib.hid (Vr.fits_miss ka hp')
        rw [hp'] at cP
        generalize str ns[k] = x at c1 cP
        clear hp hp'
        go_wp2_with fail
        refine cP.mono ?_
        rintro e w2 ⟨rfl, hb2⟩
        go_wp2_with fail
        go_ret
        exact ⟨k, rfl, by omega, by omega, by rw [HY.out]; simp, hbr.trans (hb2.mono hbr.size)⟩
    · have hE : ns.take k = ns := List.take_of_length_le (by have := HN.out; omega)
      have HE := Lib.hid hE
      clear hE
      go_wp2_with fail
      go_ret
      exact ⟨-1, rfl, by omega, by omega, by rw [← HE.out, HT.out]; rfl, hbr⟩

set_option maxHeartbeats 1600000 in
set_option maxRecDepth 100000 in
theorem Contains_w (vn : Value) (ns : List (List UInt8)) (bA bB : Nat) (fa fb : List Fld.F) (w : World) (hn : SIn w vn ns) (hnl : ns.length ≤ 100000) (hnz : ∀ n ∈ ns, n.length ≤ 1000000) (h : Two w bA bB fa fb) (ha : Fits fa) (hb : Fits fb) :
    Calls Tryd.prog 30 #[vn, .func (.func 31) #[] #[.pointer (some ⟨bA, 0, none⟩), .pointer (some ⟨bB, 0, none⟩)]] w fun e w' => e = .returned (.bool (!(Vr.fits ns fa fb))) ∧ Below w.heap.size w w' := by
  have c := Index_w vn ns bA bB fa fb w hn hnl hnz h ha hb
  obtain ⟨ao, cap, rfl, _⟩ := hn
  clear ha hb h hnz hnl
  go_enter Tryd.func30, Tryd.ntmps30
  go_wp2_with fail
  refine c.mono ?_
  rintro e w1 ⟨i, rfl, hi1, hi2, hi3, hb1⟩
  have HI := Lib.hid hi3
  clear hi3 c
  go_wp2_with fail
  go_ret
  exact ⟨by rw [← HI.out]; rfl, hb1⟩

set_option maxHeartbeats 1600000 in
set_option maxRecDepth 100000 in
theorem Match_w (vn : Value) (ns : List (List UInt8)) (va vb : Value) (fa fb : List Fld.F) (w : World) (hn : SIn w vn ns) (hnl : ns.length ≤ 100000) (hnz : ∀ n ∈ ns, n.length ≤ 1000000) (ha : FIn w va fa) (hb : FIn w vb fb) (za : Fits fa) (zb : Fits fb) :
    Calls Tryd.prog 16 #[vn, va, vb] w fun e w' => e = .returned (.bool (Vr.fits ns fa fb)) ∧ Below w.heap.size w w' := by
  have cA := parts_w va fa w ha
  have cB := fun (w1 : World) (h : Below w.heap.size w w1) => parts_w vb fb w1 (hb.later h)
  have cC := fun (bA bB : Nat) (w1 : World) (h : Below w.heap.size w w1) (h2 : Two w1 bA bB fa fb) => Contains_w vn ns bA bB fa fb w1 (hn.later h) hnl hnz h2 za zb
  have hmf : ∀ (fn : Fn) (first cap : Array Value) (w : World), (Instr.makeFunc fn first cap).run Tryd.prog w = .ok (.func fn first cap) w := fun _ _ _ _ => rfl
  obtain ⟨aa, ca, rfl, _⟩ := ha
  obtain ⟨ab, cb, rfl, _⟩ := hb
  obtain ⟨an, cn, rfl, _⟩ := hn
  have HX : Hid (Vr.fits ns fa fb = !(!(Vr.fits ns fa fb))) := Lib.hid (by simp)
  generalize hx : Vr.fits ns fa fb = x at *
  clear hx za zb hnz hnl
  go_enter Tryd.func16, Tryd.ntmps16
  go_wp2_with fail
  refine cA.mono ?_
  rintro e w1 ⟨fA, rfl, pA, hb1⟩
  have cB1 := cB w1 hb1
  obtain ⟨b1, rfl, _⟩ := id (show ∃ b, fA = .func (.func 42) #[] #[.pointer (some ⟨b, 0, none⟩)] ∧ True by obtain ⟨b, va, h, _⟩ := pA; exact ⟨b, h, trivial⟩)
  go_wp2_with fail
  refine cB1.mono ?_
  rintro e w2 ⟨fB, rfl, pB, hb2⟩
  obtain ⟨b2, rfl, _⟩ := id (show ∃ b, fB = .func (.func 42) #[] #[.pointer (some ⟨b, 0, none⟩)] ∧ True by obtain ⟨b, va, h, _⟩ := pB; exact ⟨b, h, trivial⟩)
  have hb12 := hb1.trans (hb2.mono hb1.size)
  have pA2 := pA.later hb2
  clear cA cB cB1 pA
  obtain ⟨vA, hvA⟩ : ∃ vA, vA = Value.func (.func 42) #[] #[.pointer (some ⟨b1, 0, none⟩)] := ⟨_, rfl⟩
  obtain ⟨vB, hvB⟩ : ∃ vB, vB = Value.func (.func 42) #[] #[.pointer (some ⟨b2, 0, none⟩)] := ⟨_, rfl⟩
  have two : ∀ x y, ((w2.alloc (.cells #[x] 38)).alloc (.cells #[y] 38)).heap[w2.heap.size]? = some (.cells #[x] 38 (0, 0)) ∧ ((w2.alloc (.cells #[x] 38)).alloc (.cells #[y] 38)).heap[w2.heap.size + 1]? = some (.cells #[y] 38 (0, 0)) ∧ Below w2.heap.size w2 ((w2.alloc (.cells #[x] 38)).alloc (.cells #[y] 38)) := fun x y =>
    ⟨by rw [Below.heap_alloc _ _ _ (by simp)]; exact heap_alloc_new w2 _, heap_alloc2_new w2 _ _, ((Below.refl _ w2).alloc (Nat.le_refl _) _).alloc (by simp) _⟩
  have hs1 : (store ⟨w2.heap.size, 0, none⟩ vA).run Tryd.prog ((w2.alloc (.cells #[.nilFunc] 38)).alloc (.cells #[.nilFunc] 38)) = .ok () (((w2.alloc (.cells #[.nilFunc] 38)).alloc (.cells #[.nilFunc] 38)).setCell ⟨w2.heap.size, 0, none⟩ vA) := by
    rw [run_store _ _ _ _ _ (by rw [hvA]; rfl), cell_of_one (two .nilFunc .nilFunc).1]; simp [free_of_one (two .nilFunc .nilFunc).1]
  have hs2 : (store ⟨w2.heap.size + 1, 0, none⟩ vB).run Tryd.prog ((w2.alloc (.cells #[vA] 38)).alloc (.cells #[.nilFunc] 38)) = .ok () (((w2.alloc (.cells #[vA] 38)).alloc (.cells #[.nilFunc] 38)).setCell ⟨w2.heap.size + 1, 0, none⟩ vB) := by
    rw [run_store _ _ _ _ _ (by rw [hvB]; rfl), cell_of_one (two vA .nilFunc).2.1]; simp [free_of_one (two vA .nilFunc).2.1]
  obtain ⟨t1, t2, hbl⟩ := two vA vB
  rw [← hvA] at pA2
  rw [← hvB] at pB
  have hbz := hb12.trans (hbl.mono hb12.size)
  have cC2 := cC _ _ _ hbz ⟨⟨vA, t1, pA2.later hbl⟩, ⟨vB, t2, pB.later hbl⟩⟩
  subst hvA hvB
  clear cC t1 t2 two hbl pA2 pB hb1 hb2 hb12
  go_wp2_with (go_at_call 30; refine cC2.mono ?_; rintro e w4 ⟨rfl, hb4⟩)
  go_ret
  exact ⟨by rw [HX.out]; rfl, hbz.trans (hb4.mono hbz.size)⟩
end Go.Proofs.YtelndkglimkfeaaDoor
