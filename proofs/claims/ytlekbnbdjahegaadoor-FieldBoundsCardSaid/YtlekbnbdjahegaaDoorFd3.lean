/- Package field: what keeps fields from being right. -/
import Derived.Test.YtlekbnbdjahegaaDoorFd2
namespace Go.Proofs.YtlekbnbdjahegaaDoor
open Go.RowKit

/-- Texts that the walks can reckon with. -/
def Small (fs : List Fld.F) : Prop := fs.length ≤ 1000000 ∧ ∀ f ∈ fs, f.1.length ≤ 1000000 ∧ f.2.length ≤ 1000000
theorem Small.at_ {fs : List Fld.F} (h : Small fs) (k : Nat) (hk : k < fs.length) : fs[k].1.length ≤ 1000000 ∧ fs[k].2.length ≤ 1000000 := h.2 _ (List.getElem_mem hk)
theorem Small.size {fs : List Fld.F} (h : Small fs) (k : Nat) : Fld.size (fs.take k) ≤ 2 + 2000004 * k := by
  induction k with
  | zero => exact Nat.le_refl 2
  | succ k ih =>
    by_cases hk : k < fs.length
    · rw [Fld.size_snoc fs k hk]
      have := h.at_ k hk
      unfold Fld.weight; omega
    · rw [List.take_of_length_le (by omega)]; rw [List.take_of_length_le (by omega)] at ih; omega
theorem shortF_small {fs : List Fld.F} {most : Nat} (h : shortF fs most = true) (hm : most ≤ 1000000) : Small fs := by
  obtain ⟨h1, h2⟩ := shortF_spec h
  exact ⟨by omega, fun f hf => by have := h2 f hf; omega⟩
theorem ret_num {k : IntKind} {a b : Int} (h : a = b) : Ending.returned (.int k a) = .returned (.int k b) := by rw [h]

/-- What a walk over fields holds of them. -/
def Cells (w : World) (b o n : Nat) (xs : List Fld.F) : Prop := ∃ hn : n = xs.length, b < w.heap.size ∧ ∀ j (hj : j < n), w.cell? ⟨b, o + j * 2, none⟩ = some (.string (str (xs[j]'(hn ▸ hj)).1)) ∧ w.cell? ⟨b, o + j * 2 + 1, none⟩ = some (.string (str (xs[j]'(hn ▸ hj)).2))
theorem Cells.at_ {w w' : World} {b o n : Nat} {xs : List Fld.F} (h : Cells w b o n xs) (hb : Below w.heap.size w w') (k : Nat) (hk : k < n) (hx : k < xs.length) :
    w'.cell? ⟨b, o + k * 2, none⟩ = some (.string (str xs[k].1)) ∧ w'.cell? ⟨b, o + k * 2 + 1, none⟩ = some (.string (str xs[k].2)) := by
  obtain ⟨hn, hl, h⟩ := h
  exact ⟨(hb.cell (p := ⟨b, o + k * 2, none⟩) hl).trans (h k hk).1, (hb.cell (p := ⟨b, o + k * 2 + 1, none⟩) hl).trans (h k hk).2⟩
theorem Cells.of {w : World} {ao : Option Addr} {xs : List Fld.F} {n : Nat} (hn : n = xs.length) (h0 : n ≠ 0)
    (h : xs = [] ∨ ∃ b o, ao = some ⟨b, o, none⟩ ∧ b < w.heap.size ∧ ∀ j (hj : j < xs.length), w.cell? ⟨b, o + j * 2, none⟩ = some (.string (str xs[j].1)) ∧ w.cell? ⟨b, o + j * 2 + 1, none⟩ = some (.string (str xs[j].2))) :
    ∃ b o, ao = some ⟨b, o, none⟩ ∧ Cells w b o n xs := by
  obtain ⟨b, o, h1, h2, h3⟩ := h.resolve_left (fun e => h0 (by rw [hn, e]; rfl))
  subst hn
  exact ⟨b, o, h1, rfl, h2, h3⟩

/-- A field's own block. -/
def fobj (x y : ByteArray) : Obj := .cells #[.string x, .string y] 49
theorem fcell {w w1 : World} {x y : ByteArray} (hb : Below (w.alloc (.cells #[.string x, .string y] 49)).heap.size (w.alloc (.cells #[.string x, .string y] 49)) w1) :
    w1.cell? ⟨w.heap.size, 0, none⟩ = some (.string x) ∧ w1.cell? ⟨w.heap.size, 1, none⟩ = some (.string y) ∧ Below w.heap.size w w1 := by
  have hl : w.heap.size < (w.alloc (.cells #[.string x, .string y] 49)).heap.size := by simp
  refine ⟨?_, ?_, ((Below.refl _ w).alloc (Nat.le_refl _) _).trans (hb.mono (by simp))⟩
  · rw [hb.cell (p := ⟨w.heap.size, 0, none⟩) hl, World.cell?_alloc_at _ _ _ _ rfl]; rfl
  · rw [hb.cell (p := ⟨w.heap.size, 1, none⟩) hl, World.cell?_alloc_at _ _ _ _ rfl]; rfl

set_option maxHeartbeats 800000 in
set_option maxRecDepth 100000 in
theorem fault_w (va : Value) (xs : List Fld.F) (w : World) (ha : FIn w va xs) (hs : Small xs) :
    Calls Tryd.prog 30 #[va] w fun e w' => e = .returned (.int .i64 (Fld.fault xs)) ∧ Below w.heap.size w w' := by
  obtain ⟨aa, ca, rfl, ha⟩ := ha
  obtain ⟨n, hn⟩ : ∃ n, n = xs.length := ⟨_, rfl⟩
  rw [← hn]
  have hn9 : n ≤ 1000000 := by have := hs.1; omega
  have HN := Lib.hid hn
  have HS := Lib.hid hs
  by_cases h0 : n = 0
  · subst h0
    have hx : xs = [] := List.eq_nil_of_length_eq_zero hn.symm
    have HR : Hid (0 = Fld.fault xs) := by subst hx; exact Lib.hid (by decide)
    clear hn ha hs hx
    go_enter Tryd.func30, Tryd.ntmps30
    go_wp2_with fail
    refine wp_loop_rounds 1 ?_
    rw [rounds_succ]
    go_wp2_with fail
    go_ret
    exact ⟨ret_num HR.out, Below.refl _ _⟩
  obtain ⟨ba, oa, rfl, hC⟩ := Cells.of hn h0 ha
  have HC := Lib.hid hC
  clear ha hn h0 hC hs
  go_enter Tryd.func30, Tryd.ntmps30
  go_wp2_with fail
  go_loopw [3, 8] (fun z i wr => ∃ k m : Nat, k ≤ n ∧ i = .int .i64 k ∧ z = .int .i64 m ∧ m ≤ 2 + 2000004 * k ∧ Hid (m = Fld.size (xs.take k)) ∧ Hid (Fld.allRight (xs.take k) = true) ∧ Below w.heap.size w wr) (fun _ i _ => n - (intOf i).toNat)
  case atStart => exact ⟨0, 2, by omega, rfl, rfl, by omega, Lib.hid (Fld.size_zero xs).symm, Lib.hid rfl, Below.refl _ _⟩
  case round =>
    obtain ⟨k, m, hk, rfl, rfl, hm, HM, HA, hb⟩ := hrel
    by_cases hlt : k < n
    · have ka : k < xs.length := by have := HN.out; omega
      obtain ⟨c1, c2⟩ := HC.out.at_ hb k hlt ka
      have z := HS.out.at_ k ka
      have cR := fun w => right_s xs[k] w z.1 z.2
      unfold fval at cR
      have s1 : ((str xs[k].1).size : Int) = xs[k].1.length := by rw [str_size]
      have s2 : ((str xs[k].2).size : Int) = xs[k].2.length := by rw [str_size]
      have HM2 : Hid (m + (xs[k].1.length + xs[k].2.length + 4) = Fld.size (xs.take (k + 1))) := by rw [Fld.size_snoc xs k ka, ← HM.out]; exact Lib.hid rfl
      by_cases hr : Fld.right xs[k] = true
      · have HA2 : Hid (Fld.allRight (xs.take (k + 1)) = true) := by rw [Fld.allRight_snoc xs k ka, HA.out, hr]; exact Lib.hid rfl
        rw [hr] at cR
        generalize str xs[k].1 = x at c1 cR s1
        generalize str xs[k].2 = y at c2 cR s2
        obtain ⟨l1, hl1⟩ : ∃ l1 : Nat, l1 = xs[k].1.length := ⟨_, rfl⟩
        obtain ⟨l2, hl2⟩ : ∃ l2 : Nat, l2 = xs[k].2.length := ⟨_, rfl⟩
        rw [← hl1] at s1 HM2 z
        rw [← hl2] at s2 HM2 z
        clear hr hl1 hl2
        go_wp2_with (go_at_call 27; refine (cR _).mono ?_; rintro e w1 ⟨rfl, hb1⟩; obtain ⟨f0, f1, hb2⟩ := fcell hb1)
        go_roundw
        case rel => exact ⟨k + 1, m + (l1 + l2 + 4), by omega, by go_num, by go_num, by omega, HM2, HA2, hb.trans (hb2.mono hb.size)⟩
        case measure => simp [intOf]; omega
      · have hr' : Fld.right xs[k] = false := by simpa using hr
        have HR : Hid (10 = Fld.fault xs) := Lib.hid (Fld.fault_form (Fld.allRight_miss xs k ka hr')).symm
        rw [hr'] at cR
        generalize str xs[k].1 = x at c1 cR s1
        generalize str xs[k].2 = y at c2 cR s2
        clear hr hr'
        go_wp2_with (go_at_call 27; refine (cR _).mono ?_; rintro e w1 ⟨rfl, hb1⟩; obtain ⟨f0, f1, hb2⟩ := fcell hb1)
        go_ret
        exact ⟨ret_num HR.out, hb.trans (hb2.mono hb.size)⟩
    · have hE := Fld.take_whole xs k (by have := HN.out; omega)
      rw [hE] at HM HA
      clear hE
      by_cases h128 : 128 < n
      · have HR : Hid (13 = Fld.fault xs) := Lib.hid (Fld.fault_many HA.out (by have := HN.out; omega)).symm
        have b1 : (128 : Int) < (n : Int) := by omega
        clear h128
        go_wp2_with fail
        go_ret
        exact ⟨ret_num HR.out, hb⟩
      · have b1 : ¬ (128 : Int) < (n : Int) := by omega
        by_cases h6 : 65536 < m
        · have HR : Hid (12 = Fld.fault xs) := Lib.hid (Fld.fault_long HA.out (by have := HN.out; omega) (by have := HM.out; omega)).symm
          have b2 : (65536 : Int) < (m : Int) := by omega
          clear h6 h128
          go_wp2_with fail
          go_ret
          exact ⟨ret_num HR.out, hb⟩
        · have HR : Hid (0 = Fld.fault xs) := Lib.hid (Fld.fault_ok HA.out (by have := HN.out; omega) (by have := HM.out; omega)).symm
          have b2 : ¬ (65536 : Int) < (m : Int) := by omega
          clear h6 h128
          go_wp2_with fail
          go_ret
          exact ⟨ret_num HR.out, hb⟩

set_option maxHeartbeats 800000 in
set_option maxRecDepth 100000 in
theorem rFault_w (va : Value) (xs : List Fld.F) (w : World) (ha : FIn w va xs) (hs : Small xs) :
    Calls Tryd.prog 14 #[va] w fun e w' => e = .returned (.int .i64 (Fld.fault xs)) ∧ Below w.heap.size w w' := by
  obtain ⟨aa, ca, rfl, ha⟩ := ha
  obtain ⟨n, hn⟩ : ∃ n, n = xs.length := ⟨_, rfl⟩
  rw [← hn]
  have hn9 : n ≤ 1000000 := by have := hs.1; omega
  have HN := Lib.hid hn
  have HS := Lib.hid hs
  by_cases h0 : n = 0
  · subst h0
    have hx : xs = [] := List.eq_nil_of_length_eq_zero hn.symm
    have HR : Hid (0 = Fld.fault xs) := by subst hx; exact Lib.hid (by decide)
    clear hn ha hs hx
    go_enter Tryd.func14, Tryd.ntmps14
    go_wp2_with fail
    refine wp_loop_rounds 1 ?_
    rw [rounds_succ]
    go_wp2_with fail
    refine wp_loop_rounds 1 ?_
    rw [rounds_succ]
    go_wp2_with fail
    go_ret
    exact ⟨ret_num HR.out, Below.refl _ _⟩
  obtain ⟨ba, oa, rfl, hC⟩ := Cells.of hn h0 ha
  have HC := Lib.hid hC
  clear ha hn h0 hC hs
  go_enter Tryd.func14, Tryd.ntmps14
  go_wp2_with fail
  go_loopw [4] (fun i wr => ∃ k : Nat, k ≤ n ∧ i = .int .i64 k ∧ Hid (Fld.allRight (xs.take k) = true) ∧ Below w.heap.size w wr) (fun i _ => n - (intOf i).toNat)
  case atStart => exact ⟨0, by omega, rfl, Lib.hid rfl, Below.refl _ _⟩
  case round =>
    obtain ⟨k, hk, rfl, HA, hb⟩ := hrel
    by_cases hlt : k < n
    · have ka : k < xs.length := by have := HN.out; omega
      obtain ⟨c1, c2⟩ := HC.out.at_ hb k hlt ka
      have z := HS.out.at_ k ka
      have cR := fun w => fits_s xs[k] w z.1 z.2
      unfold fval at cR
      by_cases hr : Fld.right xs[k] = true
      · have HA2 : Hid (Fld.allRight (xs.take (k + 1)) = true) := by rw [Fld.allRight_snoc xs k ka, HA.out, hr]; exact Lib.hid rfl
        rw [hr] at cR
        generalize str xs[k].1 = x at c1 cR
        generalize str xs[k].2 = y at c2 cR
        clear hr
        go_wp2_with (go_at_call 29; refine (cR _).mono ?_; rintro e w1 ⟨rfl, hb1⟩)
        go_roundw
        case rel => exact ⟨k + 1, by omega, by go_num, HA2, hb.trans (hb1.mono hb.size)⟩
        case measure => simp [intOf]; omega
      · have hr' : Fld.right xs[k] = false := by simpa using hr
        have HR : Hid (10 = Fld.fault xs) := Lib.hid (Fld.fault_form (Fld.allRight_miss xs k ka hr')).symm
        rw [hr'] at cR
        generalize str xs[k].1 = x at c1 cR
        generalize str xs[k].2 = y at c2 cR
        clear hr hr'
        go_wp2_with (go_at_call 29; refine (cR _).mono ?_; rintro e w1 ⟨rfl, hb1⟩)
        go_ret
        exact ⟨ret_num HR.out, hb.trans (hb1.mono hb.size)⟩
    · have hE := Fld.take_whole xs k (by have := HN.out; omega)
      rw [hE] at HA
      clear hE
      by_cases h128 : 128 < n
      · have HR : Hid (13 = Fld.fault xs) := Lib.hid (Fld.fault_many HA.out (by have := HN.out; omega)).symm
        have b1 : (128 : Int) < (n : Int) := by omega
        clear h128
        go_wp2_with fail
        go_ret
        exact ⟨ret_num HR.out, hb⟩
      · have b1 : ¬ (128 : Int) < (n : Int) := by omega
        go_wp2_with fail
        go_loopw [3, 5] (fun z i wx => ∃ k m q : Nat, k ≤ n ∧ i = .int .i64 k ∧ z = .int .i64 m ∧ m ≤ 65536 ∧ Hid (m = Fld.size (xs.take k)) ∧ wx = wr.drewN q) (fun _ i _ => n - (intOf i).toNat)
        case atStart => exact ⟨0, 2, 0, by omega, rfl, rfl, by omega, Lib.hid (Fld.size_zero xs).symm, rfl⟩
        case round =>
          obtain ⟨j, m, q, hj, rfl, rfl, hm, HM, rfl⟩ := hrel
          by_cases hjt : j < n
          · have ja : j < xs.length := by have := HN.out; omega
            obtain ⟨c1, c2⟩ := HC.out.at_ hb j hjt ja
            have z := HS.out.at_ j ja
            have s1 : ((str xs[j].1).size : Int) = xs[j].1.length := by rw [str_size]
            have s2 : ((str xs[j].2).size : Int) = xs[j].2.length := by rw [str_size]
            have HM2 : Hid (m + (xs[j].1.length + xs[j].2.length + 4) = Fld.size (xs.take (j + 1))) := by rw [Fld.size_snoc xs j ja, ← HM.out]; exact Lib.hid rfl
            generalize str xs[j].1 = x at c1 s1
            generalize str xs[j].2 = y at c2 s2
            obtain ⟨l1, hl1⟩ : ∃ l1 : Nat, l1 = xs[j].1.length := ⟨_, rfl⟩
            obtain ⟨l2, hl2⟩ : ∃ l2 : Nat, l2 = xs[j].2.length := ⟨_, rfl⟩
            rw [← hl1] at s1 HM2 z
            rw [← hl2] at s2 HM2 z
            clear hl1 hl2 hlt
            by_cases h6 : 65536 < m + (l1 + l2 + 4)
            · have HR : Hid (12 = Fld.fault xs) := Lib.hid (Fld.fault_long HA.out (by have := HN.out; omega) (by have := HM2.out; have := Fld.size_take xs (j + 1); omega)).symm
              have b2 : (65536 : Int) < (m : Int) + l1 + l2 + 4 := by omega
              clear h6
              go_wp2_with fail
              go_quiet (fail)
              go_wp2_with fail
              go_ret
              exact ⟨ret_num HR.out, hb.trans ((bdrewN _ _).mono hb.size)⟩
            · have b2 : ¬ (65536 : Int) < (m : Int) + l1 + l2 + 4 := by omega
              go_wp2_with fail
              go_quiet (fail)
              obtain ⟨M, hM⟩ : ∃ M : Nat, M = m + (l1 + l2 + 4) := ⟨_, rfl⟩
              have e1 : (m : Int) + l1 + l2 + 4 = (M : Int) := by omega
              have b3 : ¬ (65536 : Int) < (M : Int) := by omega
              have hM6 : M ≤ 65536 := by omega
              rw [e1]
              rw [← hM] at HM2
              clear e1 b2 h6 hM
              go_wp2_with fail
              go_roundw
              case rel => exact ⟨j + 1, M, _, by omega, by go_num, rfl, hM6, HM2, rfl⟩
              case measure => simp [intOf]; omega
          · have hE := Fld.take_whole xs j (by have := HN.out; omega)
            have HR : Hid (0 = Fld.fault xs) := Lib.hid (Fld.fault_ok HA.out (by have := HN.out; omega) (by have := HM.out; rw [hE] at this; omega)).symm
            clear hE
            go_wp2_with fail
            go_ret
            exact ⟨ret_num HR.out, hb.trans ((bdrewN _ _).mono hb.size)⟩
set_option maxHeartbeats 400000 in
theorem Right_w (va : Value) (xs : List Fld.F) (w : World) (ha : FIn w va xs) (hs : Small xs) :
    Calls Tryd.prog 15 #[va] w fun e w' => e = .returned (.bool (Fld.fault xs == 0)) ∧ Below w.heap.size w w' := by
  have cF := fault_w va xs w ha hs
  generalize Fld.fault xs = z at cF
  go_enter Tryd.func15, Tryd.ntmps15
  go_wp2_with (go_at_call 30; refine cF.mono ?_; rintro e w1 ⟨rfl, hb1⟩)
  go_ret
  exact ⟨rfl, by assumption⟩
end Go.Proofs.YtlekbnbdjahegaaDoor
