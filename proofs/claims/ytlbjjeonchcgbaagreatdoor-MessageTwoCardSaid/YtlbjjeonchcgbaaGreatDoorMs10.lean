/- The statements of layer 8: MessageTwo. -/
import Derived.Test.YtlbjjeonchcgbaaGreatDoorMsS
import Derived.Test.YtlbjjeonchcgbaaGreatDoorMsP2
import Derived.Test.YtlbjjeonchcgbaaGreatDoorQuiet
namespace Go.Proofs.YtlbjjeonchcgbaaGreatDoor
open Go.RowKit

set_option maxHeartbeats 6400000 in
set_option maxRecDepth 100000 in
theorem two_core {a0 a1 a3 d0 d1 d3 mm PA PB : ByteArray} {st mi du dm : Int} {fv bv gv hv : Value} {n X k Y NA NB : Nat} {sa sb ra rb Q R : Bool} {fs gs : List Fld.F} {x y : List UInt8} (w : World) (hQ : (st == 0) = Q) (hR : (du == 0) = R)
    (cA : ∀ W, Below w.heap.size w W → Calls Tryz.prog 9 #[] W fun e w' => e = .returned (.bool true) ∧ Below W.heap.size W w')
    (cSa : ∀ W, Below w.heap.size w W → Calls Tryz.prog 13 #[.agg #[.string a0, .string a1, .int .i64 st, .string a3, .int .i64 mi, fv, bv], .string mm] W fun e w' => e = .returned (.bool sa) ∧ Below W.heap.size W w')
    (cSb : ∀ W, Below w.heap.size w W → Calls Tryz.prog 13 #[.agg #[.string d0, .string d1, .int .i64 du, .string d3, .int .i64 dm, gv, hv], .string mm] W fun e w' => e = .returned (.bool sb) ∧ Below W.heap.size W w')
    (cRa : sa = true → ∀ W, Below w.heap.size w W → Calls Tryz.prog 17 #[.agg #[.string a0, .string a1, .int .i64 st, .string a3, .int .i64 mi, fv, bv], .string mm] W fun e w' => e = .returned (.bool ra) ∧ Below W.heap.size W w')
    (cRb : sb = true → ∀ W, Below w.heap.size w W → Calls Tryz.prog 17 #[.agg #[.string d0, .string d1, .int .i64 du, .string d3, .int .i64 dm, gv, hv], .string mm] W fun e w' => e = .returned (.bool rb) ∧ Below W.heap.size W w')
    (cPa : sa = true → ra = true → ∀ W, Below w.heap.size w W → Calls Tryz.prog 19 #[.agg #[.string a0, .string a1, .int .i64 st, .string a3, .int .i64 mi, fv, bv], .string mm] W fun e w' => e = .returned (.string PA) ∧ Below W.heap.size W w')
    (cPb : sb = true → rb = true → ∀ W, Below w.heap.size w W → Calls Tryz.prog 19 #[.agg #[.string d0, .string d1, .int .i64 du, .string d3, .int .i64 dm, gv, hv], .string mm] W fun e w' => e = .returned (.string PB) ∧ Below W.heap.size W w')
    (HH : sa = true → sb = true → ra = true → rb = true → Q = R → PA.size = NA ∧ NA ≤ 200000 ∧ PB.size = NB ∧ NB ≤ 200000 ∧
      (∀ u W, BIn W u (PA.data.toList ++ PB.data.toList) → NilOk u → Below w.heap.size w W → Calls Tryz.prog 10 #[u, .bool Q, .string mm] W fun e w' => (∃ fa fc ba bc, e = .returned (.tuple #[.agg #[.string a0, .string a1, .int .i64 st, .string a3, .int .i64 mi, .slice fa n fc, .slice ba X bc], .int .i64 NA, .int .i64 0]) ∧ FIn w' (.slice fa n fc) fs ∧ BIn w' (.slice ba X bc) x ∧ NilOk (.slice ba X bc) ∧ ∀ ad j c, (Value.slice fa n fc) = .slice (some ad) j c → W.heap.size ≤ ad.block) ∧ Below W.heap.size W w') ∧
      (∀ u W, BIn W u PB.data.toList → NilOk u → Below w.heap.size w W → Calls Tryz.prog 10 #[u, .bool Q, .string mm] W fun e w' => (∃ fa fc ba bc, e = .returned (.tuple #[.agg #[.string d0, .string d1, .int .i64 du, .string d3, .int .i64 dm, .slice fa k fc, .slice ba Y bc], .int .i64 NB, .int .i64 0]) ∧ FIn w' (.slice fa k fc) gs ∧ BIn w' (.slice ba Y bc) y ∧ NilOk (.slice ba Y bc) ∧ ∀ ad j c, (Value.slice fa k fc) = .slice (some ad) j c → W.heap.size ≤ ad.block) ∧ Below W.heap.size W w') ∧
      (∀ fa6 fc6 ba6 bc6 W, FIn W (.slice fa6 n fc6) fs → BIn W (.slice ba6 X bc6) x → NilOk (.slice ba6 X bc6) → Below w.heap.size w W → Calls Tryz.prog 12 #[.agg #[.string a0, .string a1, .int .i64 st, .string a3, .int .i64 mi, .slice fa6 n fc6, .slice ba6 X bc6], .agg #[.string a0, .string a1, .int .i64 st, .string a3, .int .i64 mi, fv, bv]] W fun e w' => e = .returned (.bool true) ∧ Below W.heap.size W w') ∧
      (∀ fa7 fc7 ba7 bc7 W, FIn W (.slice fa7 k fc7) gs → BIn W (.slice ba7 Y bc7) y → NilOk (.slice ba7 Y bc7) → Below w.heap.size w W → Calls Tryz.prog 12 #[.agg #[.string d0, .string d1, .int .i64 du, .string d3, .int .i64 dm, .slice fa7 k fc7, .slice ba7 Y bc7], .agg #[.string d0, .string d1, .int .i64 du, .string d3, .int .i64 dm, gv, hv]] W fun e w' => e = .returned (.bool true) ∧ Below W.heap.size W w')) :
    Calls Tryz.prog 6 #[.agg #[.string a0, .string a1, .int .i64 st, .string a3, .int .i64 mi, fv, bv], .agg #[.string d0, .string d1, .int .i64 du, .string d3, .int .i64 dm, gv, hv], .string mm] w fun e w' => e = .returned (.bool true) ∧ Below w.heap.size w w' := by
  cases sa with
  | false =>
    clear cRa cRb cPa cPb HH cSb hQ hR
    go_enter Tryz.func6, Tryz.ntmps6
    go_upto_region 1 with fail
    have bA : ((w.alloc (.cells #[.string a0, .string a1, .int .i64 st, .string a3, .int .i64 mi, fv, bv] 28)).alloc (.cells #[.string d0, .string d1, .int .i64 du, .string d3, .int .i64 dm, gv, hv] 28)).heap[w.heap.size]? = some (.cells #[.string a0, .string a1, .int .i64 st, .string a3, .int .i64 mi, fv, bv] 28 (0, 0)) := heap_alloc2_old w _ _
    have bB : ((w.alloc (.cells #[.string a0, .string a1, .int .i64 st, .string a3, .int .i64 mi, fv, bv] 28)).alloc (.cells #[.string d0, .string d1, .int .i64 du, .string d3, .int .i64 dm, gv, hv] 28)).heap[w.heap.size + 1]? = some (.cells #[.string d0, .string d1, .int .i64 du, .string d3, .int .i64 dm, gv, hv] 28 (0, 0)) := heap_alloc2_new w _ _
    have hb : Below w.heap.size w ((w.alloc (.cells #[.string a0, .string a1, .int .i64 st, .string a3, .int .i64 mi, fv, bv] 28)).alloc (.cells #[.string d0, .string d1, .int .i64 du, .string d3, .int .i64 dm, gv, hv] 28)) := ((Below.refl _ w).alloc (Nat.le_refl _) _).alloc (by simp) _
    generalize (w.alloc (.cells #[.string a0, .string a1, .int .i64 st, .string a3, .int .i64 mi, fv, bv] 28)).alloc (.cells #[.string d0, .string d1, .int .i64 du, .string d3, .int .i64 dm, gv, hv] 28) = W0 at *
    obtain ⟨p1, hp1⟩ : ∃ q, q = w.heap.size + 1 := ⟨_, rfl⟩
    rw [← hp1] at bB ⊢
    obtain ⟨p, hpp⟩ : ∃ q, q = w.heap.size := ⟨_, rfl⟩
    rw [← hpp] at bA ⊢
    have HPP := Lib.hid hpp
    clear hpp hp1
    obtain ⟨c0, c1, c2, c3, c4, c5, c6⟩ := set7 bA
    obtain ⟨e0, e1, e2, e3, e4, e5, e6⟩ := set7 bB
    go_wp2_with fail
    refine (cA _ hb).mono ?_
    rintro q1 w1 ⟨rfl, hq1⟩
    replace bA := blk_later bA hq1
    replace bB := blk_later bB hq1
    replace hb := bt5 hb hq1
    clear hq1
    clear c0 c1 c2 c3 c4 c5 c6 e0 e1 e2 e3 e4 e5 e6
    obtain ⟨c0, c1, c2, c3, c4, c5, c6⟩ := set7 bA
    obtain ⟨e0, e1, e2, e3, e4, e5, e6⟩ := set7 bB
    go_wp2_with fail
    refine (cSa _ hb).mono ?_
    rintro q2 w2 ⟨rfl, hq2⟩
    replace bA := blk_later bA hq2
    replace bB := blk_later bB hq2
    replace hb := bt5 hb hq2
    clear hq2
    clear c0 c1 c2 c3 c4 c5 c6 e0 e1 e2 e3 e4 e5 e6
    obtain ⟨c0, c1, c2, c3, c4, c5, c6⟩ := set7 bA
    obtain ⟨e0, e1, e2, e3, e4, e5, e6⟩ := set7 bB
    go_wp2_with fail
    refine (cA _ hb).mono ?_
    rintro e9 w9 ⟨rfl, hb9⟩
    have hB := bt5 hb hb9
    go_wp2_with fail
    go_ret
    exact ⟨rfl, by first | exact hB | (rw [HPP.out]; exact hB)⟩
  | true =>
  cases sb with
  | false =>
    clear cRa cRb cPa cPb HH hQ hR
    go_enter Tryz.func6, Tryz.ntmps6
    go_upto_region 1 with fail
    have bA : ((w.alloc (.cells #[.string a0, .string a1, .int .i64 st, .string a3, .int .i64 mi, fv, bv] 28)).alloc (.cells #[.string d0, .string d1, .int .i64 du, .string d3, .int .i64 dm, gv, hv] 28)).heap[w.heap.size]? = some (.cells #[.string a0, .string a1, .int .i64 st, .string a3, .int .i64 mi, fv, bv] 28 (0, 0)) := heap_alloc2_old w _ _
    have bB : ((w.alloc (.cells #[.string a0, .string a1, .int .i64 st, .string a3, .int .i64 mi, fv, bv] 28)).alloc (.cells #[.string d0, .string d1, .int .i64 du, .string d3, .int .i64 dm, gv, hv] 28)).heap[w.heap.size + 1]? = some (.cells #[.string d0, .string d1, .int .i64 du, .string d3, .int .i64 dm, gv, hv] 28 (0, 0)) := heap_alloc2_new w _ _
    have hb : Below w.heap.size w ((w.alloc (.cells #[.string a0, .string a1, .int .i64 st, .string a3, .int .i64 mi, fv, bv] 28)).alloc (.cells #[.string d0, .string d1, .int .i64 du, .string d3, .int .i64 dm, gv, hv] 28)) := ((Below.refl _ w).alloc (Nat.le_refl _) _).alloc (by simp) _
    generalize (w.alloc (.cells #[.string a0, .string a1, .int .i64 st, .string a3, .int .i64 mi, fv, bv] 28)).alloc (.cells #[.string d0, .string d1, .int .i64 du, .string d3, .int .i64 dm, gv, hv] 28) = W0 at *
    obtain ⟨p1, hp1⟩ : ∃ q, q = w.heap.size + 1 := ⟨_, rfl⟩
    rw [← hp1] at bB ⊢
    obtain ⟨p, hpp⟩ : ∃ q, q = w.heap.size := ⟨_, rfl⟩
    rw [← hpp] at bA ⊢
    have HPP := Lib.hid hpp
    clear hpp hp1
    obtain ⟨c0, c1, c2, c3, c4, c5, c6⟩ := set7 bA
    obtain ⟨e0, e1, e2, e3, e4, e5, e6⟩ := set7 bB
    go_wp2_with fail
    refine (cA _ hb).mono ?_
    rintro q1 w1 ⟨rfl, hq1⟩
    replace bA := blk_later bA hq1
    replace bB := blk_later bB hq1
    replace hb := bt5 hb hq1
    clear hq1
    clear c0 c1 c2 c3 c4 c5 c6 e0 e1 e2 e3 e4 e5 e6
    obtain ⟨c0, c1, c2, c3, c4, c5, c6⟩ := set7 bA
    obtain ⟨e0, e1, e2, e3, e4, e5, e6⟩ := set7 bB
    go_wp2_with fail
    refine (cSa _ hb).mono ?_
    rintro q2 w2 ⟨rfl, hq2⟩
    replace bA := blk_later bA hq2
    replace bB := blk_later bB hq2
    replace hb := bt5 hb hq2
    clear hq2
    clear c0 c1 c2 c3 c4 c5 c6 e0 e1 e2 e3 e4 e5 e6
    obtain ⟨c0, c1, c2, c3, c4, c5, c6⟩ := set7 bA
    obtain ⟨e0, e1, e2, e3, e4, e5, e6⟩ := set7 bB
    go_wp2_with fail
    refine (cSb _ hb).mono ?_
    rintro q3 w3 ⟨rfl, hq3⟩
    replace bA := blk_later bA hq3
    replace bB := blk_later bB hq3
    replace hb := bt5 hb hq3
    clear hq3
    clear c0 c1 c2 c3 c4 c5 c6 e0 e1 e2 e3 e4 e5 e6
    obtain ⟨c0, c1, c2, c3, c4, c5, c6⟩ := set7 bA
    obtain ⟨e0, e1, e2, e3, e4, e5, e6⟩ := set7 bB
    go_wp2_with fail
    refine (cA _ hb).mono ?_
    rintro e9 w9 ⟨rfl, hb9⟩
    have hB := bt5 hb hb9
    go_wp2_with fail
    go_ret
    exact ⟨rfl, by first | exact hB | (rw [HPP.out]; exact hB)⟩
  | true =>
  by_cases hqr : Q = R
  case neg =>
    clear cRa cRb cPa cPb HH
    cases Q with
    | false =>
      cases R with
      | false => exact absurd rfl hqr
      | true =>
        clear hqr
        go_enter Tryz.func6, Tryz.ntmps6
        go_upto_region 1 with fail
        have bA : ((w.alloc (.cells #[.string a0, .string a1, .int .i64 st, .string a3, .int .i64 mi, fv, bv] 28)).alloc (.cells #[.string d0, .string d1, .int .i64 du, .string d3, .int .i64 dm, gv, hv] 28)).heap[w.heap.size]? = some (.cells #[.string a0, .string a1, .int .i64 st, .string a3, .int .i64 mi, fv, bv] 28 (0, 0)) := heap_alloc2_old w _ _
        have bB : ((w.alloc (.cells #[.string a0, .string a1, .int .i64 st, .string a3, .int .i64 mi, fv, bv] 28)).alloc (.cells #[.string d0, .string d1, .int .i64 du, .string d3, .int .i64 dm, gv, hv] 28)).heap[w.heap.size + 1]? = some (.cells #[.string d0, .string d1, .int .i64 du, .string d3, .int .i64 dm, gv, hv] 28 (0, 0)) := heap_alloc2_new w _ _
        have hb : Below w.heap.size w ((w.alloc (.cells #[.string a0, .string a1, .int .i64 st, .string a3, .int .i64 mi, fv, bv] 28)).alloc (.cells #[.string d0, .string d1, .int .i64 du, .string d3, .int .i64 dm, gv, hv] 28)) := ((Below.refl _ w).alloc (Nat.le_refl _) _).alloc (by simp) _
        generalize (w.alloc (.cells #[.string a0, .string a1, .int .i64 st, .string a3, .int .i64 mi, fv, bv] 28)).alloc (.cells #[.string d0, .string d1, .int .i64 du, .string d3, .int .i64 dm, gv, hv] 28) = W0 at *
        obtain ⟨p1, hp1⟩ : ∃ q, q = w.heap.size + 1 := ⟨_, rfl⟩
        rw [← hp1] at bB ⊢
        obtain ⟨p, hpp⟩ : ∃ q, q = w.heap.size := ⟨_, rfl⟩
        rw [← hpp] at bA ⊢
        have HPP := Lib.hid hpp
        clear hpp hp1
        obtain ⟨c0, c1, c2, c3, c4, c5, c6⟩ := set7 bA
        obtain ⟨e0, e1, e2, e3, e4, e5, e6⟩ := set7 bB
        go_wp2_with fail
        refine (cA _ hb).mono ?_
        rintro q1 w1 ⟨rfl, hq1⟩
        replace bA := blk_later bA hq1
        replace bB := blk_later bB hq1
        replace hb := bt5 hb hq1
        clear hq1
        clear c0 c1 c2 c3 c4 c5 c6 e0 e1 e2 e3 e4 e5 e6
        obtain ⟨c0, c1, c2, c3, c4, c5, c6⟩ := set7 bA
        obtain ⟨e0, e1, e2, e3, e4, e5, e6⟩ := set7 bB
        go_wp2_with fail
        refine (cSa _ hb).mono ?_
        rintro q2 w2 ⟨rfl, hq2⟩
        replace bA := blk_later bA hq2
        replace bB := blk_later bB hq2
        replace hb := bt5 hb hq2
        clear hq2
        clear c0 c1 c2 c3 c4 c5 c6 e0 e1 e2 e3 e4 e5 e6
        obtain ⟨c0, c1, c2, c3, c4, c5, c6⟩ := set7 bA
        obtain ⟨e0, e1, e2, e3, e4, e5, e6⟩ := set7 bB
        go_wp2_with fail
        refine (cSb _ hb).mono ?_
        rintro q3 w3 ⟨rfl, hq3⟩
        replace bA := blk_later bA hq3
        replace bB := blk_later bB hq3
        replace hb := bt5 hb hq3
        clear hq3
        clear c0 c1 c2 c3 c4 c5 c6 e0 e1 e2 e3 e4 e5 e6
        obtain ⟨c0, c1, c2, c3, c4, c5, c6⟩ := set7 bA
        obtain ⟨e0, e1, e2, e3, e4, e5, e6⟩ := set7 bB
        go_wp2_with fail
        refine (cA _ hb).mono ?_
        rintro e9 w9 ⟨rfl, hb9⟩
        have hB := bt5 hb hb9
        go_wp2_with fail
        go_ret
        exact ⟨rfl, by first | exact hB | (rw [HPP.out]; exact hB)⟩
    | true =>
      cases R with
      | true => exact absurd rfl hqr
      | false =>
        clear hqr
        go_enter Tryz.func6, Tryz.ntmps6
        go_upto_region 1 with fail
        have bA : ((w.alloc (.cells #[.string a0, .string a1, .int .i64 st, .string a3, .int .i64 mi, fv, bv] 28)).alloc (.cells #[.string d0, .string d1, .int .i64 du, .string d3, .int .i64 dm, gv, hv] 28)).heap[w.heap.size]? = some (.cells #[.string a0, .string a1, .int .i64 st, .string a3, .int .i64 mi, fv, bv] 28 (0, 0)) := heap_alloc2_old w _ _
        have bB : ((w.alloc (.cells #[.string a0, .string a1, .int .i64 st, .string a3, .int .i64 mi, fv, bv] 28)).alloc (.cells #[.string d0, .string d1, .int .i64 du, .string d3, .int .i64 dm, gv, hv] 28)).heap[w.heap.size + 1]? = some (.cells #[.string d0, .string d1, .int .i64 du, .string d3, .int .i64 dm, gv, hv] 28 (0, 0)) := heap_alloc2_new w _ _
        have hb : Below w.heap.size w ((w.alloc (.cells #[.string a0, .string a1, .int .i64 st, .string a3, .int .i64 mi, fv, bv] 28)).alloc (.cells #[.string d0, .string d1, .int .i64 du, .string d3, .int .i64 dm, gv, hv] 28)) := ((Below.refl _ w).alloc (Nat.le_refl _) _).alloc (by simp) _
        generalize (w.alloc (.cells #[.string a0, .string a1, .int .i64 st, .string a3, .int .i64 mi, fv, bv] 28)).alloc (.cells #[.string d0, .string d1, .int .i64 du, .string d3, .int .i64 dm, gv, hv] 28) = W0 at *
        obtain ⟨p1, hp1⟩ : ∃ q, q = w.heap.size + 1 := ⟨_, rfl⟩
        rw [← hp1] at bB ⊢
        obtain ⟨p, hpp⟩ : ∃ q, q = w.heap.size := ⟨_, rfl⟩
        rw [← hpp] at bA ⊢
        have HPP := Lib.hid hpp
        clear hpp hp1
        obtain ⟨c0, c1, c2, c3, c4, c5, c6⟩ := set7 bA
        obtain ⟨e0, e1, e2, e3, e4, e5, e6⟩ := set7 bB
        go_wp2_with fail
        refine (cA _ hb).mono ?_
        rintro q1 w1 ⟨rfl, hq1⟩
        replace bA := blk_later bA hq1
        replace bB := blk_later bB hq1
        replace hb := bt5 hb hq1
        clear hq1
        clear c0 c1 c2 c3 c4 c5 c6 e0 e1 e2 e3 e4 e5 e6
        obtain ⟨c0, c1, c2, c3, c4, c5, c6⟩ := set7 bA
        obtain ⟨e0, e1, e2, e3, e4, e5, e6⟩ := set7 bB
        go_wp2_with fail
        refine (cSa _ hb).mono ?_
        rintro q2 w2 ⟨rfl, hq2⟩
        replace bA := blk_later bA hq2
        replace bB := blk_later bB hq2
        replace hb := bt5 hb hq2
        clear hq2
        clear c0 c1 c2 c3 c4 c5 c6 e0 e1 e2 e3 e4 e5 e6
        obtain ⟨c0, c1, c2, c3, c4, c5, c6⟩ := set7 bA
        obtain ⟨e0, e1, e2, e3, e4, e5, e6⟩ := set7 bB
        go_wp2_with fail
        refine (cSb _ hb).mono ?_
        rintro q3 w3 ⟨rfl, hq3⟩
        replace bA := blk_later bA hq3
        replace bB := blk_later bB hq3
        replace hb := bt5 hb hq3
        clear hq3
        clear c0 c1 c2 c3 c4 c5 c6 e0 e1 e2 e3 e4 e5 e6
        obtain ⟨c0, c1, c2, c3, c4, c5, c6⟩ := set7 bA
        obtain ⟨e0, e1, e2, e3, e4, e5, e6⟩ := set7 bB
        go_wp2_with fail
        refine (cA _ hb).mono ?_
        rintro e9 w9 ⟨rfl, hb9⟩
        have hB := bt5 hb hb9
        go_wp2_with fail
        go_ret
        exact ⟨rfl, by first | exact hB | (rw [HPP.out]; exact hB)⟩
  case pos =>
  subst hqr
  replace cRa := cRa rfl
  replace cRb := cRb rfl
  cases ra with
  | false =>
    clear cRb cPa cPb HH
    go_enter Tryz.func6, Tryz.ntmps6
    go_upto_region 1 with fail
    have bA : ((w.alloc (.cells #[.string a0, .string a1, .int .i64 st, .string a3, .int .i64 mi, fv, bv] 28)).alloc (.cells #[.string d0, .string d1, .int .i64 du, .string d3, .int .i64 dm, gv, hv] 28)).heap[w.heap.size]? = some (.cells #[.string a0, .string a1, .int .i64 st, .string a3, .int .i64 mi, fv, bv] 28 (0, 0)) := heap_alloc2_old w _ _
    have bB : ((w.alloc (.cells #[.string a0, .string a1, .int .i64 st, .string a3, .int .i64 mi, fv, bv] 28)).alloc (.cells #[.string d0, .string d1, .int .i64 du, .string d3, .int .i64 dm, gv, hv] 28)).heap[w.heap.size + 1]? = some (.cells #[.string d0, .string d1, .int .i64 du, .string d3, .int .i64 dm, gv, hv] 28 (0, 0)) := heap_alloc2_new w _ _
    have hb : Below w.heap.size w ((w.alloc (.cells #[.string a0, .string a1, .int .i64 st, .string a3, .int .i64 mi, fv, bv] 28)).alloc (.cells #[.string d0, .string d1, .int .i64 du, .string d3, .int .i64 dm, gv, hv] 28)) := ((Below.refl _ w).alloc (Nat.le_refl _) _).alloc (by simp) _
    generalize (w.alloc (.cells #[.string a0, .string a1, .int .i64 st, .string a3, .int .i64 mi, fv, bv] 28)).alloc (.cells #[.string d0, .string d1, .int .i64 du, .string d3, .int .i64 dm, gv, hv] 28) = W0 at *
    obtain ⟨p1, hp1⟩ : ∃ q, q = w.heap.size + 1 := ⟨_, rfl⟩
    rw [← hp1] at bB ⊢
    obtain ⟨p, hpp⟩ : ∃ q, q = w.heap.size := ⟨_, rfl⟩
    rw [← hpp] at bA ⊢
    have HPP := Lib.hid hpp
    clear hpp hp1
    obtain ⟨c0, c1, c2, c3, c4, c5, c6⟩ := set7 bA
    obtain ⟨e0, e1, e2, e3, e4, e5, e6⟩ := set7 bB
    go_wp2_with fail
    refine (cA _ hb).mono ?_
    rintro q1 w1 ⟨rfl, hq1⟩
    replace bA := blk_later bA hq1
    replace bB := blk_later bB hq1
    replace hb := bt5 hb hq1
    clear hq1
    clear c0 c1 c2 c3 c4 c5 c6 e0 e1 e2 e3 e4 e5 e6
    obtain ⟨c0, c1, c2, c3, c4, c5, c6⟩ := set7 bA
    obtain ⟨e0, e1, e2, e3, e4, e5, e6⟩ := set7 bB
    go_wp2_with fail
    refine (cSa _ hb).mono ?_
    rintro q2 w2 ⟨rfl, hq2⟩
    replace bA := blk_later bA hq2
    replace bB := blk_later bB hq2
    replace hb := bt5 hb hq2
    clear hq2
    clear c0 c1 c2 c3 c4 c5 c6 e0 e1 e2 e3 e4 e5 e6
    obtain ⟨c0, c1, c2, c3, c4, c5, c6⟩ := set7 bA
    obtain ⟨e0, e1, e2, e3, e4, e5, e6⟩ := set7 bB
    go_wp2_with fail
    refine (cSb _ hb).mono ?_
    rintro q3 w3 ⟨rfl, hq3⟩
    replace bA := blk_later bA hq3
    replace bB := blk_later bB hq3
    replace hb := bt5 hb hq3
    clear hq3
    clear c0 c1 c2 c3 c4 c5 c6 e0 e1 e2 e3 e4 e5 e6
    obtain ⟨c0, c1, c2, c3, c4, c5, c6⟩ := set7 bA
    obtain ⟨e0, e1, e2, e3, e4, e5, e6⟩ := set7 bB
    go_wp2_with fail
    refine (cRa _ hb).mono ?_
    rintro q4 w4 ⟨rfl, hq4⟩
    replace bA := blk_later bA hq4
    replace bB := blk_later bB hq4
    replace hb := bt5 hb hq4
    clear hq4
    clear c0 c1 c2 c3 c4 c5 c6 e0 e1 e2 e3 e4 e5 e6
    obtain ⟨c0, c1, c2, c3, c4, c5, c6⟩ := set7 bA
    obtain ⟨e0, e1, e2, e3, e4, e5, e6⟩ := set7 bB
    go_wp2_with fail
    refine (cA _ hb).mono ?_
    rintro e9 w9 ⟨rfl, hb9⟩
    have hB := bt5 hb hb9
    go_wp2_with fail
    go_ret
    exact ⟨rfl, by first | exact hB | (rw [HPP.out]; exact hB)⟩
  | true =>
  cases rb with
  | false =>
    clear cPa cPb HH
    go_enter Tryz.func6, Tryz.ntmps6
    go_upto_region 1 with fail
    have bA : ((w.alloc (.cells #[.string a0, .string a1, .int .i64 st, .string a3, .int .i64 mi, fv, bv] 28)).alloc (.cells #[.string d0, .string d1, .int .i64 du, .string d3, .int .i64 dm, gv, hv] 28)).heap[w.heap.size]? = some (.cells #[.string a0, .string a1, .int .i64 st, .string a3, .int .i64 mi, fv, bv] 28 (0, 0)) := heap_alloc2_old w _ _
    have bB : ((w.alloc (.cells #[.string a0, .string a1, .int .i64 st, .string a3, .int .i64 mi, fv, bv] 28)).alloc (.cells #[.string d0, .string d1, .int .i64 du, .string d3, .int .i64 dm, gv, hv] 28)).heap[w.heap.size + 1]? = some (.cells #[.string d0, .string d1, .int .i64 du, .string d3, .int .i64 dm, gv, hv] 28 (0, 0)) := heap_alloc2_new w _ _
    have hb : Below w.heap.size w ((w.alloc (.cells #[.string a0, .string a1, .int .i64 st, .string a3, .int .i64 mi, fv, bv] 28)).alloc (.cells #[.string d0, .string d1, .int .i64 du, .string d3, .int .i64 dm, gv, hv] 28)) := ((Below.refl _ w).alloc (Nat.le_refl _) _).alloc (by simp) _
    generalize (w.alloc (.cells #[.string a0, .string a1, .int .i64 st, .string a3, .int .i64 mi, fv, bv] 28)).alloc (.cells #[.string d0, .string d1, .int .i64 du, .string d3, .int .i64 dm, gv, hv] 28) = W0 at *
    obtain ⟨p1, hp1⟩ : ∃ q, q = w.heap.size + 1 := ⟨_, rfl⟩
    rw [← hp1] at bB ⊢
    obtain ⟨p, hpp⟩ : ∃ q, q = w.heap.size := ⟨_, rfl⟩
    rw [← hpp] at bA ⊢
    have HPP := Lib.hid hpp
    clear hpp hp1
    obtain ⟨c0, c1, c2, c3, c4, c5, c6⟩ := set7 bA
    obtain ⟨e0, e1, e2, e3, e4, e5, e6⟩ := set7 bB
    go_wp2_with fail
    refine (cA _ hb).mono ?_
    rintro q1 w1 ⟨rfl, hq1⟩
    replace bA := blk_later bA hq1
    replace bB := blk_later bB hq1
    replace hb := bt5 hb hq1
    clear hq1
    clear c0 c1 c2 c3 c4 c5 c6 e0 e1 e2 e3 e4 e5 e6
    obtain ⟨c0, c1, c2, c3, c4, c5, c6⟩ := set7 bA
    obtain ⟨e0, e1, e2, e3, e4, e5, e6⟩ := set7 bB
    go_wp2_with fail
    refine (cSa _ hb).mono ?_
    rintro q2 w2 ⟨rfl, hq2⟩
    replace bA := blk_later bA hq2
    replace bB := blk_later bB hq2
    replace hb := bt5 hb hq2
    clear hq2
    clear c0 c1 c2 c3 c4 c5 c6 e0 e1 e2 e3 e4 e5 e6
    obtain ⟨c0, c1, c2, c3, c4, c5, c6⟩ := set7 bA
    obtain ⟨e0, e1, e2, e3, e4, e5, e6⟩ := set7 bB
    go_wp2_with fail
    refine (cSb _ hb).mono ?_
    rintro q3 w3 ⟨rfl, hq3⟩
    replace bA := blk_later bA hq3
    replace bB := blk_later bB hq3
    replace hb := bt5 hb hq3
    clear hq3
    clear c0 c1 c2 c3 c4 c5 c6 e0 e1 e2 e3 e4 e5 e6
    obtain ⟨c0, c1, c2, c3, c4, c5, c6⟩ := set7 bA
    obtain ⟨e0, e1, e2, e3, e4, e5, e6⟩ := set7 bB
    go_wp2_with fail
    refine (cRa _ hb).mono ?_
    rintro q4 w4 ⟨rfl, hq4⟩
    replace bA := blk_later bA hq4
    replace bB := blk_later bB hq4
    replace hb := bt5 hb hq4
    clear hq4
    clear c0 c1 c2 c3 c4 c5 c6 e0 e1 e2 e3 e4 e5 e6
    obtain ⟨c0, c1, c2, c3, c4, c5, c6⟩ := set7 bA
    obtain ⟨e0, e1, e2, e3, e4, e5, e6⟩ := set7 bB
    go_wp2_with fail
    refine (cRb _ hb).mono ?_
    rintro q5 w5 ⟨rfl, hq5⟩
    replace bA := blk_later bA hq5
    replace bB := blk_later bB hq5
    replace hb := bt5 hb hq5
    clear hq5
    clear c0 c1 c2 c3 c4 c5 c6 e0 e1 e2 e3 e4 e5 e6
    obtain ⟨c0, c1, c2, c3, c4, c5, c6⟩ := set7 bA
    obtain ⟨e0, e1, e2, e3, e4, e5, e6⟩ := set7 bB
    go_wp2_with fail
    refine (cA _ hb).mono ?_
    rintro e9 w9 ⟨rfl, hb9⟩
    have hB := bt5 hb hb9
    go_wp2_with fail
    go_ret
    exact ⟨rfl, by first | exact hB | (rw [HPP.out]; exact hB)⟩
  | true =>
  obtain ⟨za, ya, zb, yb, cP1, cP2, cE1, cE2⟩ := HH rfl rfl rfl rfl rfl
  replace cPa := cPa rfl rfl
  replace cPb := cPb rfl rfl
  obtain ⟨T, hT⟩ : ∃ T, PA ++ PB = T := ⟨_, rfl⟩
  have hTs : T.size = NA + NB := by rw [← hT]; simp [za, zb]
  have hTd : T.data.toList = PA.data.toList ++ PB.data.toList := by rw [← hT]; simp
  have hTx : T.extract NA T.size = PB := by
    rw [← str_of (T.extract NA T.size), ← str_of PB]
    congr 1
    have hn : PA.data.toList.length = NA := by rw [Oct.length_size, za]
    have hm : PB.data.toList.length = NB := by rw [Oct.length_size, zb]
    rw [ByteArray.data_extract, Array.toList_extract, List.extract_eq_take_drop, hTd, hTs, ← hn, List.drop_left, List.take_of_length_le (by omega)]
  have hsum : ¬ 9223372036854775807 < PA.size + PB.size := by omega
  have hsum2 : ¬ 9223372036854775807 < NA + NB := by omega
  have qa : (PA.size : Int) ≤ 200000 := by omega
  have qb : (PB.size : Int) ≤ 200000 := by omega
  have hgt : ¬ (T.size : Int) < (NA : Int) := by omega
  have hle : (NA : Int) ≤ (T.size : Int) := by omega
  have hadd : IntKind.i64.wrap ((NA : Int) + (NB : Int)) = (NA : Int) + (NB : Int) := by rw [IntKind.wrap_i64]; omega
  have heq : ((NA : Int) + (NB : Int) == (T.size : Int)) = true := by simp [hTs]
  have hbig : (T.size : Int) ≤ 400000 := by omega
  obtain ⟨N, hN⟩ : ∃ N, T.size = N := ⟨_, rfl⟩
  have HO := Lib.hid (fun W => tx_run T _ hTd N hN W (by omega))
  have HO2 := Lib.hid (fun W => tx_run PB _ rfl NB zb W (by omega))
  rw [hN] at hTx hgt hle heq hbig
  have HTS := Lib.hid hN
  generalize PA.data.toList ++ PB.data.toList = lab at *
  generalize PB.data.toList = lb at *
  clear hTs hTd za ya zb yb hN
  go_enter Tryz.func6, Tryz.ntmps6
  go_upto_region 1 with fail
  have bA : ((w.alloc (.cells #[.string a0, .string a1, .int .i64 st, .string a3, .int .i64 mi, fv, bv] 28)).alloc (.cells #[.string d0, .string d1, .int .i64 du, .string d3, .int .i64 dm, gv, hv] 28)).heap[w.heap.size]? = some (.cells #[.string a0, .string a1, .int .i64 st, .string a3, .int .i64 mi, fv, bv] 28 (0, 0)) := heap_alloc2_old w _ _
  have bB : ((w.alloc (.cells #[.string a0, .string a1, .int .i64 st, .string a3, .int .i64 mi, fv, bv] 28)).alloc (.cells #[.string d0, .string d1, .int .i64 du, .string d3, .int .i64 dm, gv, hv] 28)).heap[w.heap.size + 1]? = some (.cells #[.string d0, .string d1, .int .i64 du, .string d3, .int .i64 dm, gv, hv] 28 (0, 0)) := heap_alloc2_new w _ _
  have hb : Below w.heap.size w ((w.alloc (.cells #[.string a0, .string a1, .int .i64 st, .string a3, .int .i64 mi, fv, bv] 28)).alloc (.cells #[.string d0, .string d1, .int .i64 du, .string d3, .int .i64 dm, gv, hv] 28)) := ((Below.refl _ w).alloc (Nat.le_refl _) _).alloc (by simp) _
  generalize (w.alloc (.cells #[.string a0, .string a1, .int .i64 st, .string a3, .int .i64 mi, fv, bv] 28)).alloc (.cells #[.string d0, .string d1, .int .i64 du, .string d3, .int .i64 dm, gv, hv] 28) = W0 at *
  obtain ⟨p1, hp1⟩ : ∃ q, q = w.heap.size + 1 := ⟨_, rfl⟩
  rw [← hp1] at bB ⊢
  obtain ⟨p, hpp⟩ : ∃ q, q = w.heap.size := ⟨_, rfl⟩
  rw [← hpp] at bA ⊢
  have HPP := Lib.hid hpp
  clear hpp hp1
  obtain ⟨c0, c1, c2, c3, c4, c5, c6⟩ := set7 bA
  obtain ⟨e0, e1, e2, e3, e4, e5, e6⟩ := set7 bB
  go_wp2_with fail
  refine (cA _ hb).mono ?_
  rintro q1 w1 ⟨rfl, hq1⟩
  replace bA := blk_later bA hq1
  replace bB := blk_later bB hq1
  replace hb := bt5 hb hq1
  clear hq1
  clear c0 c1 c2 c3 c4 c5 c6 e0 e1 e2 e3 e4 e5 e6
  obtain ⟨c0, c1, c2, c3, c4, c5, c6⟩ := set7 bA
  obtain ⟨e0, e1, e2, e3, e4, e5, e6⟩ := set7 bB
  go_wp2_with fail
  refine (cSa _ hb).mono ?_
  rintro q2 w2 ⟨rfl, hq2⟩
  replace bA := blk_later bA hq2
  replace bB := blk_later bB hq2
  replace hb := bt5 hb hq2
  clear hq2
  clear c0 c1 c2 c3 c4 c5 c6 e0 e1 e2 e3 e4 e5 e6
  obtain ⟨c0, c1, c2, c3, c4, c5, c6⟩ := set7 bA
  obtain ⟨e0, e1, e2, e3, e4, e5, e6⟩ := set7 bB
  go_wp2_with fail
  refine (cSb _ hb).mono ?_
  rintro q3 w3 ⟨rfl, hq3⟩
  replace bA := blk_later bA hq3
  replace bB := blk_later bB hq3
  replace hb := bt5 hb hq3
  clear hq3
  clear c0 c1 c2 c3 c4 c5 c6 e0 e1 e2 e3 e4 e5 e6
  obtain ⟨c0, c1, c2, c3, c4, c5, c6⟩ := set7 bA
  obtain ⟨e0, e1, e2, e3, e4, e5, e6⟩ := set7 bB
  go_wp2_with fail
  refine (cRa _ hb).mono ?_
  rintro q4 w4 ⟨rfl, hq4⟩
  replace bA := blk_later bA hq4
  replace bB := blk_later bB hq4
  replace hb := bt5 hb hq4
  clear hq4
  clear c0 c1 c2 c3 c4 c5 c6 e0 e1 e2 e3 e4 e5 e6
  obtain ⟨c0, c1, c2, c3, c4, c5, c6⟩ := set7 bA
  obtain ⟨e0, e1, e2, e3, e4, e5, e6⟩ := set7 bB
  go_wp2_with fail
  refine (cRb _ hb).mono ?_
  rintro q5 w5 ⟨rfl, hq5⟩
  replace bA := blk_later bA hq5
  replace bB := blk_later bB hq5
  replace hb := bt5 hb hq5
  clear hq5
  clear c0 c1 c2 c3 c4 c5 c6 e0 e1 e2 e3 e4 e5 e6
  obtain ⟨c0, c1, c2, c3, c4, c5, c6⟩ := set7 bA
  obtain ⟨e0, e1, e2, e3, e4, e5, e6⟩ := set7 bB
  clear cRa cRb cSa cSb cA
  go_upto_region 3 with fail
  have m0 := fun pp : LateOf w5 => pp.cell c0
  have m1 := fun pp : LateOf w5 => pp.cell c1
  have m2 := fun pp : LateOf w5 => pp.cell c2
  have m3 := fun pp : LateOf w5 => pp.cell c3
  have m4 := fun pp : LateOf w5 => pp.cell c4
  have m5 := fun pp : LateOf w5 => pp.cell c5
  have m6 := fun pp : LateOf w5 => pp.cell c6
  have n0 := fun pp : LateOf w5 => pp.cell e0
  have n1 := fun pp : LateOf w5 => pp.cell e1
  have n2 := fun pp : LateOf w5 => pp.cell e2
  have n3 := fun pp : LateOf w5 => pp.cell e3
  have n4 := fun pp : LateOf w5 => pp.cell e4
  have n5 := fun pp : LateOf w5 => pp.cell e5
  have n6 := fun pp : LateOf w5 => pp.cell e6
  have l1 := fun pp : LateOf w5 => cPa pp.w (bt5 hb pp.h)
  have l2 := fun pp : LateOf w5 => cPb pp.w (bt5 hb pp.h)
  have HBA := Lib.hid bA
  have HBB := Lib.hid bB
  have HB := Lib.hid hb
  have HQ := Lib.hid hQ
  clear c0 c1 c2 c3 c4 c5 c6 e0 e1 e2 e3 e4 e5 e6
  clear bA bB hb cPa cPb hQ hR
  refine wp_region_late (by kernel_rfl) (by kernel_rfl) ?_
  repeat (quiet_step (fail))
  quiet_step ((go_at_call 19; exact late _ (l1 _)))
  repeat (quiet_step (fail))
  quiet_step ((go_at_call 19; exact late _ (l2 _)))
  repeat (quiet_step (fail))
  refine wpQuiet_nil ?_
  intro w6 hw6
  have hb6 : Below w5.heap.size w5 w6 := by obtain ⟨pp, rfl⟩ := hw6; exact pp.h
  have bA := blk_later HBA.out hb6
  have bB := blk_later HBB.out hb6
  have hb := bt5 HB.out hb6
  have hQ := HQ.out
  clear hw6 m0 m1 m2 m3 m4 m5 m6 n0 n1 n2 n3 n4 n5 n6 l1 l2 HBA HBB HB HQ hb6 hsum hsum2 hT
  obtain ⟨cc, w7, hcv, hI, hb7⟩ := HO.out w6
  have bA7 := blk_later bA hb7
  obtain ⟨_, _, c2, _, _, _, _⟩ := set7 bA7
  replace bB := blk_later bB hb7
  replace hb := bt5 hb hb7
  have cP := cP1 _ w7 hI (nil_ok _ _ _) hb
  have HSz := HTS.out
  clear bA hI cP1 HO hb7
  go_wp2_with fail
  refine cP.mono ?_
  rintro e7 w8 ⟨⟨fa6, fc6, ba6, bc6, rfl, hf6, hx6, hn6, _⟩, hb8⟩
  have bA := blk_later bA7 hb8
  replace bB := blk_later bB hb8
  replace hb := bt5 hb hb8
  clear bA7 c2 hb8 cP hcv
  go_upto_region 5 with fail
  have y9 : (w8.alloc (.cells #[.string a0, .string a1, .int .i64 st, .string a3, .int .i64 mi, .slice fa6 n fc6, .slice ba6 X bc6] 28)).heap[w8.heap.size]? = some (.cells #[.string a0, .string a1, .int .i64 st, .string a3, .int .i64 mi, .slice fa6 n fc6, .slice ba6 X bc6] 28 (0, 0)) := heap_alloc_new w8 _
  have hb9 : Below w8.heap.size w8 (w8.alloc (.cells #[.string a0, .string a1, .int .i64 st, .string a3, .int .i64 mi, .slice fa6 n fc6, .slice ba6 X bc6] 28)) := (Below.refl _ w8).alloc (Nat.le_refl _) _
  generalize w8.alloc (.cells #[.string a0, .string a1, .int .i64 st, .string a3, .int .i64 mi, .slice fa6 n fc6, .slice ba6 X bc6] 28) = w9 at *
  generalize w8.heap.size = g9 at y9 ⊢
  replace bA := blk_later bA hb9
  replace bB := blk_later bB hb9
  replace hf6 := hf6.later hb9
  replace hx6 := hx6.later hb9
  replace hb := bt5 hb hb9
  have cE := cE1 fa6 fc6 ba6 bc6 w9 hf6 hx6 hn6 hb
  clear hb9 hf6 hx6 hn6 cE1
  obtain ⟨c0, c1, c2, c3, c4, c5, c6⟩ := set7 bA
  obtain ⟨k0, k1, k2, k3, k4, k5, k6⟩ := set7 y9
  clear y9
  go_wp2_with fail
  refine cE.mono ?_
  rintro e10 w10 ⟨rfl, hb10⟩
  replace bA := blk_later bA hb10
  replace bB := blk_later bB hb10
  replace hb := bt5 hb hb10
  clear hb10 cE c0 c1 c2 c3 c4 c5 c6 k0 k1 k2 k3 k4 k5 k6
  go_upto_region 7 with fail
  go_cut [11, 12, 13] (fun x11 x12 x13 wx => ∃ g fa7 fc7 ba7 bc7, x11 = .pointer (some ⟨g, 0, none⟩) ∧ x12 = .int .i64 NB ∧ x13 = .int .i64 0 ∧ wx.heap[g]? = some (.cells #[.string d0, .string d1, .int .i64 du, .string d3, .int .i64 dm, .slice fa7 k fc7, .slice ba7 Y bc7] 28 (0, 0)) ∧ FIn wx (.slice fa7 k fc7) gs ∧ BIn wx (.slice ba7 Y bc7) y ∧ NilOk (.slice ba7 Y bc7) ∧ Below w.heap.size w wx ∧ wx.heap[p1]? = some (.cells #[.string d0, .string d1, .int .i64 du, .string d3, .int .i64 dm, gv, hv] 28 (0, 0)))
  case first =>
    obtain ⟨_, _, c2, _, _, _, _⟩ := set7 bA
    have HSz := HTS.out
    have HB := Lib.hid hb
    have HBB := Lib.hid bB
    obtain ⟨ca, wa, hcva, hIa, hba⟩ := HO2.out w10.drew
    have hba0 : Below w10.heap.size w10 wa := (Below.refl _ w10).drew.trans hba
    have c2a : wa.cell? ⟨p, 2, none⟩ = some (.int .i64 st) := (LateOf.mk wa hba0).cell c2
    have HIA : Hid (BIn wa (.slice (some ⟨w10.heap.size, 0, none⟩) NB ca) lb) := Lib.hid hIa
    have HBa := Lib.hid hba0
    obtain ⟨cb, wb, hcvb, hIb, hbb⟩ := HO2.out (w10.alloc (.cells #[.string ⟨#[]⟩, .string ⟨#[]⟩, .int .i64 0, .string ⟨#[]⟩, .int .i64 0, .slice none 0 0, .slice none 0 0] 28)).drew
    have hsz : (w10.alloc (.cells #[.string ⟨#[]⟩, .string ⟨#[]⟩, .int .i64 0, .string ⟨#[]⟩, .int .i64 0, .slice none 0 0, .slice none 0 0] 28)).drew.heap.size = w10.heap.size + 1 := by simp
    have hbz : Below w10.heap.size w10 (w10.alloc (.cells #[.string ⟨#[]⟩, .string ⟨#[]⟩, .int .i64 0, .string ⟨#[]⟩, .int .i64 0, .slice none 0 0, .slice none 0 0] 28)).drew := ((Below.refl _ w10).alloc (Nat.le_refl _) _).drew
    have c2d : (w10.alloc (.cells #[.string ⟨#[]⟩, .string ⟨#[]⟩, .int .i64 0, .string ⟨#[]⟩, .int .i64 0, .slice none 0 0, .slice none 0 0] 28)).cell? ⟨p, 2, none⟩ = some (.int .i64 st) := (LateOf.mk _ ((Below.refl _ w10).alloc (Nat.le_refl _) (.cells #[.string ⟨#[]⟩, .string ⟨#[]⟩, .int .i64 0, .string ⟨#[]⟩, .int .i64 0, .slice none 0 0, .slice none 0 0] 28))).cell c2
    have hbb0 : Below w10.heap.size w10 wb := hbz.trans (hbb.mono hbz.size)
    have c2b : wb.cell? ⟨p, 2, none⟩ = some (.int .i64 st) := (LateOf.mk wb hbb0).cell c2
    have hbac : Below w10.heap.size w10 (wa.alloc (.cells #[.string ⟨#[]⟩, .string ⟨#[]⟩, .int .i64 0, .string ⟨#[]⟩, .int .i64 0, .slice none 0 0, .slice none 0 0] 28)) := hba0.alloc hba0.size _
    have c2c : (wa.alloc (.cells #[.string ⟨#[]⟩, .string ⟨#[]⟩, .int .i64 0, .string ⟨#[]⟩, .int .i64 0, .slice none 0 0, .slice none 0 0] 28)).cell? ⟨p, 2, none⟩ = some (.int .i64 st) := (LateOf.mk _ hbac).cell c2
    have HZb : Hid (wb.heap[w10.heap.size]? = some (.cells #[.string ⟨#[]⟩, .string ⟨#[]⟩, .int .i64 0, .string ⟨#[]⟩, .int .i64 0, .slice none 0 0, .slice none 0 0] 28 (0, 0))) := Lib.hid (blk_later (W := (w10.alloc (.cells #[.string ⟨#[]⟩, .string ⟨#[]⟩, .int .i64 0, .string ⟨#[]⟩, .int .i64 0, .slice none 0 0, .slice none 0 0] 28)).drew) (heap_alloc_new w10 (.cells #[.string ⟨#[]⟩, .string ⟨#[]⟩, .int .i64 0, .string ⟨#[]⟩, .int .i64 0, .slice none 0 0, .slice none 0 0] 28)) hbb)
    have HLb : Hid (w10.heap.size < wb.heap.size) := Lib.hid (by have := hbb.size; omega)
    rw [hsz] at hIb hcvb
    have HIB : Hid (BIn wb (.slice (some ⟨w10.heap.size + 1, 0, none⟩) NB cb) lb) := Lib.hid hIb
    have HBb := Lib.hid hbb0
    have HBc := Lib.hid hbac
    have HIC : Hid (BIn (wa.alloc (.cells #[.string ⟨#[]⟩, .string ⟨#[]⟩, .int .i64 0, .string ⟨#[]⟩, .int .i64 0, .slice none 0 0, .slice none 0 0] 28)) (.slice (some ⟨w10.heap.size, 0, none⟩) NB ca) lb) := Lib.hid (hIa.later ((Below.refl _ wa).alloc (Nat.le_refl _) (.cells #[.string ⟨#[]⟩, .string ⟨#[]⟩, .int .i64 0, .string ⟨#[]⟩, .int .i64 0, .slice none 0 0, .slice none 0 0] 28)))
    have HZc : Hid ((wa.alloc (.cells #[.string ⟨#[]⟩, .string ⟨#[]⟩, .int .i64 0, .string ⟨#[]⟩, .int .i64 0, .slice none 0 0, .slice none 0 0] 28)).heap[wa.heap.size]? = some (.cells #[.string ⟨#[]⟩, .string ⟨#[]⟩, .int .i64 0, .string ⟨#[]⟩, .int .i64 0, .slice none 0 0, .slice none 0 0] 28 (0, 0))) := Lib.hid (heap_alloc_new wa (.cells #[.string ⟨#[]⟩, .string ⟨#[]⟩, .int .i64 0, .string ⟨#[]⟩, .int .i64 0, .slice none 0 0, .slice none 0 0] 28))
    have HP := Lib.hid cP2
    clear hba hbb hIa hIb hba0 hbz hbb0 hb bB bA cP2 HO2 cE2 hsz hbac
    go_region_with (go_at_call 10; first
      | ((with_reducible refine (HP.out _ _ HIA.out (nil_ok _ _ _) (bt5 HB.out HBa.out)).mono ?_); rintro e w11 ⟨⟨fa7, fc7, ba7, bc7, rfl, hf7, hx7, hn7, hw7⟩, hb11⟩; have HR := Lib.hid (⟨hf7, hx7, hn7, HBa.out.trans (hb11.mono HBa.out.size)⟩ : FIn w11 (.slice fa7 k fc7) gs ∧ BIn w11 (.slice ba7 Y bc7) y ∧ NilOk (.slice ba7 Y bc7) ∧ Below w10.heap.size w10 w11); clear hf7 hx7 hn7 hw7 hb11 c2c c2b hcvb)
      | ((with_reducible refine (HP.out _ _ HIC.out (nil_ok _ _ _) (bt5 HB.out HBc.out)).mono ?_); rintro e w11 ⟨⟨fa7, fc7, ba7, bc7, rfl, hf7, hx7, hn7, hw7⟩, hb11⟩; have hz := blk_later HZc.out hb11; obtain ⟨k0, k1, k2, k3, k4, k5, k6⟩ := set7 hz; have z0 := freeM hz 0; have z1 := freeM hz 1; have z2 := freeM hz 2; have z3 := freeM hz 3; have z4 := freeM hz 4; have z5 := freeM hz 5; have z6 := freeM hz 6; have HS := Lib.hid (⟨hf7, hx7, hn7, HBc.out.trans (hb11.mono HBc.out.size), hz, fun ad j c h => Nat.ne_of_gt (Nat.lt_of_lt_of_le (by simp) (hw7 ad j c h)), HBa.out.size⟩ : FIn w11 (.slice fa7 k fc7) gs ∧ BIn w11 (.slice ba7 Y bc7) y ∧ NilOk (.slice ba7 Y bc7) ∧ Below w10.heap.size w10 w11 ∧ w11.heap[wa.heap.size]? = some (.cells #[.string ⟨#[]⟩, .string ⟨#[]⟩, .int .i64 0, .string ⟨#[]⟩, .int .i64 0, .slice none 0 0, .slice none 0 0] 28 (0, 0)) ∧ (∀ ad j c, (Value.slice fa7 k fc7) = .slice (some ad) j c → ad.block ≠ wa.heap.size) ∧ w10.heap.size ≤ wa.heap.size); clear hz hf7 hx7 hn7 hw7 hb11 c2a c2b hcvb)
      | ((with_reducible refine (HP.out _ _ HIB.out (nil_ok _ _ _) (bt5 HB.out HBb.out)).mono ?_); rintro e w11 ⟨⟨fa7, fc7, ba7, bc7, rfl, hf7, hx7, hn7, hw7⟩, hb11⟩; have hz := blk_later HZb.out hb11; obtain ⟨k0, k1, k2, k3, k4, k5, k6⟩ := set7 hz; have z0 := freeM hz 0; have z1 := freeM hz 1; have z2 := freeM hz 2; have z3 := freeM hz 3; have z4 := freeM hz 4; have z5 := freeM hz 5; have z6 := freeM hz 6; have HS := Lib.hid (⟨hf7, hx7, hn7, HBb.out.trans (hb11.mono HBb.out.size), hz, fun ad j c h => Nat.ne_of_gt (Nat.lt_of_lt_of_le HLb.out (hw7 ad j c h)), Nat.le_refl _⟩ : FIn w11 (.slice fa7 k fc7) gs ∧ BIn w11 (.slice ba7 Y bc7) y ∧ NilOk (.slice ba7 Y bc7) ∧ Below w10.heap.size w10 w11 ∧ w11.heap[w10.heap.size]? = some (.cells #[.string ⟨#[]⟩, .string ⟨#[]⟩, .int .i64 0, .string ⟨#[]⟩, .int .i64 0, .slice none 0 0, .slice none 0 0] 28 (0, 0)) ∧ (∀ ad j c, (Value.slice fa7 k fc7) = .slice (some ad) j c → ad.block ≠ w10.heap.size) ∧ w10.heap.size ≤ w10.heap.size); clear hz hf7 hx7 hn7 hw7 hb11 c2a c2c hcva))
    all_goals go_wp2_with fail
    all_goals go_meet
    all_goals (case rel => first
      | (obtain ⟨hf, hx, hn, hbz⟩ := HR.out
         have hq := (Below.refl _ w11).alloc (Nat.le_refl _) (.cells #[.string d0, .string d1, .int .i64 du, .string d3, .int .i64 dm, .slice fa7 k fc7, .slice ba7 Y bc7] 28)
         exact ⟨w11.heap.size, fa7, fc7, ba7, bc7, rfl, rfl, rfl, heap_alloc_new w11 _, hf.later hq, hx.later hq, hn, bt5 HB.out (hbz.alloc hbz.size _), blk_later HBB.out (hbz.alloc hbz.size _)⟩)
      | (obtain ⟨W, hW, h1, h2, h3, h4, h5⟩ := two_done d0 d1 d3 du dm HS.out
         rw [← hW]
         exact ⟨_, fa7, fc7, ba7, bc7, rfl, rfl, rfl, h5, h1, h2, h3, bt5 HB.out h4, blk_later HBB.out h4⟩))
  case rest =>
    obtain ⟨g, fa7, fc7, ba7, bc7, rfl, rfl, rfl, yD, hf7, hx7, hn7, hb, bB⟩ := hcut
    have cE := cE2 fa7 fc7 ba7 bc7 _ hf7 hx7 hn7 hb
    clear hf7 hx7 hn7 cE2 bA
    obtain ⟨e0, e1, e2, e3, e4, e5, e6⟩ := set7 bB
    obtain ⟨k0, k1, k2, k3, k4, k5, k6⟩ := set7 yD
    have HSz := HTS.out
    clear bB yD
    go_wp2_with fail
    refine cE.mono ?_
    rintro e11 w11 ⟨rfl, hb11⟩
    have hB := bt5 hb hb11
    go_wp2_with fail
    go_ret
    exact ⟨rfl, by first | exact hB | (rw [HPP.out]; exact hB)⟩
set_option maxHeartbeats 6400000 in
set_option maxRecDepth 100000 in
/-- The same, its arguments as they come in. -/
theorem mtwo_w {Env : World → Prop} (P : Read8 Env) (s : St.S) (fv bv : Value) (fs : List Fld.F) (x : List UInt8) (t : St.S) (gv hv : Value) (gs : List Fld.F) (y : List UInt8) (mm : ByteArray) (w : World) (hF : FIn w fv fs) (_hn : NilOk fv) (hx : BIn w bv x) (hxn : NilOk bv) (z4 : s.status ≤ 9223372036854775807) (z5 : s.minor ≤ 9223372036854775807) (hG : FIn w gv gs) (_gn : NilOk gv) (hy : BIn w hv y) (hyn : NilOk hv) (z6 : t.status ≤ 9223372036854775807) (z7 : t.minor ≤ 9223372036854775807) (_hm : mm.size ≤ 9223372036854775807) (hE : Env w) :
    Calls Tryz.prog 6 #[mval s fv bv, mval t gv hv, .string mm] w fun e w' => e = .returned (.bool true) ∧ Below w.heap.size w w' := by
  obtain ⟨m, rfl⟩ : ∃ m, mm = str m := ⟨mm.data.toList, (str_of mm).symm⟩
  have hs0 : ∀ v : St.S, (v.status == 0) = decide (v.status = 0) := fun v => by
    by_cases h : v.status = 0
    · rw [h]; rfl
    · rw [decide_eq_false h]; exact beq_eq_false_iff_ne.2 h
  have each : ∀ (s : St.S) (fv bv : Value) (fs : List Fld.F) (x : List UInt8), FIn w fv fs → BIn w bv x → NilOk bv → s.status ≤ 9223372036854775807 → s.minor ≤ 9223372036854775807 → smallB s fs x m = true →
      (∀ W, Below w.heap.size w W → Calls Tryz.prog 17 #[mval s fv bv, .string (str m)] W fun e w' => e = .returned (.bool (Ms.right ⟨s, fs, x⟩ m)) ∧ Below W.heap.size W w') ∧
      (Ms.right ⟨s, fs, x⟩ m = true → ((Ms.print ⟨s, fs, x⟩ m).length ≤ 100000 ∧ ∀ W, Below w.heap.size w W → Calls Tryz.prog 19 #[mval s fv bv, .string (str m)] W fun e w' => e = .returned (.string (str (Ms.print ⟨s, fs, x⟩ m))) ∧ Below W.heap.size W w') ∧
        (∀ u W (r : List UInt8), r.length ≤ 200000 → BIn W u (Ms.print ⟨s, fs, x⟩ m ++ r) → NilOk u → Below w.heap.size w W → Calls Tryz.prog 10 #[u, .bool (s.status == 0), .string (str m)] W fun e w' => (∃ fa fc ba bc, e = .returned (.tuple #[.agg #[.string (str s.method), .string (str s.target), .int .i64 s.status, .string (str s.reason), .int .i64 s.minor, .slice fa fs.length fc, .slice ba x.length bc], .int .i64 (Ms.print ⟨s, fs, x⟩ m).length, .int .i64 0]) ∧ FIn w' (.slice fa fs.length fc) fs ∧ BIn w' (.slice ba x.length bc) x ∧ NilOk (.slice ba x.length bc) ∧ ∀ ad j c, (Value.slice fa fs.length fc) = .slice (some ad) j c → W.heap.size ≤ ad.block) ∧ Below W.heap.size W w') ∧
        (∀ fa6 fc6 ba6 bc6 W, FIn W (.slice fa6 fs.length fc6) fs → BIn W (.slice ba6 x.length bc6) x → NilOk (.slice ba6 x.length bc6) → Below w.heap.size w W → Calls Tryz.prog 12 #[.agg #[.string (str s.method), .string (str s.target), .int .i64 s.status, .string (str s.reason), .int .i64 s.minor, .slice fa6 fs.length fc6, .slice ba6 x.length bc6], mval s fv bv] W fun e w' => e = .returned (.bool true) ∧ Below W.heap.size W w')) := by
    intro s fv bv fs x hF hx hxn z4 z5 hs
    have q := smallB_sm hs z4 z5
    have q1 := q.count
    have q2 := q.body
    have q3 := q.asked
    have q4 := q.method
    have q5 := q.target
    have q6 := q.reason
    refine ⟨fun W hb => right_w s fv bv fs x m W (hF.later hb) q.small (by omega) (hx.later hb) hxn (by omega) (by omega) (by omega) (by omega) (by omega), fun hr => ?_⟩
    obtain ⟨r1, r2, r3⟩ := right_len hr q2
    refine ⟨⟨r1, fun W hb => print_w s fv bv fs x m W (hF.later hb) q.small (by omega) (hx.later hb) hxn (by omega) (by omega) (by omega) (by omega) (by omega) z4 z5 (by omega) (by omega)⟩, fun u W r hr9 hu hun hb => ?_, fun fa6 fc6 ba6 bc6 W h1 h2 h3 hb => ?_⟩
    · have h := P.parse_new u _ (s.status == 0) m W (by rw [List.length_append]; omega) q3 hu hun (P.later hE hb)
      rw [hs0 s, Ms.parse_print hr r] at h
      rw [hs0 s]
      exact h
    · have h := same_w s s (.slice fa6 fs.length fc6) (.slice ba6 x.length bc6) fv bv fs fs x x W h1 (hF.later hb) h2 h3 (hx.later hb) hxn (by omega)
      rw [sameF_self, decide_eq_true (rfl : s = s), decide_eq_true (rfl : x = x)] at h
      exact h
  have ea := each s fv bv fs x hF hx hxn z4 z5
  have eb := each t gv hv gs y hG hy hyn z6 z7
  have cA := fun (W : World) (hb : Below w.heap.size w W) => mawake_w P W (P.later hE hb)
  have cSa := fun (W : World) (hb : Below w.heap.size w W) => small_w s fv bv fs x m W (hF.later hb) (hx.later hb)
  have cSb := fun (W : World) (hb : Below w.heap.size w W) => small_w t gv hv gs y m W (hG.later hb) (hy.later hb)
  refine two_core (n := fs.length) (X := x.length) (k := gs.length) (Y := y.length) (NA := (Ms.print ⟨s, fs, x⟩ m).length) (NB := (Ms.print ⟨t, gs, y⟩ m).length) (PA := str (Ms.print ⟨s, fs, x⟩ m)) (PB := str (Ms.print ⟨t, gs, y⟩ m)) (ra := Ms.right ⟨s, fs, x⟩ m) (rb := Ms.right ⟨t, gs, y⟩ m) (fs := fs) (gs := gs) (x := x) (y := y) w rfl rfl cA cSa cSb (fun h => (ea h).1) (fun h => (eb h).1) (fun h hr => ((ea h).2 hr).1.2) (fun h hr => ((eb h).2 hr).1.2) (fun h1 h2 h3 h4 hq => ?_)
  obtain ⟨⟨a1, _⟩, a3, a4⟩ := (ea h1).2 h3
  obtain ⟨⟨b1, _⟩, b3, b4⟩ := (eb h2).2 h4
  refine ⟨str_size _, by omega, str_size _, by omega, fun u W hu hun hb => ?_, fun u W hu hun hb => ?_, a4, b4⟩
  · rw [str_list, str_list] at hu
    exact a3 u W _ (by omega) hu hun hb
  · rw [str_list] at hu
    rw [hq]
    exact b3 u W [] (by simp) (by rw [List.append_nil]; exact hu) hun hb
end Go.Proofs.YtlbjjeonchcgbaaGreatDoor
