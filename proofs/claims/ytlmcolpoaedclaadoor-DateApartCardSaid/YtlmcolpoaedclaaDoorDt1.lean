/- Package date: the calendar's small functions. -/
import Derived.Test.YtlmcolpoaedclaaDoorOctBase
import Derived.Test.YtlmcolpoaedclaaDoorDtMathD
namespace Go.Proofs.YtlmcolpoaedclaaDoor
open Go.RowKit

/-- What the tables of the package and of the library hold. -/
structure DTabs (w : World) : Prop where
  base : Tabs w
  len : ∀ j, j < 12 → w.cell? ⟨2, j, none⟩ = some (.int .i64 (([31, 28, 31, 30, 31, 30, 31, 31, 30, 31, 30, 31] : List Int).getD j 0))
  day : ∀ j, j < 7 → w.cell? ⟨0, j, none⟩ = some (.string (str (Dt.dayNames.getD j [])))
  mon : ∀ j, j < 12 → w.cell? ⟨1, j, none⟩ = some (.string (str (Dt.monthNames.getD j [])))
theorem cell_later {w w' : World} {b o : Nat} {v : Value} (hb : Below w.heap.size w w') (h : w.cell? ⟨b, o, none⟩ = some v) : w'.cell? ⟨b, o, none⟩ = some v := by
  have := World.block_lt_of_cell? w _ h
  rw [hb.cell (p := ⟨b, o, none⟩) this]; exact h
theorem DTabs.later {w w' : World} (h : DTabs w) (hb : Below w.heap.size w w') : DTabs w' :=
  ⟨h.base.later hb, fun j hj => cell_later hb (h.len j hj), fun j hj => cell_later hb (h.day j hj), fun j hj => cell_later hb (h.mon j hj)⟩

set_option maxHeartbeats 400000 in
theorem weekday_c (n : Int) (w : World) (h0 : 0 ≤ n) (h1 : n ≤ 1000000000000) :
    Calls Tryd.prog 32 #[.int .i64 n] w fun e w' => e = .returned (.int .i64 (Dt.wday (n / 86400))) ∧ w = w' := by
  go_enter Tryd.func32, Tryd.ntmps32
  go_wp2
  go_ret
  exact ⟨rfl, rfl⟩

set_option maxHeartbeats 400000 in
theorem fullYear_c (n : Int) (w : World) (h0 : 0 ≤ n) (h1 : n ≤ 9999) :
    Calls Tryd.prog 37 #[.int .i64 n] w fun e w' => e = .returned (.int .i64 (Dt.full n)) ∧ w = w' := by
  go_enter Tryd.func37, Tryd.ntmps37
  go_wp2
  all_goals go_ret
  · exact ⟨ret_int (by unfold Dt.full; rw [if_pos (by assumption)]), rfl⟩
  · exact ⟨ret_int (by unfold Dt.full; rw [if_neg (by omega)]), rfl⟩

set_option maxHeartbeats 400000 in
theorem newYear_c (y : Int) (w : World) (h0 : 1970 ≤ y) (h1 : y ≤ 11899) :
    Calls Tryd.prog 38 #[.int .i64 y] w fun e w' => e = .returned (.int .i64 (Dt.ny y)) ∧ w = w' := by
  go_enter Tryd.func38, Tryd.ntmps38
  go_wp2
  go_ret
  exact ⟨ret_int (by unfold Dt.ny; omega), rfl⟩

set_option maxHeartbeats 400000 in
theorem newYear_t (y : Int) (w : World) (h0 : 0 ≤ y) (h1 : y ≤ 11899) :
    Calls Tryd.prog 38 #[.int .i64 y] w fun e w' => e = .returned (.int .i64 (Dt.nyT y)) ∧ w = w' := by
  by_cases h : 1970 ≤ y
  · rw [Dt.nyT_ny h]; exact newYear_c y w h h1
  · have h2 : y ≤ 1969 := by omega
    have hb := Dt.nyT_bd y h0 h1
    have a : (y - 1969).tdiv 4 ≤ 10000 ∧ -1000 ≤ (y - 1969).tdiv 4 := by
      rw [Int.tdiv_eq_ediv]; split <;> (have := Int.sign_eq_one_of_pos (a := (4 : Int)) (by omega)) <;> omega
    have b : (y - 1901).tdiv 100 ≤ 10000 ∧ -1000 ≤ (y - 1901).tdiv 100 := by
      rw [Int.tdiv_eq_ediv]; split <;> (have := Int.sign_eq_one_of_pos (a := (100 : Int)) (by omega)) <;> omega
    have c : (y - 1601).tdiv 400 ≤ 10000 ∧ -1000 ≤ (y - 1601).tdiv 400 := by
      rw [Int.tdiv_eq_ediv]; split <;> (have := Int.sign_eq_one_of_pos (a := (400 : Int)) (by omega)) <;> omega
    obtain ⟨a1, a2⟩ := a
    obtain ⟨b1, b2⟩ := b
    obtain ⟨c1, c2⟩ := c
    clear h
    go_enter Tryd.func38, Tryd.ntmps38
    go_wp2
    go_ret
    exact ⟨ret_int (by unfold Dt.nyT; omega), rfl⟩

theorem ml_one (y : Int) : Dt.ml y 1 = 28 + Dt.lp y := rfl
theorem ml_tab (y : Int) (j : Nat) (h : j < 12) (hl : ¬ (j = 1 ∧ Dt.lp y = 1)) : Dt.ml y j = ([31, 28, 31, 30, 31, 30, 31, 31, 30, 31, 30, 31] : List Int).getD j 0 := by
  have hb := Dt.lp_01 y
  have : j = 0 ∨ j = 1 ∨ j = 2 ∨ j = 3 ∨ j = 4 ∨ j = 5 ∨ j = 6 ∨ j = 7 ∨ j = 8 ∨ j = 9 ∨ j = 10 ∨ j = 11 := by omega
  rcases this with rfl | rfl | rfl | rfl | rfl | rfl | rfl | rfl | rfl | rfl | rfl | rfl
  all_goals first
    | (show 28 + Dt.lp y = 28; omega)
    | rfl
theorem lp_is1 {y : Int} (h : y % 4 = 0) (h' : ¬ y % 100 = 0 ∨ y % 400 = 0) : Dt.lp y = 1 := by unfold Dt.lp; rw [if_pos ⟨h, h'⟩]
theorem lp_is0 {y : Int} (h : ¬ y % 4 = 0 ∨ (y % 100 = 0 ∧ ¬ y % 400 = 0)) : Dt.lp y = 0 := by unfold Dt.lp; rw [if_neg (by omega)]

set_option maxHeartbeats 1000000 in
theorem monthDays_c (y : Int) (j : Nat) (w : World) (hT : DTabs w) (h0 : 0 ≤ y) (h1 : y ≤ 11899) (hj : j < 12) :
    Calls Tryd.prog 39 #[.int .i64 y, .int .i64 j] w fun e w' => e = .returned (.int .i64 (Dt.ml y j)) ∧ w = w' := by
  have hc := hT.len j hj
  clear hT
  by_cases hm : j = 1 ∧ Dt.lp y = 1
  · obtain ⟨rfl, hl⟩ := hm
    have hlp : y % 4 = 0 ∧ (¬ y % 100 = 0 ∨ y % 400 = 0) := by
      unfold Dt.lp at hl
      split at hl
      · assumption
      · omega
    have hR : Hid (Dt.ml y ((1 : Nat) : Int) = 29) := by show 28 + Dt.lp y = 29; omega
    clear hl hc
    obtain ⟨h4, h100⟩ := hlp
    by_cases g : y % 100 = 0
    · have g400 : y % 400 = 0 := by omega
      clear h100
      go_enter Tryd.func39, Tryd.ntmps39
      go_wp2
      go_ret
      exact ⟨ret_int hR.out.symm, rfl⟩
    · clear h100
      have g' : (y % 100 == 0) = false := beq_eq_false_iff_ne.2 g
      have g2 : (y % 100 != 0) = true := by rw [bne, g']; rfl
      go_enter Tryd.func39, Tryd.ntmps39
      go_wp2
      go_ret
      exact ⟨ret_int hR.out.symm, rfl⟩
  · have hR : Hid (Dt.ml y j = ([31, 28, 31, 30, 31, 30, 31, 31, 30, 31, 30, 31] : List Int).getD j 0) := ml_tab y j hj hm
    obtain ⟨v, hv⟩ : ∃ v, ([31, 28, 31, 30, 31, 30, 31, 31, 30, 31, 30, 31] : List Int).getD j 0 = v := ⟨_, rfl⟩
    rw [hv] at hc hR
    clear hv
    by_cases h1' : j = 1
    · have hl : Dt.lp y = 0 := by have := Dt.lp_01 y; omega
      subst h1'
      clear hm
      by_cases h4 : y % 4 = 0
      · have hq : y % 100 = 0 ∧ ¬ y % 400 = 0 := by
          unfold Dt.lp at hl
          split at hl
          · omega
          · omega
        obtain ⟨q1, q2⟩ := hq
        have q3 : (y % 400 == 0) = false := beq_eq_false_iff_ne.2 q2
        clear hl q2
        go_enter Tryd.func39, Tryd.ntmps39
        go_wp2
        go_ret
        exact ⟨ret_int hR.out.symm, rfl⟩
      · have q3 : (y % 4 == 0) = false := beq_eq_false_iff_ne.2 h4
        clear hl h4
        go_enter Tryd.func39, Tryd.ntmps39
        go_wp2
        go_ret
        exact ⟨ret_int hR.out.symm, rfl⟩
    · have hne : ((j : Int) == 1) = false := beq_eq_false_iff_ne.2 (by omega)
      clear hm h1'
      go_enter Tryd.func39, Tryd.ntmps39
      go_wp2
      go_ret
      exact ⟨ret_int hR.out.symm, rfl⟩

end Go.Proofs.YtlmcolpoaedclaaDoor
