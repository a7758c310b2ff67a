/- The statements of layer 2: DatePrints. -/
import Derived.Test.YtlmcolpoaedclaaDoorDt19
namespace Go.Proofs.YtlmcolpoaedclaaDoor
open Go.RowKit

theorem Form_c (a : Int) (k : Nat) (w : World) (hk : k < 3) (a0 : 0 ≤ a) (a1 : a ≤ 253402300799) :
    Calls Tryd.prog 14 #[.int .i64 a, .int .i64 k] w fun e w' => e = .returned (.string (f3 a k)) ∧ Below w.heap.size w w' := by
  have : k = 0 ∨ k = 1 ∨ k = 2 := by omega
  rcases this with rfl | rfl | rfl
  · exact Form_0 a w a0 a1
  · exact Form_1 a w a0 a1
  · exact Form_2 a w a0 a1
theorem says_f3 {a : Int} {k : Nat} (hk : k < 3) (a0 : 0 ≤ a) (a1 : a ≤ 3155759999) : Dt.Says (f3 a k).data.toList a := by
  refine ⟨a0, by unfold Dt.last; omega, ?_⟩
  have : k = 0 ∨ k = 1 ∨ k = 2 := by omega
  rcases this with rfl | rfl | rfl
  · exact .inl (str_list _)
  · exact .inr (.inl ⟨a1, str_list _⟩)
  · exact .inr (.inr (str_list _))
theorem says_f0 {a : Int} (a0 : 0 ≤ a) (a1 : a ≤ 253402300799) : Dt.Says (f3 a 0).data.toList a := ⟨a0, a1, .inl (str_list _)⟩

theorem f3_cell (a : Int) (k : Nat) (hk : k < 3) (w : World) : (w.alloc (.cells #[.string (f3 a 0), .string (f3 a 1), .string (f3 a 2)] 31)).cell? ⟨w.heap.size, k, none⟩ = some (.string (f3 a k)) := by
  rw [World.cell?_alloc_at _ _ _ _ rfl]
  have : k = 0 ∨ k = 1 ∨ k = 2 := by omega
  rcases this with rfl | rfl | rfl <;> rfl
theorem eq_none (w : World) : (Op.equalIn 10000 31 (.agg #[.string ⟨#[]⟩, .string ⟨#[]⟩, .string ⟨#[]⟩]) (.agg #[.string ⟨#[]⟩, .string ⟨#[]⟩, .string ⟨#[]⟩])).run Tryd.prog w = .ok true w := by kernel_rfl

set_option maxHeartbeats 1600000 in
set_option maxRecDepth 100000 in
theorem prints_no (a : Int) (w : World) (hT : DTabs w) (h : a < 0 ∨ (0 ≤ a ∧ 253402300799 < a)) :
    Calls Tryd.prog 4 #[.int .i64 a] w fun e w' => e = .returned (.bool true) ∧ Below w.heap.size w w' := by
  have hA := awake_w w hT
  have hP := fun w => Print_no a w (by omega)
  have hF := fun w => Forms_no a w (by omega)
  have hq := eq_none
  clear hT
  rcases h with h | ⟨h0, h⟩
  · go_enter Tryd.func4, Tryd.ntmps4
    go_wp2_with fail
    refine hA.mono ?_
    rintro e w1 ⟨rfl, hb1⟩
    go_wp2_with fail
    refine (hP _).mono ?_
    rintro e w' ⟨rfl, rfl⟩
    go_wp2_with fail
    refine (hF _).mono ?_
    rintro e w2 ⟨rfl, hb2⟩
    have hB2 := bt hb1 hb2
    clear hb1 hb2 hA hP hF
    go_wp2_with fail
    go_ret
    exact ⟨rfl, hB2.alloc hB2.size _⟩
  · go_enter Tryd.func4, Tryd.ntmps4
    go_wp2_with fail
    refine hA.mono ?_
    rintro e w1 ⟨rfl, hb1⟩
    go_wp2_with fail
    refine (hP _).mono ?_
    rintro e w' ⟨rfl, rfl⟩
    go_wp2_with fail
    refine (hF _).mono ?_
    rintro e w2 ⟨rfl, hb2⟩
    have hB2 := bt hb1 hb2
    clear hb1 hb2 hA hP hF
    go_wp2_with (go_at_call 13; refine (Last_c _).mono ?_; rintro e w' ⟨rfl, rfl⟩)
    go_ret
    exact ⟨rfl, hB2.alloc hB2.size _⟩

set_option maxHeartbeats 3200000 in
set_option maxRecDepth 100000 in
theorem prints_late (a : Int) (w : World) (hT : DTabs w) (a0 : 0 ≤ a) (a1 : a ≤ 253402300799) (hl : 3155759999 < a) :
    Calls Tryd.prog 4 #[.int .i64 a] w fun e w' => e = .returned (.bool true) ∧ Below w.heap.size w w' := by
  have hA := awake_w w hT
  have HT := Lib.hid hT
  obtain ⟨y, m', d, hd⟩ := Dt.exDate (a / 86400) (by omega) (by omega)
  obtain ⟨m, rfl⟩ : ∃ k : Nat, m' = k := ⟨m'.toNat, by have := hd.m0; omega⟩
  have hy : 2069 < y := by
    have := (Dt.years_forms hd).2
    unfold Dt.lastForms at this
    omega
  have hP := fun w hT => Print_yes a (f3 a 0) w hT a0 a1 rfl
  have hF := fun w => Forms_no a w (by omega)
  have hR := fun w hT => Parse_yes (f3 a 0) a w hT (says_f0 a0 a1)
  have hM : ∀ w, Calls Tryd.prog 14 #[.int .i64 a, .int .i64 0] w fun e w' => e = .returned (.string (f3 a 0)) ∧ Below w.heap.size w w' := fun w => Form_0 a w a0 a1
  have hW := fun w => When_c a y d m w a0 a1 hd
  have hq := eq_none
  generalize f3 a 0 = x at hP hR hM
  clear hd hT
  go_enter Tryd.func4, Tryd.ntmps4
  go_wp2_with fail
  refine hA.mono ?_
  rintro e w1 ⟨rfl, hb1⟩
  have hT1 := HT.out.later hb1
  clear hA
  go_wp2_with fail
  refine (hP w1 hT1).mono ?_
  rintro e w2 ⟨rfl, hb2⟩
  have hT2 := hT1.later hb2
  have hB2 := bt hb1 hb2
  clear hT1 hb1 hb2 hP
  go_wp2_with fail
  refine (hF w2).mono ?_
  rintro e w3 ⟨rfl, hb3⟩
  have hT3 := hT2.later hb3
  have hB3 := bt hB2 hb3
  clear hT2 hB2 hb3 hF
  go_wp2_with (go_at_call 13; refine (Last_c _).mono ?_; rintro e w' ⟨rfl, rfl⟩)
  have hb4 : Below w3.heap.size w3 (w3.alloc (.cells #[.string ⟨#[]⟩, .string ⟨#[]⟩, .string ⟨#[]⟩] 31)) := (Below.refl _ _).alloc (Nat.le_refl _) _
  have hg := heap_alloc_new w3 (.cells #[.string ⟨#[]⟩, .string ⟨#[]⟩, .string ⟨#[]⟩] 31)
  generalize w3.alloc (.cells #[.string ⟨#[]⟩, .string ⟨#[]⟩, .string ⟨#[]⟩] 31) = w4 at hb4 hg ⊢
  have hT4 := hT3.later hb4
  have hB4 := bt hB3 hb4
  clear hT3 hB3 hb4
  refine (hR w4 hT4).mono ?_
  rintro e w5 ⟨rfl, hb5⟩
  clear hR hT4
  go_wp2_with fail
  refine (hM w5).mono ?_
  rintro e w6 ⟨rfl, hb6⟩
  clear hM
  go_wp2_with fail
  refine (hW w6).mono ?_
  rintro e w7 ⟨rfl, hb7⟩
  have hb47 := bt (bt hb5 hb6) hb7
  have hB7 := bt hB4 hb47
  have hg7 : w7.heap[w3.heap.size]? = some (.cells #[.string ⟨#[]⟩, .string ⟨#[]⟩, .string ⟨#[]⟩] 31) := by
    rw [hb47.block _ (lt_of_block hg)]; exact hg
  have r0 : w7.cell? ⟨w3.heap.size, 0, none⟩ = some (.string ⟨#[]⟩) := by simp only [World.cell?, hg7]; rfl
  have r1 : w7.cell? ⟨w3.heap.size, 1, none⟩ = some (.string ⟨#[]⟩) := by simp only [World.cell?, hg7]; rfl
  have r2 : w7.cell? ⟨w3.heap.size, 2, none⟩ = some (.string ⟨#[]⟩) := by simp only [World.cell?, hg7]; rfl
  clear hW hb5 hb6 hb7 hb47 hg hg7 hB4
  go_wp2_with fail
  go_ret
  exact ⟨rfl, hB7⟩

set_option maxHeartbeats 3200000 in
set_option maxRecDepth 100000 in
theorem prints_yes (a : Int) (w : World) (hT : DTabs w) (a0 : 0 ≤ a) (a1 : a ≤ 3155759999) :
    Calls Tryd.prog 4 #[.int .i64 a] w fun e w' => e = .returned (.bool true) ∧ Below w.heap.size w w' := by
  have hA := awake_w w hT
  have HT := Lib.hid hT
  obtain ⟨y, m', d, hd⟩ := Dt.exDate (a / 86400) (by omega) (by omega)
  obtain ⟨m, rfl⟩ : ∃ k : Nat, m' = k := ⟨m'.toNat, by have := hd.m0; omega⟩
  have hy : y ≤ 2069 := by
    have := (Dt.years_forms hd).1
    unfold Dt.lastForms at this
    omega
  have hP := fun w hT => Print_yes a (f3 a 0) w hT a0 (by omega) rfl
  have hF := fun w hT => Forms_yes a (f3 a 0) (f3 a 1) (f3 a 2) w hT a0 a1 rfl rfl rfl
  have hR := fun w hT => Parse_yes (f3 a 0) a w hT (says_f0 a0 (by omega))
  have hM : ∀ w, Calls Tryd.prog 14 #[.int .i64 a, .int .i64 0] w fun e w' => e = .returned (.string (f3 a 0)) ∧ Below w.heap.size w w' := fun w => Form_0 a w a0 (by omega)
  have hW := fun w => When_c a y d m w a0 (by omega) hd
  have hRk := fun k hk w hT => Parse_yes (f3 a k) a w hT (says_f3 (k := k) hk a0 a1)
  have hMk := fun k hk w => Form_c a k w hk a0 (by omega)
  have hFk := fun k hk w => f3_cell a k hk w
  have a2 : a ≤ 253402300799 := by omega
  have hd1 : decide (a < 0) = false := decide_eq_false (by omega)
  have hd2 : decide (253402300799 < a) = false := decide_eq_false (by omega)
  have hd3 : decide (2069 < y) = false := decide_eq_false (by omega)
  clear hd hT
  go_enter Tryd.func4, Tryd.ntmps4
  go_wp2_with fail
  refine hA.mono ?_
  rintro e w1 ⟨rfl, hb1⟩
  have hT1 := HT.out.later hb1
  clear hA
  go_wp2_with fail
  refine (hP w1 hT1).mono ?_
  rintro e w2 ⟨rfl, hb2⟩
  have hT2 := hT1.later hb2
  have hB2 := bt hb1 hb2
  clear hT1 hb1 hb2 hP
  go_wp2_with fail
  refine (hF w2 hT2).mono ?_
  rintro e w3 ⟨rfl, hb3⟩
  have hT3 := hT2.later hb3
  have hB3 := bt hB2 hb3
  clear hT2 hB2 hb3 hF
  go_wp2_with (go_at_call 13; refine (Last_c _).mono ?_; rintro e w' ⟨rfl, rfl⟩)
  have hb4 : Below w3.heap.size w3 (w3.alloc (.cells #[.string (f3 a 0), .string (f3 a 1), .string (f3 a 2)] 31)) := (Below.refl _ _).alloc (Nat.le_refl _) _
  have HC : Hid (∀ k, k < 3 → (w3.alloc (.cells #[.string (f3 a 0), .string (f3 a 1), .string (f3 a 2)] 31)).cell? ⟨w3.heap.size, k, none⟩ = some (.string (f3 a k))) := fun k hk => hFk k hk w3
  generalize w3.alloc (.cells #[.string (f3 a 0), .string (f3 a 1), .string (f3 a 2)] 31) = w4 at hb4 HC ⊢
  have hT4 := hT3.later hb4
  have hB4 := bt hB3 hb4
  clear hT3 hB3 hb4 hFk
  refine (hR w4 hT4).mono ?_
  rintro e w5 ⟨rfl, hb5⟩
  clear hR
  go_wp2_with fail
  refine (hM w5).mono ?_
  rintro e w6 ⟨rfl, hb6⟩
  clear hM
  go_wp2_with fail
  refine (hW w6).mono ?_
  rintro e w7 ⟨rfl, hb7⟩
  have hb47 := bt (bt hb5 hb6) hb7
  clear hW hb5 hb6 hb7
  go_wp2_with fail
  go_loopw [13] (fun i wr => ∃ k : Nat, k ≤ 3 ∧ i = .int .i64 k ∧ Below w4.heap.size w4 wr) (fun i _ => 3 - (intOf i).toNat)
  case atStart => exact ⟨0, by omega, rfl, hb47⟩
  case round =>
    clear hb47
    obtain ⟨k, hk, rfl, hbr⟩ := hrel
    by_cases hlt : k < 3
    · have hlt' : (k : Int) < 3 := by omega
      have hc := cell_later hbr (HC.out k hlt)
      have hTr := hT4.later hbr
      go_wp2_with fail
      refine (hRk k hlt _ hTr).mono ?_
      rintro e w8 ⟨rfl, hb8⟩
      have hc8 := cell_later hb8 hc
      have hc9 := fun p : LateOf w8 => p.cell hc8
      have hb48 := bt hbr hb8
      clear hc hc8 hTr hbr hb8
      go_wp2_with fail
      refine wp_region_late (by kernel_rfl) (by kernel_rfl) ?_
      repeat (quiet_step ((go_at_call 14; exact late _ (hMk k hlt _))))
      refine wpQuiet_nil ?_
      intro w9 hw'
      have hb9 : Below w8.heap.size w8 w9 := by obtain ⟨p, rfl⟩ := hw'; exact p.h
      have hb49 := bt hb48 hb9
      clear hw' hb9 hb48 hc9
      go_wp2_with fail
      go_roundw
      case rel => exact ⟨k + 1, by omega, by go_num, hb49⟩
      case measure => simp [intOf]; omega
    · have hlt' : ¬ (k : Int) < 3 := by omega
      go_wp2_with fail
      go_ret
      exact ⟨rfl, bt hB4 hbr⟩
theorem prints_w (a : Int) (w : World) (_ha : -9223372036854775808 ≤ a ∧ a ≤ 9223372036854775807) (hT : DTabs w) :
    Calls Tryd.prog 4 #[.int .i64 a] w fun e w' => e = .returned (.bool true) ∧ Below w.heap.size w w' := by
  by_cases h : a < 0 ∨ (0 ≤ a ∧ 253402300799 < a)
  · exact prints_no a w hT h
  · by_cases hl : 3155759999 < a
    · exact prints_late a w hT (by omega) (by omega) hl
    · exact prints_yes a w hT (by omega) (by omega)

end Go.Proofs.YtlmcolpoaedclaaDoor
