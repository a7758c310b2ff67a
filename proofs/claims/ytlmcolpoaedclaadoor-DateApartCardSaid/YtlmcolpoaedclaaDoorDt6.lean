/- Package date: which runes part words. -/
import Derived.Test.YtlmcolpoaedclaaDoorDt5
import Derived.Deep.LoopGhost
namespace Go.Proofs.YtlmcolpoaedclaaDoor
open Go.RowKit

set_option maxHeartbeats 1600000 in
set_option maxRecDepth 1000000 in
theorem indexRune_bad (x : Nat) (w : World) (h1 : 55296 ≤ x) (h2 : x ≤ 57343) :
    Calls Tryd.prog 35 #[.string ⟨#[32, 44, 45, 58]⟩, .int .i32 x] w fun e w' => e = .returned (.int .i64 (-1)) ∧ Below w.heap.size w w' := by
  have hv : Lib.validRune (x : Int) = false := by unfold Lib.validRune; rw [decide_eq_false]; omega
  have hne : ((x : Int) == 65533) = false := beq_eq_false_iff_ne.2 (by omega)
  have hV := Tryd.utf8_ValidRune x
  rw [hv] at hV
  clear hv
  go_enter Tryd.func35, Tryd.ntmps35
  go_wp2_with fail
  refine (hV _).mono ?_
  rintro e w' ⟨rfl, rfl⟩
  go_wp2_with fail
  go_ret
  exact ⟨rfl, Below.refl _ _⟩

set_option maxHeartbeats 1600000 in
set_option maxRecDepth 1000000 in
theorem indexRune_err (w : World) :
    Calls Tryd.prog 35 #[.string ⟨#[32, 44, 45, 58]⟩, .int .i32 65533] w fun e w' => e = .returned (.int .i64 (-1)) ∧ Below w.heap.size w w' := by
  go_enter Tryd.func35, Tryd.ntmps35
  go_wp2_with fail
  go_loopg [] 5 (fun gf wx => ∃ pos : Nat, pos + gf = 5 ∧ pos ≤ 4 ∧ wx = w.iter ⟨#[32, 44, 45, 58]⟩ pos)
  case atStart => exact ⟨0, by omega, by omega, rfl⟩
  case round =>
    obtain ⟨pos, hg, hp, rfl⟩ := hrel
    have : pos = 0 ∨ pos = 1 ∨ pos = 2 ∨ pos = 3 ∨ pos = 4 := by omega
    rcases this with rfl | rfl | rfl | rfl | rfl
    · obtain rfl : gk = 5 := by omega
      have hnx := fun ty => run_next_ascii (P := Tryd.prog) w ⟨#[32, 44, 45, 58]⟩ 0 ty (by decide) (by decide)
      go_wp2_with fail
      go_roundg 4
      case measure => omega
      case rel => exact ⟨1, by omega, by omega, rfl⟩
    · obtain rfl : gk = 4 := by omega
      have hnx := fun ty => run_next_ascii (P := Tryd.prog) w ⟨#[32, 44, 45, 58]⟩ 1 ty (by decide) (by decide)
      go_wp2_with fail
      go_roundg 3
      case measure => omega
      case rel => exact ⟨2, by omega, by omega, rfl⟩
    · obtain rfl : gk = 3 := by omega
      have hnx := fun ty => run_next_ascii (P := Tryd.prog) w ⟨#[32, 44, 45, 58]⟩ 2 ty (by decide) (by decide)
      go_wp2_with fail
      go_roundg 2
      case measure => omega
      case rel => exact ⟨3, by omega, by omega, rfl⟩
    · obtain rfl : gk = 2 := by omega
      have hnx := fun ty => run_next_ascii (P := Tryd.prog) w ⟨#[32, 44, 45, 58]⟩ 3 ty (by decide) (by decide)
      go_wp2_with fail
      go_roundg 1
      case measure => omega
      case rel => exact ⟨4, by omega, by omega, rfl⟩
    · have hnx := fun ty => run_next_end (P := Tryd.prog) w ⟨#[32, 44, 45, 58]⟩ 4 ty (by decide)
      go_wp2_with fail
      go_ret
      exact ⟨rfl, (Below.refl _ _).alloc (Nat.le_refl _) _⟩

theorem enc_cases (r : Int) (hv : Utf8.valid r = true) (h128 : 128 ≤ r) :
    (∃ a c : UInt8, Utf8.encode r = ⟨#[a, c]⟩ ∧ 128 ≤ c.toNat) ∨ (∃ a b c : UInt8, Utf8.encode r = ⟨#[a, b, c]⟩ ∧ 128 ≤ c.toNat) ∨ (∃ a b d c : UInt8, Utf8.encode r = ⟨#[a, b, d, c]⟩ ∧ 128 ≤ c.toNat) := by
  have hc : ¬ r.toNat < 128 := by omega
  unfold Utf8.encode
  simp only [hv, if_true, hc, if_false]
  split
  · exact .inl ⟨_, _, rfl, by simp; omega⟩
  · split
    · exact .inr (.inl ⟨_, _, _, rfl, by simp; omega⟩)
    · exact .inr (.inr ⟨_, _, _, _, rfl, by simp; omega⟩)
theorem ix_none (l : List UInt8) (c : UInt8) (h : ∀ b ∈ l, b ≠ c) : Lib.indexByte l c = -1 := by
  induction l with
  | nil => rfl
  | cons b l ih =>
    have h1 : (b == c) = false := by simpa using h b (by simp)
    simp only [Lib.indexByte, h1]
    rw [if_neg (by decide), ih (fun b hb => h b (by simp [hb]))]
    rfl
theorem ix_tail (l : List UInt8) (c : UInt8) (h : 128 ≤ c.toNat) (hl : ∀ b ∈ l, b.toNat < 128) (w : World) (s : ByteArray) (hs : s.data.toList = l) :
    Calls Tryd.prog 41 #[.string s, .int .u8 c.toNat] w fun e w' => e = .returned (.int .i64 (-1)) ∧ w = w' := by
  refine (Tryd.strings_IndexByte s c.toNat w).mono ?_
  rintro e w' ⟨rfl, rfl⟩
  refine ⟨?_, rfl⟩
  rw [hs, ix_none]
  intro b hb e
  have := hl b hb
  rw [e] at this
  simp at this; omega

set_option maxHeartbeats 1600000 in
set_option maxRecDepth 1000000 in
theorem indexRune_far (x : Nat) (w : World) (h1 : 128 ≤ x) (h2 : x < 55296 ∨ (57343 < x ∧ x ≤ 1114111)) (h3 : x ≠ 65533) :
    Calls Tryd.prog 35 #[.string ⟨#[32, 44, 45, 58]⟩, .int .i32 x] w fun e w' => e = .returned (.int .i64 (-1)) ∧ Below w.heap.size w w' := by
  have hv : Lib.validRune (x : Int) = true := by unfold Lib.validRune; rw [decide_eq_true]; omega
  have hne : ((x : Int) == 65533) = false := beq_eq_false_iff_ne.2 (by omega)
  have hV := Tryd.utf8_ValidRune x
  rw [hv] at hV
  clear hv
  have h4 : ¬ (x : Int) < 128 := by omega
  have hE := enc_cases x (by unfold Utf8.valid; simp; omega) (by omega)
  rcases hE with ⟨a, c, hE, hc⟩ | ⟨a, b, c, hE, hc⟩ | ⟨a, b, d, c, hE, hc⟩
  · have g3 : ((((⟨#[32, 44, 45, 58]⟩ : ByteArray)[1]'(by decide)).toNat : Int) != (((⟨#[a, c]⟩ : ByteArray)[1]'(by show 1 < 2; omega)).toNat : Int)) = true := by
      show ((44 : Int) != (c.toNat : Int)) = true
      rw [bne, beq_eq_false_iff_ne.2 (by omega : (44 : Int) ≠ c.toNat)]; rfl
    go_enter Tryd.func35, Tryd.ntmps35
    go_wp2_with fail
    refine (hV _).mono ?_
    rintro e w' ⟨rfl, rfl⟩
    go_wp2_with fail
    go_step3
    go_wp2_with fail
    refine wp_loop_rounds 1 ?_
    rw [rounds_succ]
    go_wp2_with fail
    go_step3
    go_wp2_with fail
    go_quiet (fail)
    have hbq := Go.below_drewN (Below.refl w'.heap.size w') nq
    generalize w'.drewN nq = w2 at hbq ⊢
    go_wp2_with fail
    go_quiet ((go_at_call 41; exact quiet _ (ix_tail [45, 58] c hc (by decide) _ _ (by rfl))))
    go_wp2_with fail
    rw [Exit.noGoto_ret]
    go_wp2_with fail
    rw [Exit.noGoto_ret]
    go_wp2_with fail
    go_ret
    exact ⟨rfl, Go.below_drewN hbq _⟩
  · have g3 : ((((⟨#[32, 44, 45, 58]⟩ : ByteArray)[2]'(by decide)).toNat : Int) != (((⟨#[a, b, c]⟩ : ByteArray)[2]'(by show 2 < 3; omega)).toNat : Int)) = true := by
      show ((45 : Int) != (c.toNat : Int)) = true
      rw [bne, beq_eq_false_iff_ne.2 (by omega : (45 : Int) ≠ c.toNat)]; rfl
    go_enter Tryd.func35, Tryd.ntmps35
    go_wp2_with fail
    refine (hV _).mono ?_
    rintro e w' ⟨rfl, rfl⟩
    go_wp2_with fail
    go_step3
    go_wp2_with fail
    refine wp_loop_rounds 1 ?_
    rw [rounds_succ]
    go_wp2_with fail
    go_step3
    go_wp2_with fail
    go_quiet (fail)
    have hbq := Go.below_drewN (Below.refl w'.heap.size w') nq
    generalize w'.drewN nq = w2 at hbq ⊢
    go_wp2_with fail
    go_quiet ((go_at_call 41; exact quiet _ (ix_tail [58] c hc (by decide) _ _ (by rfl))))
    go_wp2_with fail
    rw [Exit.noGoto_ret]
    go_wp2_with fail
    rw [Exit.noGoto_ret]
    go_wp2_with fail
    go_ret
    exact ⟨rfl, Go.below_drewN hbq _⟩
  · have g3 : ((((⟨#[32, 44, 45, 58]⟩ : ByteArray)[3]'(by decide)).toNat : Int) != (((⟨#[a, b, d, c]⟩ : ByteArray)[3]'(by show 3 < 4; omega)).toNat : Int)) = true := by
      show ((58 : Int) != (c.toNat : Int)) = true
      rw [bne, beq_eq_false_iff_ne.2 (by omega : (58 : Int) ≠ c.toNat)]; rfl
    go_enter Tryd.func35, Tryd.ntmps35
    go_wp2_with fail
    refine (hV _).mono ?_
    rintro e w' ⟨rfl, rfl⟩
    go_wp2_with fail
    go_step3
    go_wp2_with fail
    refine wp_loop_rounds 1 ?_
    rw [rounds_succ]
    go_wp2_with fail
    go_step3
    go_wp2_with fail
    go_quiet (fail)
    have hbq := Go.below_drewN (Below.refl w'.heap.size w') nq
    generalize w'.drewN nq = w2 at hbq ⊢
    go_wp2_with fail
    go_quiet ((go_at_call 41; exact quiet _ (ix_tail [] c hc (by decide) _ _ (by rfl))))
    go_wp2_with fail
    rw [Exit.noGoto_ret]
    go_wp2_with fail
    rw [Exit.noGoto_ret]
    go_wp2_with fail
    go_ret
    exact ⟨rfl, Go.below_drewN hbq _⟩

theorem ix_sep (x : Nat) (h : x < 128) : decide (0 ≤ Lib.indexByte [32, 44, 45, 58] (x : Int).toNat.toUInt8) = Dt.sepR x := by
  have : ∀ x : Fin 128, decide (0 ≤ Lib.indexByte [32, 44, 45, 58] ((x.1 : Nat) : Int).toNat.toUInt8) = Dt.sepR x.1 := by decide +kernel
  exact this ⟨x, h⟩
theorem sep_far (x : Nat) (h : 128 ≤ x) : Dt.sepR x = false := by
  unfold Dt.sepR
  have a : (x == 32) = false := beq_eq_false_iff_ne.2 (by omega)
  have b : (x == 44) = false := beq_eq_false_iff_ne.2 (by omega)
  have c : (x == 45) = false := beq_eq_false_iff_ne.2 (by omega)
  have d : (x == 58) = false := beq_eq_false_iff_ne.2 (by omega)
  rw [a, b, c, d]; rfl

set_option maxHeartbeats 800000 in
theorem containsRune_c (x : Nat) (w : World) (hx : x ≤ 1114111) :
    Calls Tryd.prog 28 #[.string ⟨#[32, 44, 45, 58]⟩, .int .i32 x] w fun e w' => e = .returned (.bool (Dt.sepR x)) ∧ Below w.heap.size w w' := by
  by_cases h : x < 128
  · have hI : Calls Tryd.prog 35 #[.string ⟨#[32, 44, 45, 58]⟩, .int .i32 x] w fun e w' => e = .returned (.int .i64 (Lib.indexByte [32, 44, 45, 58] (x : Int).toNat.toUInt8)) ∧ w' = w := Tryd.strings_IndexRune_ascii _ x w (by omega) (by omega)
    have HS := Lib.hid (ix_sep x h)
    generalize Lib.indexByte [32, 44, 45, 58] (x : Int).toNat.toUInt8 = i at hI HS
    go_enter Tryd.func28, Tryd.ntmps28
    go_wp2_with fail
    refine hI.mono ?_
    rintro e w' ⟨rfl, rfl⟩
    go_wp2_with fail
    go_ret
    exact ⟨ret_bool HS.out, Below.refl _ _⟩
  · have HS := Lib.hid (sep_far x (by omega))
    have hI : Calls Tryd.prog 35 #[.string ⟨#[32, 44, 45, 58]⟩, .int .i32 x] w fun e w' => e = .returned (.int .i64 (-1)) ∧ Below w.heap.size w w' := by
      by_cases h3 : x = 65533
      · subst h3; exact indexRune_err w
      · by_cases h2 : 55296 ≤ x ∧ x ≤ 57343
        · exact indexRune_bad x w h2.1 h2.2
        · exact indexRune_far x w (by omega) (by omega) h3
    go_enter Tryd.func28, Tryd.ntmps28
    go_wp2_with fail
    refine hI.mono ?_
    rintro e w' ⟨rfl, hb⟩
    go_wp2_with fail
    go_ret
    exact ⟨ret_bool HS.out.symm, hb⟩

set_option maxHeartbeats 800000 in
theorem closure_c (x : Nat) (w : World) (hx : x ≤ 1114111) :
    Calls Tryd.prog 27 #[.int .i32 x] w fun e w' => e = .returned (.bool (Dt.sepR x)) ∧ Below w.heap.size w w' := by
  have hI := containsRune_c x w hx
  go_enter Tryd.func27, Tryd.ntmps27
  go_wp2_with fail
  refine hI.mono ?_
  rintro e w' ⟨rfl, hb⟩
  go_wp2_with fail
  go_ret
  exact ⟨rfl, hb⟩
theorem fields_c (s : ByteArray) (w : World) (hs : s.size ≤ 1000) :
    Calls Tryd.prog 26 #[.string s, .func (.func 27) #[] #[]] w fun e w' => ∃ A, e = .returned (.slice (some ⟨A, 0, none⟩) (Lib.goFieldsP Dt.sepR s).length (Lib.goFieldsP Dt.sepR s).length) ∧
      (∀ j (hj : j < (Lib.goFieldsP Dt.sepR s).length), w'.cell? ⟨A, j, none⟩ = some (.string ((Lib.goFieldsP Dt.sepR s)[j]))) ∧ Below w.heap.size w w' := by
  refine (Tryd.strings_FieldsFunc_grows 27 #[] (fun _ _ => rfl) Dt.sepR s w (by omega) (fun W x hx _ => closure_c x W hx)).mono ?_
  rintro e w' ⟨A, rfl, hA, hown, hb⟩
  refine ⟨A, rfl, fun j hj => ?_, hb⟩
  have := hown.cellAt j (by omega)
  rw [this]
  simp [hj]

end Go.Proofs.YtlmcolpoaedclaaDoor
