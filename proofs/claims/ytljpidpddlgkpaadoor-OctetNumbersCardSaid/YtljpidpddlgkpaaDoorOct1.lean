/- Package octet, the functions of one octet. -/
import Derived.Test.YtljpidpddlgkpaaDoorProg
import Derived.Test.YtljpidpddlgkpaaDoorOctMath
import Derived.WalkKit
import Derived.WalkLawsBesides
import Derived.WalkSpells
import Derived.BigQuiet
import Derived.Laws.Externs
import Derived.Test.YtljpidpddlgkpaaDoorShelf
namespace Go.Proofs.YtljpidpddlgkpaaDoor
open Go.RowKit

theorem ret_bool {a b : Bool} (h : a = b) : Ending.returned (.bool a) = .returned (.bool b) := by rw [h]
theorem ret_int {k : IntKind} {a b : Int} (h : a = b) : Ending.returned (.int k a) = .returned (.int k b) := by rw [h]

set_option maxHeartbeats 400000 in
theorem inValue_c (c : UInt8) (w : World) :
    Calls Tryd.prog 33 #[.int .u8 c.toNat] w fun e w' => e = .returned (.bool (Oct.plain c)) ∧ w = w' := by
  have hc := c.toNat_lt
  go_enter Tryd.func33, Tryd.ntmps33
  go_wp2
  all_goals go_ret
  all_goals exact ⟨ret_bool (by rw [Oct.plain_int, Bool.eq_iff_iff] <;> first | (simp; done) | (simp; omega)), rfl⟩

set_option maxHeartbeats 400000 in
theorem rPlain_c (c : UInt8) (w : World) :
    Calls Tryd.prog 35 #[.int .u8 c.toNat] w fun e w' => e = .returned (.bool (Oct.plain c)) ∧ w = w' := by
  have hc := c.toNat_lt
  go_enter Tryd.func35, Tryd.ntmps35
  go_wp2
  all_goals go_ret
  all_goals exact ⟨ret_bool (by rw [Oct.plain_int, Bool.eq_iff_iff] <;> first | (simp; done) | (simp; omega)), rfl⟩

set_option maxHeartbeats 400000 in
theorem rBlank_c (c : UInt8) (w : World) :
    Calls Tryd.prog 36 #[.int .u8 c.toNat] w fun e w' => e = .returned (.bool (Oct.blank c)) ∧ w = w' := by
  have hc := c.toNat_lt
  go_enter Tryd.func36, Tryd.ntmps36
  go_wp2
  all_goals go_ret
  all_goals exact ⟨ret_bool (by rw [Oct.blank_int, Bool.eq_iff_iff] <;> first | (simp; done) | (simp; omega)), rfl⟩

set_option maxHeartbeats 400000 in
theorem worth_c (c : UInt8) (w : World) :
    Calls Tryd.prog 54 #[.int .u8 c.toNat] w fun e w' => e = .returned (.int .i64 (Oct.worth c)) ∧ w = w' := by
  have hc := c.toNat_lt
  go_enter Tryd.func54, Tryd.ntmps54
  go_wp2
  all_goals go_ret
  all_goals exact ⟨ret_int (by unfold Oct.worth; (repeat' split) <;> omega), rfl⟩

set_option maxHeartbeats 400000 in
theorem rDigit_c (c : UInt8) (w : World) :
    Calls Tryd.prog 41 #[.int .u8 c.toNat] w fun e w' => e = .returned (.int .i64 (Oct.digit c)) ∧ w = w' := by
  have hc := c.toNat_lt
  go_enter Tryd.func41, Tryd.ntmps41
  go_wp2
  all_goals go_ret
  all_goals exact ⟨ret_int (by unfold Oct.digit; (repeat' split) <;> omega), rfl⟩


theorem marks_at (j : Nat) (h : j < 15) (w : World) (T : TypeId) : (w.alloc (.cells #[.int .u8 33, .int .u8 35, .int .u8 36, .int .u8 37, .int .u8 38, .int .u8 39, .int .u8 42, .int .u8 43, .int .u8 45, .int .u8 46, .int .u8 94, .int .u8 95, .int .u8 96, .int .u8 124, .int .u8 126] T)).cell? ⟨w.heap.size, j, none⟩ = some (.int .u8 (Oct.marks.getD j 0).toNat) := by
  rw [World.cell?_alloc_at _ _ _ _ rfl]
  rcases j with _ | _ | _ | _ | _ | _ | _ | _ | _ | _ | _ | _ | _ | _ | _ | j
  all_goals first | rfl | omega

set_option maxHeartbeats 800000 in
theorem rTchar_c (c : UInt8) (w : World) :
    Calls Tryd.prog 32 #[.int .u8 c.toNat] w fun e w' => e = .returned (.bool (Oct.tch c)) ∧ Below w.heap.size w w' := by
  have hc := c.toNat_lt
  by_cases ha : Oct.alnum c = true
  · have ht : Oct.tch c = true := by unfold Oct.tch; rw [ha]; rfl
    rw [ht]; clear ht
    rw [Oct.alnum_int] at ha
    simp only [Bool.or_eq_true, Bool.and_eq_true, decide_eq_true_eq] at ha
    rcases ha with (⟨h1, h2⟩ | ⟨h1, h2⟩) | ⟨h1, h2⟩
    all_goals
      go_enter Tryd.func32, Tryd.ntmps32
      go_wp2
      go_ret
      exact ⟨rfl, Below.refl _ _⟩
  · have HA := Lib.hid (show Oct.alnum c = false by simpa using ha)
    rw [Oct.alnum_int] at ha
    have hm := fun j h => marks_at j h w 5
    have hr : ((c.toNat : Int) < 48) ∨ (57 < (c.toNat : Int) ∧ (c.toNat : Int) < 65) ∨ (90 < (c.toNat : Int) ∧ (c.toNat : Int) < 97) ∨ (122 < (c.toNat : Int)) := by
      simp at ha; omega
    clear ha
    rcases hr with h1 | ⟨h1, h2⟩ | ⟨h1, h2⟩ | h1
    all_goals
      go_enter Tryd.func32, Tryd.ntmps32
      go_wp2
      go_loop [4] (fun i => ∃ k : Nat, k ≤ 15 ∧ i = .int .i64 k ∧ ∀ j, j < k → Oct.marks.getD j 0 ≠ c) (fun i => 15 - (intOf i).toNat)
      case atStart => exact ⟨0, by omega, rfl, fun j hj => by omega⟩
      case round =>
        obtain ⟨k, hk, rfl, hno⟩ := hrel
        have HN := Lib.hid hno
        clear hno
        by_cases hlt : k < 15
        · have hcell := hm k hlt
          clear hm
          by_cases heq : Oct.marks.getD k 0 = c
          · rw [heq] at hcell
            go_wp2
            go_ret
            exact ⟨ret_bool (Oct.marks_hit hlt heq), (Below.refl _ _).alloc (Nat.le_refl _) _⟩
          · have hne : (((Oct.marks.getD k 0).toNat : Int) == (c.toNat : Int)) = false := by
              rw [← Oct.nat8]; simpa using heq
            obtain ⟨x, hx⟩ : ∃ x, x = (Oct.marks.getD k 0).toNat := ⟨_, rfl⟩
            rw [← hx] at hcell hne
            have HX := Lib.hid hx
            clear hx
            go_wp2
            go_round
            case rel => exact ⟨k + 1, by omega, by go_num, fun j hj => by
              by_cases hjk : j = k
              · rw [hjk]; exact heq
              · exact HN.out j (by omega)⟩
            case measure => simp [intOf]; omega
        · clear hm
          go_wp2
          go_ret
          exact ⟨ret_bool (Oct.marks_miss HA.out (fun j hj => HN.out j (by omega))), (Below.refl _ _).alloc (Nat.le_refl _) _⟩

set_option maxHeartbeats 800000 in
theorem inToken_c (c : UInt8) (w : World) :
    Calls Tryd.prog 31 #[.int .u8 c.toNat] w fun e w' => e = .returned (.bool (Oct.tch c)) ∧ w = w' := by
  have hc := c.toNat_lt
  by_cases ha : Oct.alnum c = true
  · have ht : Oct.tch c = true := by unfold Oct.tch; rw [ha]; rfl
    rw [ht]; clear ht
    rw [Oct.alnum_int] at ha
    simp only [Bool.or_eq_true, Bool.and_eq_true, decide_eq_true_eq] at ha
    rcases ha with (⟨h1, h2⟩ | ⟨h1, h2⟩) | ⟨h1, h2⟩
    all_goals
      go_enter Tryd.func31, Tryd.ntmps31
      go_wp2
      go_ret
      exact ⟨rfl, rfl⟩
  · have HX := Lib.hid (Oct.marks_ix (c := c) (by simpa using ha))
    rw [Oct.alnum_int] at ha
    have hr : ((c.toNat : Int) < 48) ∨ (57 < (c.toNat : Int) ∧ (c.toNat : Int) < 65) ∨ (90 < (c.toNat : Int) ∧ (c.toNat : Int) < 97) ∨ (122 < (c.toNat : Int)) := by
      simp at ha; omega
    clear ha
    rcases hr with h1 | ⟨h1, h2⟩ | ⟨h1, h2⟩ | h1
    all_goals
      go_enter Tryd.func31, Tryd.ntmps31
      go_wp2_with (go_at_call 43; refine (Tryd.strings_IndexByte _ _ _).mono ?_; rintro e w' ⟨rfl, rfl⟩)
      go_ret
      exact ⟨ret_bool (by rw [HX.out] <;> first | rfl | (simp; intro h; omega)), rfl⟩

end Go.Proofs.YtljpidpddlgkpaaDoor
