/- Package octet: whole texts: tokens, values. -/
import Derived.Test.YtljpidpddlgkpaaDoorOct1
import Derived.LoopTactic
namespace Go.Proofs.YtljpidpddlgkpaaDoor
open Go.RowKit

set_option maxHeartbeats 400000 in
theorem every_tok (s : ByteArray) (w : World) (hs : s.size ≤ 1000000) :
    Calls Tryd.prog 30 #[.string s, .func (.func 31) #[] #[]] w fun e w' => e = .returned (.bool (Oct.allOf Oct.tch s.data.toList)) ∧ w = w' := by
  go_enter Tryd.func30, Tryd.ntmps30
  go_wp2_with fail
  go_loop [8] (fun i => ∃ k : Nat, k ≤ s.size ∧ i = .int .i64 k ∧ Hid (Oct.allOf Oct.tch (s.data.toList.take k) = true)) (fun i => s.size - (intOf i).toNat)
  case atStart => exact ⟨0, by omega, rfl, Lib.hid rfl⟩
  case round =>
    obtain ⟨k, hk, rfl, HA⟩ := hrel
    by_cases hlt : k < s.size
    · by_cases hp : Oct.tch s[k] = true
      · have HN := Lib.hid (Oct.all_snoc Oct.tch s k hlt)
        go_wp2_with (go_at_call 31; refine (inToken_c _ _).mono ?_; rintro e w' ⟨rfl, rfl⟩)
        go_round
        case rel => exact ⟨k + 1, by omega, by go_num, Lib.hid (by rw [HN.out, HA.out, hp]; rfl)⟩
        case measure => simp [intOf]; omega
      · have hp' : Oct.tch s[k] = false := by simpa using hp
        clear hp
        have HN := Lib.hid (Oct.all_miss Oct.tch s k hlt hp')
        go_wp2_with (go_at_call 31; refine (inToken_c _ _).mono ?_; rintro e w' ⟨rfl, rfl⟩)
        go_ret
        exact ⟨ret_bool HN.out.symm, rfl⟩
    · have HE := Lib.hid (Oct.take_all s k (by omega))
      go_wp2_with fail
      go_ret
      exact ⟨ret_bool (by rw [← HA.out, HE.out]), rfl⟩

set_option maxHeartbeats 400000 in
theorem every_val (s : ByteArray) (w : World) (hs : s.size ≤ 1000000) :
    Calls Tryd.prog 30 #[.string s, .func (.func 33) #[] #[]] w fun e w' => e = .returned (.bool (Oct.allOf Oct.plain s.data.toList)) ∧ w = w' := by
  go_enter Tryd.func30, Tryd.ntmps30
  go_wp2_with fail
  go_loop [8] (fun i => ∃ k : Nat, k ≤ s.size ∧ i = .int .i64 k ∧ Hid (Oct.allOf Oct.plain (s.data.toList.take k) = true)) (fun i => s.size - (intOf i).toNat)
  case atStart => exact ⟨0, by omega, rfl, Lib.hid rfl⟩
  case round =>
    obtain ⟨k, hk, rfl, HA⟩ := hrel
    by_cases hlt : k < s.size
    · by_cases hp : Oct.plain s[k] = true
      · have HN := Lib.hid (Oct.all_snoc Oct.plain s k hlt)
        go_wp2_with (go_at_call 33; refine (inValue_c _ _).mono ?_; rintro e w' ⟨rfl, rfl⟩)
        go_round
        case rel => exact ⟨k + 1, by omega, by go_num, Lib.hid (by rw [HN.out, HA.out, hp]; rfl)⟩
        case measure => simp [intOf]; omega
      · have hp' : Oct.plain s[k] = false := by simpa using hp
        clear hp
        have HN := Lib.hid (Oct.all_miss Oct.plain s k hlt hp')
        go_wp2_with (go_at_call 33; refine (inValue_c _ _).mono ?_; rintro e w' ⟨rfl, rfl⟩)
        go_ret
        exact ⟨ret_bool HN.out.symm, rfl⟩
    · have HE := Lib.hid (Oct.take_all s k (by omega))
      go_wp2_with fail
      go_ret
      exact ⟨ret_bool (by rw [← HA.out, HE.out]), rfl⟩

set_option maxHeartbeats 400000 in
theorem Token_s (s : ByteArray) (w : World) (hs : s.size ≤ 1000000) :
    Calls Tryd.prog 10 #[.string s] w fun e w' => e = .returned (.bool (Oct.token s.data.toList)) ∧ w = w' := by
  have HT := Lib.hid (Oct.token_str s)
  go_enter Tryd.func10, Tryd.ntmps10
  go_wp2_with (go_at_call 30; refine (every_tok _ _ hs).mono ?_; rintro e w' ⟨rfl, rfl⟩)
  all_goals go_ret
  all_goals exact ⟨ret_bool (by rw [HT.out] <;> first | rfl | simp [*]), rfl⟩

set_option maxHeartbeats 400000 in
theorem rToken_s (s : ByteArray) (w : World) (hs : s.size ≤ 1000000) :
    Calls Tryd.prog 11 #[.string s] w fun e w' => e = .returned (.bool (Oct.token s.data.toList)) ∧ Below w.heap.size w w' := by
  have HT := Lib.hid (Oct.token_size s)
  go_enter Tryd.func11, Tryd.ntmps11
  go_wp2_with fail
  go_loopw [3] (fun i wr => ∃ k : Nat, k ≤ s.size ∧ i = .int .i64 k ∧ Hid (Oct.allOf Oct.tch (s.data.toList.take k) = true) ∧ Below w.heap.size w wr) (fun i _ => s.size - (intOf i).toNat)
  case atStart => exact ⟨0, by omega, rfl, Lib.hid rfl, Below.refl _ _⟩
  case round =>
    obtain ⟨k, hk, rfl, HA, hb⟩ := hrel
    by_cases hlt : k < s.size
    · by_cases hp : Oct.tch s[k] = true
      · have HN := Lib.hid (Oct.all_snoc Oct.tch s k hlt)
        go_wp2_with (go_at_call 32; refine (rTchar_c _ _).mono ?_; rintro e w1 ⟨rfl, hb1⟩)
        go_roundw
        case rel => exact ⟨k + 1, by omega, by go_num, Lib.hid (by rw [HN.out, HA.out, hp]; rfl), hb.trans (hb1.mono hb.size)⟩
        case measure => simp [intOf]; omega
      · have hp' : Oct.tch s[k] = false := by simpa using hp
        clear hp
        have HN := Lib.hid (Oct.all_miss Oct.tch s k hlt hp')
        go_wp2_with (go_at_call 32; refine (rTchar_c _ _).mono ?_; rintro e w1 ⟨rfl, hb1⟩)
        go_ret
        exact ⟨ret_bool (by rw [HT.out, HN.out]; simp), hb.trans (hb1.mono hb.size)⟩
    · have HE := Lib.hid (Oct.take_all s k (by omega))
      go_wp2_with fail
      go_ret
      exact ⟨ret_bool (by rw [HT.out, ← HE.out, HA.out]; simp), hb⟩

end Go.Proofs.YtljpidpddlgkpaaDoor
