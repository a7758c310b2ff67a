/- Package octet: what is left of a text that is trimmed; values; small letters. -/
import Derived.Test.YtljpidpddlgkpaaDoorOct2
import Derived.Test.YtljpidpddlgkpaaDoorOctB
import Derived.Test.YtljpidpddlgkpaaDoorOctMathB
import Derived.Test.YtljpidpddlgkpaaDoorShelf
import Derived.Shelf.Strings.SlTrimAscii
namespace Go.Proofs.YtljpidpddlgkpaaDoor
open Go.RowKit

theorem ret_str {a b : ByteArray} (h : a = b) : Ending.returned (.string a) = .returned (.string b) := by rw [h]

theorem strings_Trim_s (s : ByteArray) (w : World) (hs : s.size ≤ 1000000) :
    Calls Tryd.prog 34 #[.string s, .string ⟨#[32, 9]⟩] w fun e w' => e = .returned (.string (str (Oct.trim s.data.toList))) ∧ Below w.heap.size w w' :=
  Any.strings_Trim_laid Tryd.lays160 (by kernel_rfl) s ⟨#[32, 9]⟩ w (by omega) (by decide) (ascii_of_all (by decide))

set_option maxHeartbeats 400000 in
theorem Clone_s (s : ByteArray) (w : World) (hs : s.size ≤ 1000000) :
    Calls Tryd.prog 37 #[.string s] w fun e w' => e = .returned (.string s) ∧ Below w.heap.size w w' := by
  go_enter Tryd.func37, Tryd.ntmps37
  go_wp2_with (go_at_call 51; refine (Tryd.stringslite_Clone _ _ (by omega)).mono ?_; rintro e w' ⟨rfl, hb⟩)
  go_ret
  exact ⟨rfl, by assumption⟩

set_option maxHeartbeats 400000 in
theorem Trim_s (s : ByteArray) (w : World) (hs : s.size ≤ 1000000) :
    Calls Tryd.prog 14 #[.string s] w fun e w' => e = .returned (.string (str (Oct.trim s.data.toList))) ∧ Below w.heap.size w w' := by
  have hts : (str (Oct.trim s.data.toList)).size ≤ 1000000 := by
    rw [str_size]; have := Oct.trim_len s.data.toList; rw [Oct.length_size] at this; omega
  go_enter Tryd.func14, Tryd.ntmps14
  go_wp2_with fail
  refine (strings_Trim_s s w hs).mono ?_
  rintro e w1 ⟨rfl, hb1⟩
  go_wp2_with fail
  refine (Clone_s _ w1 hts).mono ?_
  rintro e w2 ⟨rfl, hb2⟩
  go_wp2_with fail
  go_ret
  exact ⟨rfl, hb1.trans (hb2.mono hb1.size)⟩

set_option maxHeartbeats 400000 in
theorem rTrim_s (s : ByteArray) (w : World) (hs : s.size ≤ 1000000) :
    Calls Tryd.prog 15 #[.string s] w fun e w' => e = .returned (.string (str (Oct.trim s.data.toList))) ∧ w = w' := by
  go_enter Tryd.func15, Tryd.ntmps15
  go_wp2_with fail
  go_loop [0] (fun v => ∃ t : ByteArray, t.size ≤ s.size ∧ v = .string t ∧ Hid (Oct.dropL t.data.toList = Oct.dropL s.data.toList)) (fun v => Lib.strSize v)
  case atStart => exact ⟨s, by omega, rfl, Lib.hid rfl⟩
  case round =>
    obtain ⟨t, ht, rfl, HD⟩ := hrel
    by_cases h0 : 0 < t.size
    · by_cases hp : Oct.blank t[0] = true
      · have HN := Lib.hid (Oct.dropL_first t h0 hp)
        go_wp2_with (go_at_call 36; refine (rBlank_c _ _).mono ?_; rintro e w' ⟨rfl, rfl⟩)
        go_round
        case rel => exact ⟨t.extract 1 t.size, by simp; omega, rfl, Lib.hid (by rw [HN.out]; exact HD.out)⟩
        case measure => simp [Lib.strSize]; omega
      · have hp' : Oct.blank t[0] = false := by simpa using hp
        clear hp
        have HS := Lib.hid (Oct.dropL_stop t h0 hp')
        go_wp2_with (go_at_call 36; refine (rBlank_c _ _).mono ?_; rintro e w' ⟨rfl, rfl⟩)
        go_loop [0] (fun v => ∃ u : ByteArray, u.size ≤ s.size ∧ v = .string u ∧ Hid (Oct.dropR u.data.toList = Oct.dropR t.data.toList)) (fun v => Lib.strSize v)
        case atStart => exact ⟨t, by omega, rfl, Lib.hid rfl⟩
        case round =>
          obtain ⟨u, hu, rfl, HR⟩ := hrel
          by_cases g0 : 0 < u.size
          · have hi1 : 0 ≤ (u.size : Int) - 1 := by omega
            have hi2 : (u.size : Int) - 1 < u.size := by omega
            by_cases hq : Oct.blank u[u.size - 1] = true
            · have HN := Lib.hid (Oct.dropR_last' u g0 hq)
              go_wp2_with (go_at_call 36; refine (rBlank_c _ _).mono ?_; rintro e w' ⟨rfl, rfl⟩)
              go_round
              case rel => exact ⟨u.extract 0 (u.size - 1), by simp; omega, rfl, Lib.hid (by rw [HN.out]; exact HR.out)⟩
              case measure => simp [Lib.strSize]; omega
            · have hq' : Oct.blank u[u.size - 1] = false := by simpa using hq
              clear hq
              have HN := Lib.hid (Oct.dropR_stop u g0 hq')
              go_wp2_with (go_at_call 36; refine (rBlank_c _ _).mono ?_; rintro e w' ⟨rfl, rfl⟩)
              go_ret
              exact ⟨ret_str (by rw [Oct.trim_eq', ← HD.out, HS.out, ← HR.out, HN.out, str_of]), rfl⟩
          · have HN := Lib.hid (Oct.empty_list u g0)
            go_wp2_with fail
            go_ret
            exact ⟨ret_str (by rw [Oct.trim_eq', ← HD.out, HS.out, ← HR.out, HN.out, Oct.dropR_nil, ← HN.out, str_of]), rfl⟩
    · have HN := Lib.hid (Oct.empty_list t h0)
      have hz : t.size = 0 := by omega
      obtain rfl : t = ByteArray.empty := Oct.size_zero t hz
      go_wp2_with fail
      refine wp_loop_rounds 1 ?_
      rw [rounds_succ]
      go_wp2_with fail
      go_ret
      exact ⟨ret_str (by rw [Oct.trim_eq', ← HD.out]; rfl), rfl⟩

set_option maxHeartbeats 400000 in
theorem Value_s (s : ByteArray) (w : World) (hs : s.size ≤ 1000000) :
    Calls Tryd.prog 12 #[.string s] w fun e w' => e = .returned (.bool (Oct.value s.data.toList)) ∧ Below w.heap.size w w' := by
  have HV := Lib.hid (Oct.value_all s.data.toList)
  by_cases ha : Oct.allOf Oct.plain s.data.toList = true
  · go_enter Tryd.func12, Tryd.ntmps12
    go_wp2_with fail
    refine (every_val s w hs).mono ?_
    rintro e w1 ⟨rfl, rfl⟩
    go_wp2_with (go_at_call 34; refine (strings_Trim_s s w hs).mono ?_; rintro e w2 ⟨rfl, hb⟩)
    go_ret
    exact ⟨ret_bool (by rw [HV.out, ha, str_toList, Lib.toList_data]; rfl), by assumption⟩
  · have ha' : Oct.allOf Oct.plain s.data.toList = false := by simpa using ha
    clear ha
    go_enter Tryd.func12, Tryd.ntmps12
    go_wp2_with fail
    refine (every_val s w hs).mono ?_
    rintro e w1 ⟨rfl, rfl⟩
    go_wp2_with fail
    go_ret
    exact ⟨ret_bool (by rw [HV.out, ha']; rfl), Below.refl _ _⟩

set_option maxHeartbeats 400000 in
theorem rValue_s (s : ByteArray) (w : World) (hs : s.size ≤ 1000000) :
    Calls Tryd.prog 13 #[.string s] w fun e w' => e = .returned (.bool (Oct.value s.data.toList)) ∧ w = w' := by
  have HV := Lib.hid (Oct.value_all s.data.toList)
  go_enter Tryd.func13, Tryd.ntmps13
  go_wp2_with fail
  go_loop [3] (fun i => ∃ k : Nat, k ≤ s.size ∧ i = .int .i64 k ∧ Hid (Oct.allOf Oct.plain (s.data.toList.take k) = true)) (fun i => s.size - (intOf i).toNat)
  case atStart => exact ⟨0, by omega, rfl, Lib.hid rfl⟩
  case round =>
    obtain ⟨k, hk, rfl, HA⟩ := hrel
    by_cases hlt : k < s.size
    · by_cases hp : Oct.plain s[k] = true
      · have HN := Lib.hid (Oct.all_snoc Oct.plain s k hlt)
        go_wp2_with (go_at_call 35; refine (rPlain_c _ _).mono ?_; rintro e w' ⟨rfl, rfl⟩)
        go_round
        case rel => exact ⟨k + 1, by omega, by go_num, Lib.hid (by rw [HN.out, HA.out, hp]; rfl)⟩
        case measure => simp [intOf]; omega
      · have hp' : Oct.plain s[k] = false := by simpa using hp
        clear hp
        have HN := Lib.hid (Oct.all_miss Oct.plain s k hlt hp')
        go_wp2_with (go_at_call 35; refine (rPlain_c _ _).mono ?_; rintro e w' ⟨rfl, rfl⟩)
        go_ret
        exact ⟨ret_bool (by rw [HV.out, HN.out]; rfl), rfl⟩
    · have HE := Lib.hid (Oct.take_all s k (by omega))
      have HF : Hid (Oct.allOf Oct.plain s.data.toList = true) := by rw [← HE.out]; exact HA.out
      by_cases hz : 0 < s.size
      · have HG := Lib.hid (Oct.value_ends s hz)
        have hne : ((s.size : Int) == 0) = false := beq_eq_false_iff_ne.2 (by omega)
        have hne' : ¬ s = ByteArray.empty := fun e => by rw [e] at hz; exact absurd hz (by decide)
        by_cases hp : Oct.blank s[0] = true
        · go_wp2_with (go_at_call 36; refine (rBlank_c _ _).mono ?_; rintro e w' ⟨rfl, rfl⟩)
          go_ret
          exact ⟨ret_bool (by rw [HV.out, HF.out, HG.out, hp]; rfl), rfl⟩
        · have hp' : Oct.blank s[0] = false := by simpa using hp
          clear hp
          have hi1 : 0 ≤ (s.size : Int) - 1 := by omega
          have hi2 : (s.size : Int) - 1 < s.size := by omega
          go_wp2_with (go_at_call 36; refine (rBlank_c _ _).mono ?_; rintro e w' ⟨rfl, rfl⟩)
          go_ret
          exact ⟨ret_bool (by rw [HV.out, HF.out, HG.out, hp']; simp), rfl⟩
      · have hz0 : s.size = 0 := by omega
        obtain rfl : s = ByteArray.empty := Oct.size_zero s hz0
        go_wp2_with fail
        go_ret
        exact ⟨rfl, rfl⟩
end Go.Proofs.YtljpidpddlgkpaaDoor
