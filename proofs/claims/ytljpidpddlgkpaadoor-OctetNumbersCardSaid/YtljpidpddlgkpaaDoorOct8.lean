/- Package octet: what digits say: the calls, and the document's own answer. -/
import Derived.Test.YtljpidpddlgkpaaDoorOct7
namespace Go.Proofs.YtljpidpddlgkpaaDoor
open Go.RowKit

set_option maxHeartbeats 400000 in
theorem Number_s (s : ByteArray) (most : Int) (w : World) (hs : s.size ≤ 1000000) (hm1 : -9223372036854775808 ≤ most) (hm2 : most ≤ 9223372036854775807) :
    Calls Tryd.prog 25 #[.string s, .int .i64 most] w fun e w' => e = .returned (.tuple #[.int .i64 (Oct.number 10 most s.data.toList).1, .int .i64 (Oct.number 10 most s.data.toList).2]) ∧ Below w.heap.size w w' := by
  go_enter Tryd.func25, Tryd.ntmps25
  go_wp2_with fail
  refine (reckon10 s most w hs hm1 hm2).mono ?_
  rintro e w1 ⟨rfl, hb⟩
  go_wp2_with fail
  go_ret2
  exact ⟨rfl, hb⟩

set_option maxHeartbeats 400000 in
theorem Hex_s (s : ByteArray) (most : Int) (w : World) (hs : s.size ≤ 1000000) (hm1 : -9223372036854775808 ≤ most) (hm2 : most ≤ 9223372036854775807) :
    Calls Tryd.prog 27 #[.string s, .int .i64 most] w fun e w' => e = .returned (.tuple #[.int .i64 (Oct.number 16 most s.data.toList).1, .int .i64 (Oct.number 16 most s.data.toList).2]) ∧ Below w.heap.size w w' := by
  go_enter Tryd.func27, Tryd.ntmps27
  go_wp2_with fail
  refine (reckon16 s most w hs hm1 hm2).mono ?_
  rintro e w1 ⟨rfl, hb⟩
  go_wp2_with fail
  go_ret2
  exact ⟨rfl, hb⟩

set_option maxHeartbeats 1600000 in
set_option maxRecDepth 100000 in
theorem rNumber10 (s : ByteArray) (most : Int) (w : World) (hs : s.size ≤ 1000000) (hm1 : -9223372036854775808 ≤ most) (hm2 : most ≤ 9223372036854775807) :
    Calls Tryd.prog 26 #[.string s, .int .i64 10, .int .i64 most] w fun e w' => e = .returned (.tuple #[.int .i64 (Oct.number 10 most s.data.toList).1, .int .i64 (Oct.number 10 most s.data.toList).2]) ∧ w = w' := by
  by_cases h0 : 0 < s.size
  case neg =>
    have HR := Lib.hid (Oct.number_empty 10 most s h0)
    have hz0 : s.size = 0 := by omega
    obtain rfl : s = ByteArray.empty := Oct.size_zero s hz0
    go_enter Tryd.func26, Tryd.ntmps26
    go_wp2_with fail
    go_ret2
    exact ⟨ret_pair HR.out, rfl⟩
  have hne : ((s.size : Int) == 0) = false := beq_eq_false_iff_ne.2 (by omega)
  go_enter Tryd.func26, Tryd.ntmps26
  go_wp2_with fail
  go_loop [8] (fun i => ∃ k : Nat, k ≤ s.size ∧ i = .int .i64 k ∧ Hid (Oct.allOf (Oct.dig 10) (s.data.toList.take k) = true)) (fun i => s.size - (intOf i).toNat)
  case atStart => exact ⟨0, by omega, rfl, Lib.hid rfl⟩
  case round =>
    obtain ⟨k, hk, rfl, HA⟩ := hrel
    by_cases hlt : k < s.size
    · by_cases hp : Oct.dig 10 s[k] = true
      · have HN := Lib.hid (Oct.all_snoc (Oct.dig 10) s k hlt)
        have hlt2 := Oct.dig_digit 10 (by decide) hp
        go_wp2_with (go_at_call 41; refine (rDigit_c _ _).mono ?_; rintro e w' ⟨rfl, rfl⟩)
        go_round
        case rel => exact ⟨k + 1, by omega, by go_num, Lib.hid (by rw [HN.out, HA.out, hp]; rfl)⟩
        case measure => simp [intOf]; omega
      · have hp' : Oct.dig 10 s[k] = false := by simpa using hp
        clear hp
        have hge := Oct.digit_dig 10 (by decide) hp'
        have HR := Lib.hid (Oct.number_bad 10 most _ (Oct.all_miss (Oct.dig 10) s k hlt hp'))
        go_wp2_with (go_at_call 41; refine (rDigit_c _ _).mono ?_; rintro e w' ⟨rfl, rfl⟩)
        go_ret2
        exact ⟨ret_pair HR.out, rfl⟩
    · have hd : Oct.allOf (Oct.dig 10) s.data.toList = true := by
        have := HA.out; rwa [Oct.take_all s k (by omega)] at this
      have HDg := Lib.hid hd
      clear hd
      by_cases hm : most < 0
      · have HR := Lib.hid (Oct.number_neg 10 most s h0 HDg.out hm)
        go_wp2_with fail
        go_ret2
        exact ⟨ret_pair HR.out, rfl⟩
      have hm0 : 0 ≤ most := by omega
      have HS := fun n => Lib.hid (@Oct.num_some 10 most s h0 HDg.out hm0 n)
      have HO := Lib.hid (Oct.num_none 10 most s h0 HDg.out hm0)
      clear HA
      go_wp2_with fail
      go_loop [9, 10] (fun x i => ∃ (k : Nat) (n : Int), k ≤ s.size ∧ i = .int .i64 k ∧ x = .int .i64 n ∧ 0 ≤ n ∧ n ≤ most ∧ Hid (Oct.num 10 most 0 s.data.toList = Oct.num 10 most n (s.data.toList.drop k))) (fun _ i => s.size - (intOf i).toNat)
      case atStart => exact ⟨0, 0, by omega, rfl, rfl, by omega, hm0, Lib.hid rfl⟩
      case round =>
        clear hlt hk
        obtain ⟨k, n, hk, rfl, rfl, hn0, hn1, HV⟩ := hrel
        by_cases hlt : k < s.size
        · have hc := (s[k]).toNat_lt
          have HD := Lib.hid (Oct.drop_cons s k hlt)
          have hdk := Oct.all_at (Oct.dig 10) s k hlt HDg.out
          have hwb := Oct.dig_lt 10 hdk
          obtain ⟨d, hdd⟩ : ∃ d : Nat, d = Oct.worth s[k] := ⟨_, rfl⟩
          have hdd2 := hdd.trans (Oct.digit_eq 10 (by decide) hdk)
          rw [← hdd] at hwb
          have HDD := Lib.hid hdd
          have HDE := Lib.hid hdd2
          clear hdd hdd2 hdk
          by_cases hov : most < n * 10 + (d : Int)
          · have HR : Hid (Oct.number 10 most s.data.toList = (0, 12)) := HO.out (by rw [HV.out, HD.out, Oct.num_more _ _ _ _ _ (by rw [← HDD.out]; exact hov)])
            by_cases h1 : most < (d : Int)
            · go_wp2_with (go_at_call 41; refine (rDigit_c _ _).mono ?_; rw [← HDE.out]; rintro e w' ⟨rfl, rfl⟩)
              go_ret2
              exact ⟨ret_pair HR.out, rfl⟩
            · have h2 : (most - (d : Int)) / 10 < n := by omega
              go_wp2_with (go_at_call 41; refine (rDigit_c _ _).mono ?_; rw [← HDE.out]; rintro e w' ⟨rfl, rfl⟩)
              go_ret2
              exact ⟨ret_pair HR.out, rfl⟩
          · have HN : Hid (Oct.num 10 most 0 s.data.toList = Oct.num 10 most (n * 10 + (d : Int)) (s.data.toList.drop (k + 1))) := by
              rw [HV.out, HD.out, Oct.num_on _ _ _ _ _ (by rw [← HDD.out]; exact hov), ← HDD.out]; rfl
            have h1 : (d : Int) ≤ most := by omega
            have h2 : n ≤ (most - (d : Int)) / 10 := by omega
            have h3 : n * 10 ≤ most := by omega
            have h4 : 0 ≤ n * 10 := by omega
            go_wp2_with (go_at_call 41; refine (rDigit_c _ _).mono ?_; rw [← HDE.out]; rintro e w' ⟨rfl, rfl⟩)
            go_round
            case rel => exact ⟨k + 1, n * 10 + (d : Int), by omega, by go_num, rfl, by omega, by omega, HN⟩
            case measure => simp [intOf]; omega
        · have HE : Hid (s.data.toList.drop k = []) := List.drop_of_length_le (by rw [Oct.length_size]; omega)
          have HR : Hid (Oct.number 10 most s.data.toList = (n, 0)) := (HS n).out (by rw [HV.out, HE.out, Oct.num_nil])
          go_wp2_with fail
          go_ret2
          exact ⟨ret_pair HR.out, rfl⟩

set_option maxHeartbeats 1600000 in
set_option maxRecDepth 100000 in
theorem rNumber16 (s : ByteArray) (most : Int) (w : World) (hs : s.size ≤ 1000000) (hm1 : -9223372036854775808 ≤ most) (hm2 : most ≤ 9223372036854775807) :
    Calls Tryd.prog 26 #[.string s, .int .i64 16, .int .i64 most] w fun e w' => e = .returned (.tuple #[.int .i64 (Oct.number 16 most s.data.toList).1, .int .i64 (Oct.number 16 most s.data.toList).2]) ∧ w = w' := by
  by_cases h0 : 0 < s.size
  case neg =>
    have HR := Lib.hid (Oct.number_empty 16 most s h0)
    have hz0 : s.size = 0 := by omega
    obtain rfl : s = ByteArray.empty := Oct.size_zero s hz0
    go_enter Tryd.func26, Tryd.ntmps26
    go_wp2_with fail
    go_ret2
    exact ⟨ret_pair HR.out, rfl⟩
  have hne : ((s.size : Int) == 0) = false := beq_eq_false_iff_ne.2 (by omega)
  go_enter Tryd.func26, Tryd.ntmps26
  go_wp2_with fail
  go_loop [8] (fun i => ∃ k : Nat, k ≤ s.size ∧ i = .int .i64 k ∧ Hid (Oct.allOf (Oct.dig 16) (s.data.toList.take k) = true)) (fun i => s.size - (intOf i).toNat)
  case atStart => exact ⟨0, by omega, rfl, Lib.hid rfl⟩
  case round =>
    obtain ⟨k, hk, rfl, HA⟩ := hrel
    by_cases hlt : k < s.size
    · by_cases hp : Oct.dig 16 s[k] = true
      · have HN := Lib.hid (Oct.all_snoc (Oct.dig 16) s k hlt)
        have hlt2 := Oct.dig_digit 16 (by decide) hp
        go_wp2_with (go_at_call 41; refine (rDigit_c _ _).mono ?_; rintro e w' ⟨rfl, rfl⟩)
        go_round
        case rel => exact ⟨k + 1, by omega, by go_num, Lib.hid (by rw [HN.out, HA.out, hp]; rfl)⟩
        case measure => simp [intOf]; omega
      · have hp' : Oct.dig 16 s[k] = false := by simpa using hp
        clear hp
        have hge := Oct.digit_dig 16 (by decide) hp'
        have HR := Lib.hid (Oct.number_bad 16 most _ (Oct.all_miss (Oct.dig 16) s k hlt hp'))
        go_wp2_with (go_at_call 41; refine (rDigit_c _ _).mono ?_; rintro e w' ⟨rfl, rfl⟩)
        go_ret2
        exact ⟨ret_pair HR.out, rfl⟩
    · have hd : Oct.allOf (Oct.dig 16) s.data.toList = true := by
        have := HA.out; rwa [Oct.take_all s k (by omega)] at this
      have HDg := Lib.hid hd
      clear hd
      by_cases hm : most < 0
      · have HR := Lib.hid (Oct.number_neg 16 most s h0 HDg.out hm)
        go_wp2_with fail
        go_ret2
        exact ⟨ret_pair HR.out, rfl⟩
      have hm0 : 0 ≤ most := by omega
      have HS := fun n => Lib.hid (@Oct.num_some 16 most s h0 HDg.out hm0 n)
      have HO := Lib.hid (Oct.num_none 16 most s h0 HDg.out hm0)
      clear HA
      go_wp2_with fail
      go_loop [9, 10] (fun x i => ∃ (k : Nat) (n : Int), k ≤ s.size ∧ i = .int .i64 k ∧ x = .int .i64 n ∧ 0 ≤ n ∧ n ≤ most ∧ Hid (Oct.num 16 most 0 s.data.toList = Oct.num 16 most n (s.data.toList.drop k))) (fun _ i => s.size - (intOf i).toNat)
      case atStart => exact ⟨0, 0, by omega, rfl, rfl, by omega, hm0, Lib.hid rfl⟩
      case round =>
        clear hlt hk
        obtain ⟨k, n, hk, rfl, rfl, hn0, hn1, HV⟩ := hrel
        by_cases hlt : k < s.size
        · have hc := (s[k]).toNat_lt
          have HD := Lib.hid (Oct.drop_cons s k hlt)
          have hdk := Oct.all_at (Oct.dig 16) s k hlt HDg.out
          have hwb := Oct.dig_lt 16 hdk
          obtain ⟨d, hdd⟩ : ∃ d : Nat, d = Oct.worth s[k] := ⟨_, rfl⟩
          have hdd2 := hdd.trans (Oct.digit_eq 16 (by decide) hdk)
          rw [← hdd] at hwb
          have HDD := Lib.hid hdd
          have HDE := Lib.hid hdd2
          clear hdd hdd2 hdk
          by_cases hov : most < n * 16 + (d : Int)
          · have HR : Hid (Oct.number 16 most s.data.toList = (0, 12)) := HO.out (by rw [HV.out, HD.out, Oct.num_more _ _ _ _ _ (by rw [← HDD.out]; exact hov)])
            by_cases h1 : most < (d : Int)
            · go_wp2_with (go_at_call 41; refine (rDigit_c _ _).mono ?_; rw [← HDE.out]; rintro e w' ⟨rfl, rfl⟩)
              go_ret2
              exact ⟨ret_pair HR.out, rfl⟩
            · have h2 : (most - (d : Int)) / 16 < n := by omega
              go_wp2_with (go_at_call 41; refine (rDigit_c _ _).mono ?_; rw [← HDE.out]; rintro e w' ⟨rfl, rfl⟩)
              go_ret2
              exact ⟨ret_pair HR.out, rfl⟩
          · have HN : Hid (Oct.num 16 most 0 s.data.toList = Oct.num 16 most (n * 16 + (d : Int)) (s.data.toList.drop (k + 1))) := by
              rw [HV.out, HD.out, Oct.num_on _ _ _ _ _ (by rw [← HDD.out]; exact hov), ← HDD.out]; rfl
            have h1 : (d : Int) ≤ most := by omega
            have h2 : n ≤ (most - (d : Int)) / 16 := by omega
            have h3 : n * 16 ≤ most := by omega
            have h4 : 0 ≤ n * 16 := by omega
            go_wp2_with (go_at_call 41; refine (rDigit_c _ _).mono ?_; rw [← HDE.out]; rintro e w' ⟨rfl, rfl⟩)
            go_round
            case rel => exact ⟨k + 1, n * 16 + (d : Int), by omega, by go_num, rfl, by omega, by omega, HN⟩
            case measure => simp [intOf]; omega
        · have HE : Hid (s.data.toList.drop k = []) := List.drop_of_length_le (by rw [Oct.length_size]; omega)
          have HR : Hid (Oct.number 16 most s.data.toList = (n, 0)) := (HS n).out (by rw [HV.out, HE.out, Oct.num_nil])
          go_wp2_with fail
          go_ret2
          exact ⟨ret_pair HR.out, rfl⟩

end Go.Proofs.YtljpidpddlgkpaaDoor
