/- What lies below, out of the texts of the layers under this one: Oct1, Oct10, Oct11, Oct12, Oct13, Oct14, Oct15, Oct16, Oct17, Oct18, Oct19, Oct2, Oct20, Oct3, Oct4, Oct5, Oct6, Oct7, Oct8, Oct9, OctA, OctB, OctMath, OctMathB, OctMathC, OctMathD, OctMathE, OctMathF, OctMathG, OctS. -/
import Derived.Test.YtoanelobggledaaGreatDoorProg
import Derived.Test.YtoanelobggledaaGreatDoorZM1
import Derived.Test.YtoanelobggledaaGreatDoorYM1
import Derived.Test.YtoanelobggledaaGreatDoorZOctBase
import Derived.BigQuiet
import Derived.Deep.QuietTactic
import Derived.Ground.SlbCloneProg
import Derived.Laws.Externs
import Derived.Lib.BufferRead
import Derived.Lib.Bytealg
import Derived.Lib.Hide
import Derived.Lib.ItoaNum
import Derived.Lib.SlTrimSet
import Derived.Lib.UnsafeStr
import Derived.LoopTactic
import Derived.Shelf.Bytes.SlClone
import Derived.Shelf.LaysM
import Derived.Shelf.Slices.CompactS
import Derived.Shelf.Slices.In.SortNone
import Derived.Shelf.Small.Bits
import Derived.Shelf.Small.Strs
import Derived.Shelf.Small.Utf8
import Derived.Shelf.Small.Wraps
import Derived.Shelf.Sort.Plain
import Derived.Shelf.Spec.TrailingZeros
import Derived.Shelf.Strconv.Clone
import Derived.Shelf.Strconv.Itoa0
import Derived.Shelf.Strconv.Itoa1
import Derived.Shelf.Strconv.Itoa2
import Derived.Shelf.Strconv.Itoa3
import Derived.Shelf.Strconv.Itoa4
import Derived.Shelf.Strings.AsciiSet
import Derived.Shelf.Strings.Builder1
import Derived.Shelf.Strings.Builder2
import Derived.Shelf.Strings.Count
import Derived.Shelf.Strings.Cut
import Derived.Shelf.Strings.FieldsFuncAny
import Derived.Shelf.Strings.FieldsFuncGrows
import Derived.Shelf.Strings.IndexAny
import Derived.Shelf.Strings.IndexAnyAll
import Derived.Shelf.Strings.LastIndex
import Derived.Shelf.Strings.OnBuilder
import Derived.Shelf.Strings.Prefix
import Derived.Shelf.Strings.Runes
import Derived.Shelf.Strings.Search1
import Derived.Shelf.Strings.Search2
import Derived.Shelf.Strings.Search3
import Derived.Shelf.Strings.Shaped
import Derived.Shelf.Strings.SlTrimAscii
import Derived.Shelf.Strings.Split
import Derived.Shelf.Strings.SplitShaped
import Derived.Shelf.Strings.Trim
import Derived.Shelf.Unicode.CaseConvert
import Derived.Shelf.Unicode.CaseLaid
import Derived.Shelf.Unicode.CaseLookup
import Derived.Shelf.Unicode.CaseTo
import Derived.Shelf.Unicode.DecodeAny
import Derived.Shelf.Unicode.DecodeLast
import Derived.Shelf.Unicode.DecodeSlow
import Derived.Shelf.Unicode.Latin
import Derived.SliceStrings
import Derived.WalkKit
import Derived.WalkLawsBesides
import Derived.WalkSpells
namespace Go.Proofs.YtoanelobggledaaGreatDoor
open Go.RowKit

theorem str_inj {a b : List UInt8} (h : str a = str b) : a = b := by rw [← str_list a, h, str_list]
theorem Buf.drew {W w : World} {v : Value} {l : List UInt8} (h : Buf W w v l) : Buf W w.drew v l := ⟨h.1, h.2.drew⟩
end Go.Proofs.YtoanelobggledaaGreatDoor

namespace Go.Proofs.YtoanelobggledaaGreatDoor
open Go.RowKit

set_option maxHeartbeats 400000 in
theorem rDigit_c (c : UInt8) (w : World) :
    Calls Tryz.prog 190 #[.int .u8 c.toNat] w fun e w' => e = .returned (.int .i64 (Oct.digit c)) ∧ w = w' := by
  have hc := c.toNat_lt
  go_enter Tryz.func190, Tryz.ntmps190
  go_wp2
  all_goals go_ret
  all_goals exact ⟨ret_int (by unfold Oct.digit; (repeat' split) <;> omega), rfl⟩
end Go.Proofs.YtoanelobggledaaGreatDoor

namespace Go.Proofs.YtoanelobggledaaGreatDoor
open Go.RowKit

end Go.Proofs.YtoanelobggledaaGreatDoor

namespace Go.Proofs.YtoanelobggledaaGreatDoor
open Go.RowKit

end Go.Proofs.YtoanelobggledaaGreatDoor

namespace Go.Proofs.YtoanelobggledaaGreatDoor
open Go.RowKit

end Go.Proofs.YtoanelobggledaaGreatDoor

namespace Go.Proofs.YtoanelobggledaaGreatDoor
open Go.RowKit

end Go.Proofs.YtoanelobggledaaGreatDoor

namespace Go.Proofs.YtoanelobggledaaGreatDoor
open Go.RowKit

end Go.Proofs.YtoanelobggledaaGreatDoor

namespace Go.Proofs.YtoanelobggledaaGreatDoor
open Go.RowKit

set_option maxHeartbeats 1600000 in
set_option maxRecDepth 100000 in
theorem rNumber10 (s : ByteArray) (most : Int) (w : World) (hs : s.size ≤ 1000000) (hm1 : -9223372036854775808 ≤ most) (hm2 : most ≤ 9223372036854775807) :
    Calls Tryz.prog 145 #[.string s, .int .i64 10, .int .i64 most] w fun e w' => e = .returned (.tuple #[.int .i64 (Oct.number 10 most s.data.toList).1, .int .i64 (Oct.number 10 most s.data.toList).2]) ∧ w = w' := by
  by_cases h0 : 0 < s.size
  case neg =>
    have HR := Lib.hid (Oct.number_empty 10 most s h0)
    have hz0 : s.size = 0 := by omega
    obtain rfl : s = ByteArray.empty := Oct.size_zero s hz0
    go_enter Tryz.func145, Tryz.ntmps145
    go_wp2_with fail
    go_ret2
    exact ⟨ret_pair HR.out, rfl⟩
  have hne : ((s.size : Int) == 0) = false := beq_eq_false_iff_ne.2 (by omega)
  go_enter Tryz.func145, Tryz.ntmps145
  go_wp2_with fail
  go_loop [8] (fun i => ∃ k : Nat, k ≤ s.size ∧ i = .int .i64 k ∧ Hid (Oct.allOf (Oct.dig 10) (s.data.toList.take k) = true)) (fun i => s.size - (intOf i).toNat)
  case atStart => exact ⟨0, by omega, rfl, Lib.hid rfl⟩
  case round =>
    obtain ⟨k, hk, rfl, HA⟩ := hrel
    by_cases hlt : k < s.size
    · by_cases hp : Oct.dig 10 s[k] = true
      · have HN := Lib.hid (Oct.all_snoc (Oct.dig 10) s k hlt)
        have hlt2 := Oct.dig_digit 10 (by decide) hp
        go_wp2_with (go_at_call 190; refine (rDigit_c _ _).mono ?_; rintro e w' ⟨rfl, rfl⟩)
        go_round
        case rel => exact ⟨k + 1, by omega, by go_num, Lib.hid (by rw [HN.out, HA.out, hp]; rfl)⟩
        case measure => simp [intOf]; omega
      · have hp' : Oct.dig 10 s[k] = false := by simpa using hp
        clear hp
        have hge := Oct.digit_dig 10 (by decide) hp'
        have HR := Lib.hid (Oct.number_bad 10 most _ (Oct.all_miss (Oct.dig 10) s k hlt hp'))
        go_wp2_with (go_at_call 190; refine (rDigit_c _ _).mono ?_; rintro e w' ⟨rfl, rfl⟩)
        go_ret2
        exact ⟨ret_pair HR.out, rfl⟩
    · have hd : Oct.allOf (Oct.dig 10) s.data.toList = true := by
        have := HA.out; rwa [Oct.take_all s k (by omega)] at this
      have HDg := Lib.hid hd
      clear hd
      by_cases hm : most < 0
      · have HR := Lib.hid (Oct.number_neg 10 most s h0 HDg.out hm)
        go_wp2_with fail
        go_ret2
        exact ⟨ret_pair HR.out, rfl⟩
      have hm0 : 0 ≤ most := by omega
      have HS := fun n => Lib.hid (@Oct.num_some 10 most s h0 HDg.out hm0 n)
      have HO := Lib.hid (Oct.num_none 10 most s h0 HDg.out hm0)
      clear HA
      go_wp2_with fail
      go_loop [9, 10] (fun x i => ∃ (k : Nat) (n : Int), k ≤ s.size ∧ i = .int .i64 k ∧ x = .int .i64 n ∧ 0 ≤ n ∧ n ≤ most ∧ Hid (Oct.num 10 most 0 s.data.toList = Oct.num 10 most n (s.data.toList.drop k))) (fun _ i => s.size - (intOf i).toNat)
      case atStart => exact ⟨0, 0, by omega, rfl, rfl, by omega, hm0, Lib.hid rfl⟩
      case round =>
        clear hlt hk
        obtain ⟨k, n, hk, rfl, rfl, hn0, hn1, HV⟩ := hrel
        by_cases hlt : k < s.size
        · have hc := (s[k]).toNat_lt
          have HD := Lib.hid (Oct.drop_cons s k hlt)
          have hdk := Oct.all_at (Oct.dig 10) s k hlt HDg.out
          have hwb := Oct.dig_lt 10 hdk
          obtain ⟨d, hdd⟩ : ∃ d : Nat, d = Oct.worth s[k] := ⟨_, rfl⟩
          have hdd2 := hdd.trans (Oct.digit_eq 10 (by decide) hdk)
          rw [← hdd] at hwb
          have HDD := Lib.hid hdd
          have HDE := Lib.hid hdd2
          clear hdd hdd2 hdk
          by_cases hov : most < n * 10 + (d : Int)
          · have HR : Hid (Oct.number 10 most s.data.toList = (0, 12)) := HO.out (by rw [HV.out, HD.out, Oct.num_more _ _ _ _ _ (by rw [← HDD.out]; exact hov)])
            by_cases h1 : most < (d : Int)
            · go_wp2_with (go_at_call 190; refine (rDigit_c _ _).mono ?_; rw [← HDE.out]; rintro e w' ⟨rfl, rfl⟩)
              go_ret2
              exact ⟨ret_pair HR.out, rfl⟩
            · have h2 : (most - (d : Int)) / 10 < n := by omega
              go_wp2_with (go_at_call 190; refine (rDigit_c _ _).mono ?_; rw [← HDE.out]; rintro e w' ⟨rfl, rfl⟩)
              go_ret2
              exact ⟨ret_pair HR.out, rfl⟩
          · have HN : Hid (Oct.num 10 most 0 s.data.toList = Oct.num 10 most (n * 10 + (d : Int)) (s.data.toList.drop (k + 1))) := by
              rw [HV.out, HD.out, Oct.num_on _ _ _ _ _ (by rw [← HDD.out]; exact hov), ← HDD.out]; rfl
            have h1 : (d : Int) ≤ most := by omega
            have h2 : n ≤ (most - (d : Int)) / 10 := by omega
            have h3 : n * 10 ≤ most := by omega
            have h4 : 0 ≤ n * 10 := by omega
            go_wp2_with (go_at_call 190; refine (rDigit_c _ _).mono ?_; rw [← HDE.out]; rintro e w' ⟨rfl, rfl⟩)
            go_round
            case rel => exact ⟨k + 1, n * 10 + (d : Int), by omega, by go_num, rfl, by omega, by omega, HN⟩
            case measure => simp [intOf]; omega
        · have HE : Hid (s.data.toList.drop k = []) := List.drop_of_length_le (by rw [Oct.length_size]; omega)
          have HR : Hid (Oct.number 10 most s.data.toList = (n, 0)) := (HS n).out (by rw [HV.out, HE.out, Oct.num_nil])
          go_wp2_with fail
          go_ret2
          exact ⟨ret_pair HR.out, rfl⟩
set_option maxHeartbeats 1600000 in
set_option maxRecDepth 100000 in
theorem rNumber16 (s : ByteArray) (most : Int) (w : World) (hs : s.size ≤ 1000000) (hm1 : -9223372036854775808 ≤ most) (hm2 : most ≤ 9223372036854775807) :
    Calls Tryz.prog 145 #[.string s, .int .i64 16, .int .i64 most] w fun e w' => e = .returned (.tuple #[.int .i64 (Oct.number 16 most s.data.toList).1, .int .i64 (Oct.number 16 most s.data.toList).2]) ∧ w = w' := by
  by_cases h0 : 0 < s.size
  case neg =>
    have HR := Lib.hid (Oct.number_empty 16 most s h0)
    have hz0 : s.size = 0 := by omega
    obtain rfl : s = ByteArray.empty := Oct.size_zero s hz0
    go_enter Tryz.func145, Tryz.ntmps145
    go_wp2_with fail
    go_ret2
    exact ⟨ret_pair HR.out, rfl⟩
  have hne : ((s.size : Int) == 0) = false := beq_eq_false_iff_ne.2 (by omega)
  go_enter Tryz.func145, Tryz.ntmps145
  go_wp2_with fail
  go_loop [8] (fun i => ∃ k : Nat, k ≤ s.size ∧ i = .int .i64 k ∧ Hid (Oct.allOf (Oct.dig 16) (s.data.toList.take k) = true)) (fun i => s.size - (intOf i).toNat)
  case atStart => exact ⟨0, by omega, rfl, Lib.hid rfl⟩
  case round =>
    obtain ⟨k, hk, rfl, HA⟩ := hrel
    by_cases hlt : k < s.size
    · by_cases hp : Oct.dig 16 s[k] = true
      · have HN := Lib.hid (Oct.all_snoc (Oct.dig 16) s k hlt)
        have hlt2 := Oct.dig_digit 16 (by decide) hp
        go_wp2_with (go_at_call 190; refine (rDigit_c _ _).mono ?_; rintro e w' ⟨rfl, rfl⟩)
        go_round
        case rel => exact ⟨k + 1, by omega, by go_num, Lib.hid (by rw [HN.out, HA.out, hp]; rfl)⟩
        case measure => simp [intOf]; omega
      · have hp' : Oct.dig 16 s[k] = false := by simpa using hp
        clear hp
        have hge := Oct.digit_dig 16 (by decide) hp'
        have HR := Lib.hid (Oct.number_bad 16 most _ (Oct.all_miss (Oct.dig 16) s k hlt hp'))
        go_wp2_with (go_at_call 190; refine (rDigit_c _ _).mono ?_; rintro e w' ⟨rfl, rfl⟩)
        go_ret2
        exact ⟨ret_pair HR.out, rfl⟩
    · have hd : Oct.allOf (Oct.dig 16) s.data.toList = true := by
        have := HA.out; rwa [Oct.take_all s k (by omega)] at this
      have HDg := Lib.hid hd
      clear hd
      by_cases hm : most < 0
      · have HR := Lib.hid (Oct.number_neg 16 most s h0 HDg.out hm)
        go_wp2_with fail
        go_ret2
        exact ⟨ret_pair HR.out, rfl⟩
      have hm0 : 0 ≤ most := by omega
      have HS := fun n => Lib.hid (@Oct.num_some 16 most s h0 HDg.out hm0 n)
      have HO := Lib.hid (Oct.num_none 16 most s h0 HDg.out hm0)
      clear HA
      go_wp2_with fail
      go_loop [9, 10] (fun x i => ∃ (k : Nat) (n : Int), k ≤ s.size ∧ i = .int .i64 k ∧ x = .int .i64 n ∧ 0 ≤ n ∧ n ≤ most ∧ Hid (Oct.num 16 most 0 s.data.toList = Oct.num 16 most n (s.data.toList.drop k))) (fun _ i => s.size - (intOf i).toNat)
      case atStart => exact ⟨0, 0, by omega, rfl, rfl, by omega, hm0, Lib.hid rfl⟩
      case round =>
        clear hlt hk
        obtain ⟨k, n, hk, rfl, rfl, hn0, hn1, HV⟩ := hrel
        by_cases hlt : k < s.size
        · have hc := (s[k]).toNat_lt
          have HD := Lib.hid (Oct.drop_cons s k hlt)
          have hdk := Oct.all_at (Oct.dig 16) s k hlt HDg.out
          have hwb := Oct.dig_lt 16 hdk
          obtain ⟨d, hdd⟩ : ∃ d : Nat, d = Oct.worth s[k] := ⟨_, rfl⟩
          have hdd2 := hdd.trans (Oct.digit_eq 16 (by decide) hdk)
          rw [← hdd] at hwb
          have HDD := Lib.hid hdd
          have HDE := Lib.hid hdd2
          clear hdd hdd2 hdk
          by_cases hov : most < n * 16 + (d : Int)
          · have HR : Hid (Oct.number 16 most s.data.toList = (0, 12)) := HO.out (by rw [HV.out, HD.out, Oct.num_more _ _ _ _ _ (by rw [← HDD.out]; exact hov)])
            by_cases h1 : most < (d : Int)
            · go_wp2_with (go_at_call 190; refine (rDigit_c _ _).mono ?_; rw [← HDE.out]; rintro e w' ⟨rfl, rfl⟩)
              go_ret2
              exact ⟨ret_pair HR.out, rfl⟩
            · have h2 : (most - (d : Int)) / 16 < n := by omega
              go_wp2_with (go_at_call 190; refine (rDigit_c _ _).mono ?_; rw [← HDE.out]; rintro e w' ⟨rfl, rfl⟩)
              go_ret2
              exact ⟨ret_pair HR.out, rfl⟩
          · have HN : Hid (Oct.num 16 most 0 s.data.toList = Oct.num 16 most (n * 16 + (d : Int)) (s.data.toList.drop (k + 1))) := by
              rw [HV.out, HD.out, Oct.num_on _ _ _ _ _ (by rw [← HDD.out]; exact hov), ← HDD.out]; rfl
            have h1 : (d : Int) ≤ most := by omega
            have h2 : n ≤ (most - (d : Int)) / 16 := by omega
            have h3 : n * 16 ≤ most := by omega
            have h4 : 0 ≤ n * 16 := by omega
            go_wp2_with (go_at_call 190; refine (rDigit_c _ _).mono ?_; rw [← HDE.out]; rintro e w' ⟨rfl, rfl⟩)
            go_round
            case rel => exact ⟨k + 1, n * 16 + (d : Int), by omega, by go_num, rfl, by omega, by omega, HN⟩
            case measure => simp [intOf]; omega
        · have HE : Hid (s.data.toList.drop k = []) := List.drop_of_length_le (by rw [Oct.length_size]; omega)
          have HR : Hid (Oct.number 16 most s.data.toList = (n, 0)) := (HS n).out (by rw [HV.out, HE.out, Oct.num_nil])
          go_wp2_with fail
          go_ret2
          exact ⟨ret_pair HR.out, rfl⟩
end Go.Proofs.YtoanelobggledaaGreatDoor

namespace Go.Proofs.YtoanelobggledaaGreatDoor
open Go.RowKit

def sameL (xs ys : List (List UInt8)) : Bool := decide (xs = ys)
theorem sameL_self (xs : List (List UInt8)) : sameL xs xs = true := by simp [sameL]
theorem sameL_len {xs ys : List (List UInt8)} (h : ¬ xs.length = ys.length) : false = sameL xs ys := by
  unfold sameL; rw [decide_eq_false]; intro e; rw [e] at h; exact h rfl
theorem sameL_at {xs ys : List (List UInt8)} {k : Nat} (h1 : k < xs.length) (h2 : k < ys.length) (h : ¬ xs[k] = ys[k]) : false = sameL xs ys := by
  unfold sameL; rw [decide_eq_false]; intro e; subst e; exact h rfl
theorem same_step {xs ys : List (List UInt8)} {k : Nat} (h1 : k < xs.length) (h2 : k < ys.length) (h : xs.take k = ys.take k) (he : xs[k] = ys[k]) : xs.take (k + 1) = ys.take (k + 1) := by
  rw [List.take_succ_eq_append_getElem h1, List.take_succ_eq_append_getElem h2, h, he]
theorem same_all {xs ys : List (List UInt8)} {k : Nat} (hk : xs.length ≤ k) (h1 : xs.length = ys.length) (h : xs.take k = ys.take k) : true = sameL xs ys := by
  rw [List.take_of_length_le hk, List.take_of_length_le (by omega)] at h
  unfold sameL; rw [decide_eq_true h]
set_option maxHeartbeats 800000 in
set_option maxRecDepth 100000 in
theorem Same_w (va vb : Value) (xs ys : List (List UInt8)) (w : World) (ha : SIn w va xs) (hb : SIn w vb ys) (hla : xs.length ≤ 100000000000) (_hlb : ys.length ≤ 100000000000) :
    Calls Tryz.prog 37 #[va, vb] w fun e w' => e = .returned (.bool (sameL xs ys)) ∧ ∃ m, w' = w.drewN m := by
  obtain ⟨aa, ca, rfl, ha⟩ := ha
  obtain ⟨ab, cb, rfl, hb⟩ := hb
  by_cases hl : xs.length = ys.length
  case neg =>
    have HR := Lib.hid (sameL_len hl)
    have b1 : ((xs.length : Int) != (ys.length : Int)) = true := by rw [bne, beq_eq_false_iff_ne.2 (by omega)]; rfl
    clear hl ha hb
    go_enter Tryz.func37, Tryz.ntmps37
    go_wp2_with fail
    go_ret
    exact ⟨ret_bool' HR.out, 0, rfl⟩
  have HL := Lib.hid hl
  have b1 : ((xs.length : Int) != (ys.length : Int)) = false := by rw [hl, bne, beq_self_eq_true]; rfl
  obtain ⟨n, hn⟩ : ∃ n, n = xs.length := ⟨_, rfl⟩
  have hn2 := hn.trans hl
  rw [← hn, ← hn2] at b1 ⊢
  rw [← hn] at hla
  clear _hlb hl
  have HN := Lib.hid hn
  have HM := Lib.hid hn2
  by_cases h0 : n = 0
  · subst h0
    have HR : Hid (true = sameL xs ys) := same_all (k := 0) (by rw [← HN.out]; exact Nat.le_refl 0) HL.out rfl
    clear hn hn2 ha hb b1 hla
    go_enter Tryz.func37, Tryz.ntmps37
    go_wp2_with fail
    refine wp_loop_rounds 1 ?_
    rw [rounds_succ]
    go_wp2_with fail
    go_ret
    exact ⟨ret_bool' HR.out, 0, rfl⟩
  obtain ⟨ba, oa, rfl, _, hca⟩ := ha.resolve_left (fun e => h0 (by rw [hn, e]; rfl))
  obtain ⟨bb, ob, rfl, _, hcb⟩ := hb.resolve_left (fun e => h0 (by rw [hn2, e]; rfl))
  have HCA : Hid (∀ j (hj : j < n), w.cell? ⟨ba, oa + j, none⟩ = some (.string (str (xs[j]'(HN.out ▸ hj))))) := fun j hj => hca j (by omega)
  have HCB : Hid (∀ j (hj : j < n), w.cell? ⟨bb, ob + j, none⟩ = some (.string (str (ys[j]'(HM.out ▸ hj))))) := fun j hj => hcb j (by omega)
  clear ha hb hca hcb hn hn2 h0
  go_enter Tryz.func37, Tryz.ntmps37
  go_wp2_with fail
  go_loopw [5] (fun i wr => ∃ k m : Nat, k ≤ n ∧ i = .int .i64 k ∧ wr = w.drewN m ∧ Hid (xs.take k = ys.take k)) (fun i _ => n - (intOf i).toNat)
  case atStart => exact ⟨0, 0, by omega, rfl, rfl, Lib.hid rfl⟩
  case round =>
    obtain ⟨k, m, hk, rfl, rfl, HT⟩ := hrel
    by_cases hlt : k < n
    · have ka : k < xs.length := by have := HN.out; omega
      have kb : k < ys.length := by have := HM.out; omega
      have c1 := HCA.out k hlt
      have c2 := HCB.out k hlt
      by_cases he : xs[k] = ys[k]
      · have HS := Lib.hid (same_step ka kb HT.out he)
        rw [← he] at c2
        generalize str xs[k] = x at c1 c2
        clear he
        go_wp2_with fail
        go_quiet (fail)
        go_wp2_with fail
        go_roundw
        case rel => exact ⟨k + 1, _, by omega, by go_num, rfl, HS⟩
        case measure => simp [intOf]; omega
      · have HR := Lib.hid (sameL_at ka kb he)
        have hx : ((str xs[k]).toList == (str ys[k]).toList) = false := by
          rw [str_toList, str_toList, beq_eq_false_iff_ne.2 he]
        generalize str xs[k] = x at c1 hx
        generalize str ys[k] = y at c2 hx
        clear he
        go_wp2_with fail
        go_quiet (fail)
        go_wp2_with fail
        go_ret
        exact ⟨ret_bool' HR.out, _, World.drewN_drewN w m nq⟩
    · have HR : Hid (true = sameL xs ys) := same_all (by have := HN.out; omega) HL.out HT.out
      go_wp2_with fail
      go_ret
      exact ⟨ret_bool' HR.out, _, rfl⟩
end Go.Proofs.YtoanelobggledaaGreatDoor

namespace Go.Proofs.YtoanelobggledaaGreatDoor
open Go.RowKit

end Go.Proofs.YtoanelobggledaaGreatDoor

namespace Go.Proofs.YtoanelobggledaaGreatDoor
open Go.RowKit

end Go.Proofs.YtoanelobggledaaGreatDoor

namespace Go.Proofs.YtoanelobggledaaGreatDoor
open Go.RowKit

end Go.Proofs.YtoanelobggledaaGreatDoor

namespace Go.Proofs.YtoanelobggledaaGreatDoor
open Go.RowKit

end Go.Proofs.YtoanelobggledaaGreatDoor

namespace Go.Proofs.YtoanelobggledaaGreatDoor
open Go.RowKit

end Go.Proofs.YtoanelobggledaaGreatDoor

namespace Go.Proofs.YtoanelobggledaaGreatDoor
open Go.RowKit

end Go.Proofs.YtoanelobggledaaGreatDoor

namespace Go.Proofs.YtoanelobggledaaGreatDoor
open Go.RowKit

end Go.Proofs.YtoanelobggledaaGreatDoor

namespace Go.Proofs.YtoanelobggledaaGreatDoor
open Go.RowKit

end Go.Proofs.YtoanelobggledaaGreatDoor

namespace Go.Proofs.YtoanelobggledaaGreatDoor
open Go.RowKit

end Go.Proofs.YtoanelobggledaaGreatDoor

namespace Go.Proofs.YtoanelobggledaaGreatDoor
open Go.RowKit

end Go.Proofs.YtoanelobggledaaGreatDoor

namespace Go.Proofs.YtoanelobggledaaGreatDoor
open Go.RowKit

set_option maxHeartbeats 1600000 in
set_option maxRecDepth 100000 in
theorem rPrint10 (n c : Int) (w : World) (hn : n ≤ 9223372036854775807) (hc : ¬ c = 16) :
    Calls Tryz.prog 170 #[.int .i64 n, .int .i64 c] w fun e w' => e = .returned (.string (str (Oct.print n c))) ∧ Below w.heap.size w w' := by
  obtain ⟨N, hN⟩ : ∃ N : Nat, N = n.toNat := ⟨_, rfl⟩
  have hN2 : N < 9223372036854775808 := by omega
  have HP : Hid (Oct.print n c = Oct.dgs 10 N) := by unfold Oct.print Oct.base; rw [if_neg hc, hN]; rfl
  have HL : Hid ((Oct.dgs 10 N).length ≤ 100) := Oct.dgs_len10 N (by omega)
  have b1 : (c != 16) = true := by rw [bne, beq_eq_false_iff_ne.2 hc]; rfl
  have b2 : (c == 16) = false := beq_eq_false_iff_ne.2 hc
  clear hc
  by_cases hneg : n < 0
  · have hN0 : N = 0 := by omega
    clear hN
    go_enter Tryz.func170, Tryz.ntmps170
    go_wp2_with fail
    refine wp_loop_rounds 1 ?_
    rw [rounds_succ]
    have hcv := (Buf.one (Below.refl w.heap.size w) (Oct.ch 0) 48 rfl).string
    have HF : Hid (str [Oct.ch 0] ++ (⟨#[]⟩ : ByteArray) = str (Oct.dgs 10 N)) := by rw [str_cons, hN0, Oct.dgs_last (by decide)]; rfl
    clear hN0
    go_wp2_with fail
    go_ret
    exact ⟨ret_str (by rw [HF.out, HP.out]), (Below.refl _ _).alloc (Nat.le_refl _) _⟩
  have hnN : n = (N : Int) := by omega
  subst hnN
  clear hN
  go_enter Tryz.func170, Tryz.ntmps170
  go_wp2_with fail
  go_loopw [0, 5] (fun y s wr => ∃ (v : Nat) (x : ByteArray), y = .int .i64 v ∧ s = .string x ∧ v < 9223372036854775808 ∧ Hid (Oct.dgs 10 N = Oct.dgs 10 v ++ x.data.toList) ∧ Below w.heap.size w wr) (fun y _ _ => (intOf y).toNat)
  case atStart => exact ⟨N, ⟨#[]⟩, rfl, rfl, hN2, by rw [show (⟨#[]⟩ : ByteArray).data.toList = [] from rfl, List.append_nil]; rfl, Below.refl _ _⟩
  case round =>
    obtain ⟨v, x, rfl, rfl, hv, HD, hB⟩ := hrel
    have hxs : x.size ≤ 100 := by
      have h1 : (Oct.dgs 10 N).length ≤ 100 := HL.out
      rw [HD.out, List.length_append, Oct.length_size] at h1; omega
    have hss : (str [Oct.ch (v % 10)]).size = 1 := str_size _
    have hcv := (Buf.one (Below.refl wr.heap.size wr) (Oct.ch (v % 10)) (48 + (v : Int) % 10) (Oct.ch_is48 10 v (Nat.mod_lt _ (by decide)))).string
    by_cases hz : v < 10
    · have b0 : ((v : Int) / 10 == 0) = true := beq_iff_eq.2 (by omega)
      have HF : Hid (str [Oct.ch (v % 10)] ++ x = str (Oct.dgs 10 N)) := by
        rw [str_cons, HD.out, Oct.dgs_last hz, Nat.mod_eq_of_lt hz]; rfl
      go_wp2_with fail
      go_ret
      exact ⟨ret_str (by rw [HF.out, HP.out]), hB.alloc hB.size _⟩
    · have b0 : ((v : Int) / 10 == 0) = false := beq_eq_false_iff_ne.2 (by omega)
      have HF : Hid (Oct.dgs 10 N = Oct.dgs 10 (v / 10) ++ (str [Oct.ch (v % 10)] ++ x).data.toList) := by
        rw [HD.out, Oct.dgs_more (by decide) (by omega), str_cons, str_list]; simp [Hid]
      go_wp2_with fail
      go_roundw
      case rel => exact ⟨v / 10, _, by go_num, rfl, by omega, HF, hB.alloc hB.size _⟩
      case measure => simp [intOf]; omega
set_option maxHeartbeats 1600000 in
set_option maxRecDepth 100000 in
theorem rPrint16 (n c : Int) (w : World) (hn : n ≤ 9223372036854775807) (hc : c = 16) :
    Calls Tryz.prog 170 #[.int .i64 n, .int .i64 c] w fun e w' => e = .returned (.string (str (Oct.print n c))) ∧ Below w.heap.size w w' := by
  obtain ⟨N, hN⟩ : ∃ N : Nat, N = n.toNat := ⟨_, rfl⟩
  have hN2 : N < 9223372036854775808 := by omega
  have HP : Hid (Oct.print n c = Oct.dgs 16 N) := by unfold Oct.print Oct.base; rw [if_pos hc, hN]; rfl
  have HL : Hid ((Oct.dgs 16 N).length ≤ 100) := Oct.dgs_len16 N (by omega)
  subst hc
  by_cases hneg : n < 0
  · have hN0 : N = 0 := by omega
    clear hN
    go_enter Tryz.func170, Tryz.ntmps170
    go_wp2_with fail
    refine wp_loop_rounds 1 ?_
    rw [rounds_succ]
    have hcv := (Buf.one (Below.refl w.heap.size w) (Oct.ch 0) 48 rfl).string
    have HF : Hid (str [Oct.ch 0] ++ (⟨#[]⟩ : ByteArray) = str (Oct.dgs 16 N)) := by rw [str_cons, hN0, Oct.dgs_last (by decide)]; rfl
    clear hN0
    go_wp2_with fail
    go_ret
    exact ⟨ret_str (by rw [HF.out, HP.out]), (Below.refl _ _).alloc (Nat.le_refl _) _⟩
  have hnN : n = (N : Int) := by omega
  subst hnN
  clear hN
  go_enter Tryz.func170, Tryz.ntmps170
  go_wp2_with fail
  go_loopw [0, 5] (fun y s wr => ∃ (v : Nat) (x : ByteArray), y = .int .i64 v ∧ s = .string x ∧ v < 9223372036854775808 ∧ Hid (Oct.dgs 16 N = Oct.dgs 16 v ++ x.data.toList) ∧ Below w.heap.size w wr) (fun y _ _ => (intOf y).toNat)
  case atStart => exact ⟨N, ⟨#[]⟩, rfl, rfl, hN2, by rw [show (⟨#[]⟩ : ByteArray).data.toList = [] from rfl, List.append_nil]; rfl, Below.refl _ _⟩
  case round =>
    obtain ⟨v, x, rfl, rfl, hv, HD, hB⟩ := hrel
    have hxs : x.size ≤ 100 := by
      have h1 : (Oct.dgs 16 N).length ≤ 100 := HL.out
      rw [HD.out, List.length_append, Oct.length_size] at h1; omega
    have hss : (str [Oct.ch (v % 16)]).size = 1 := str_size _
    by_cases h10 : v % 16 < 10
    · have h10' : (v : Int) % 16 < 10 := by omega
      have hcv := (Buf.one (Below.refl wr.heap.size wr) (Oct.ch (v % 16)) (48 + (v : Int) % 16) (Oct.ch_is48 16 v h10)).string
      by_cases hz : v < 16
      · have b0 : ((v : Int) / 16 == 0) = true := beq_iff_eq.2 (by omega)
        have HF : Hid (str [Oct.ch (v % 16)] ++ x = str (Oct.dgs 16 N)) := by
          rw [str_cons, HD.out, Oct.dgs_last hz, Nat.mod_eq_of_lt hz]; rfl
        go_wp2_with fail
        go_ret
        exact ⟨ret_str (by rw [HF.out, HP.out]), hB.alloc hB.size _⟩
      · have b0 : ((v : Int) / 16 == 0) = false := beq_eq_false_iff_ne.2 (by omega)
        have HF : Hid (Oct.dgs 16 N = Oct.dgs 16 (v / 16) ++ (str [Oct.ch (v % 16)] ++ x).data.toList) := by
          rw [HD.out, Oct.dgs_more (by decide) (by omega), str_cons, str_list]; simp [Hid]
        go_wp2_with fail
        go_roundw
        case rel => exact ⟨v / 16, _, by go_num, rfl, by omega, HF, hB.alloc hB.size _⟩
        case measure => simp [intOf]; omega
    · have h10' : (10 : Int) ≤ (v : Int) % 16 := by omega
      have hcv := (Buf.one (Below.refl wr.heap.size wr) (Oct.ch (v % 16)) (87 + (v : Int) % 16) (Oct.ch_is87 16 v (by omega))).string
      by_cases hz : v < 16
      · have b0 : ((v : Int) / 16 == 0) = true := beq_iff_eq.2 (by omega)
        have HF : Hid (str [Oct.ch (v % 16)] ++ x = str (Oct.dgs 16 N)) := by
          rw [str_cons, HD.out, Oct.dgs_last hz, Nat.mod_eq_of_lt hz]; rfl
        go_wp2_with fail
        go_ret
        exact ⟨ret_str (by rw [HF.out, HP.out]), hB.alloc hB.size _⟩
      · have b0 : ((v : Int) / 16 == 0) = false := beq_eq_false_iff_ne.2 (by omega)
        have HF : Hid (Oct.dgs 16 N = Oct.dgs 16 (v / 16) ++ (str [Oct.ch (v % 16)] ++ x).data.toList) := by
          rw [HD.out, Oct.dgs_more (by decide) (by omega), str_cons, str_list]; simp [Hid]
        go_wp2_with fail
        go_roundw
        case rel => exact ⟨v / 16, _, by go_num, rfl, by omega, HF, hB.alloc hB.size _⟩
        case measure => simp [intOf]; omega
end Go.Proofs.YtoanelobggledaaGreatDoor

namespace Go.Proofs.YtoanelobggledaaGreatDoor
open Go.RowKit

theorem rPrint_is (n b : Int) (x : ByteArray) (w : World) (hn : n ≤ 9223372036854775807) (h : str (Oct.print n b) = x) :
    Calls Tryz.prog 170 #[.int .i64 n, .int .i64 b] w fun e w' => e = .returned (.string x) ∧ Below w.heap.size w w' := by
  subst h
  by_cases hb : b = 16
  · exact rPrint16 n b w hn hb
  · exact rPrint10 n b w hn hb
theorem rNumber_is (s : ByteArray) (most a e : Int) (w : World) (hs : s.size ≤ 1000000) (hm1 : -9223372036854775808 ≤ most) (hm2 : most ≤ 9223372036854775807) (h : Oct.number 10 most s.data.toList = (a, e)) :
    Calls Tryz.prog 145 #[.string s, .int .i64 10, .int .i64 most] w fun r w' => r = .returned (.tuple #[.int .i64 a, .int .i64 e]) ∧ w = w' := by
  have := rNumber10 s most w hs hm1 hm2; rw [h] at this; exact this
theorem rHex_is (s : ByteArray) (most a e : Int) (w : World) (hs : s.size ≤ 1000000) (hm1 : -9223372036854775808 ≤ most) (hm2 : most ≤ 9223372036854775807) (h : Oct.number 16 most s.data.toList = (a, e)) :
    Calls Tryz.prog 145 #[.string s, .int .i64 16, .int .i64 most] w fun r w' => r = .returned (.tuple #[.int .i64 a, .int .i64 e]) ∧ w = w' := by
  have := rNumber16 s most w hs hm1 hm2; rw [h] at this; exact this
end Go.Proofs.YtoanelobggledaaGreatDoor

namespace Go.Proofs.YtoanelobggledaaGreatDoor
open Go.RowKit

end Go.Proofs.YtoanelobggledaaGreatDoor

