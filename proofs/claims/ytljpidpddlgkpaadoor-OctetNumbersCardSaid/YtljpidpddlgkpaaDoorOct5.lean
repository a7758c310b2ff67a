/- Package octet: quoted texts. -/
import Derived.Test.YtljpidpddlgkpaaDoorOct4
import Derived.Test.YtljpidpddlgkpaaDoorOctMathC
namespace Go.Proofs.YtljpidpddlgkpaaDoor
open Go.RowKit

set_option maxHeartbeats 1600000 in
set_option maxRecDepth 100000 in
theorem Quote_ok (s : ByteArray) (w : World) (hs : s.size ≤ 1000000) (hp : Oct.allOf Oct.plain s.data.toList = true) :
    Calls Tryd.prog 18 #[.string s] w fun e w' => e = .returned (.tuple #[.string (str (Oct.quote s.data.toList)), .int .i64 0]) ∧ Below w.heap.size w w' := by
  have HP := Lib.hid hp
  clear hp
  have hB0 := Buf.one (Below.refl w.heap.size w) 34 34 rfl
  go_enter Tryd.func18, Tryd.ntmps18
  go_wp2_with fail
  refine (every_val s w hs).mono ?_
  rw [HP.out]
  rintro e w1 ⟨rfl, rfl⟩
  go_wp2_with fail
  go_loopw [4, 12] (fun v i wr => ∃ k : Nat, k ≤ s.size ∧ i = .int .i64 k ∧ Buf w wr v (Oct.quoteTo s.data.toList k)) (fun _ i _ => s.size - (intOf i).toNat)
  case atStart => exact ⟨0, by omega, rfl, by rw [Oct.quoteTo_zero]; exact hB0⟩
  case round =>
    clear hB0
    obtain ⟨k, hk, rfl, hB⟩ := hrel
    have hlen := Oct.quoteTo_len s.data.toList k
    have hlen1 : (Oct.quoteTo s.data.toList k).length ≤ 100000000 := by omega
    have hlen2 : (Oct.quoteTo s.data.toList k ++ [92]).length ≤ 100000000 := by simp; omega
    clear hlen
    by_cases hlt : k < s.size
    · have hc := (s[k]).toNat_lt
      by_cases h1 : (s[k].toNat : Int) = 34
      · have HQ := Lib.hid (Oct.quoteTo_mark' s k hlt 34 (by decide) h1)
        go_wp2_with (first | (at_builtin; refine app1 hB 92 hlen1 rfl (.tmp 25) (.tmp 26) rfl _ rfl rfl rfl ?_; intro v1 w1 hB1) | (at_builtin; refine app1 hB1 34 hlen2 rfl (.tmp 28) (.tmp 32) rfl _ rfl rfl rfl ?_; intro v2 w2 hB2))
        go_roundw
        case rel => exact ⟨k + 1, by omega, by go_num, by rw [HQ.out]; exact hB2⟩
        case measure => simp [intOf]; omega
      by_cases h2 : (s[k].toNat : Int) = 92
      · have HQ := Lib.hid (Oct.quoteTo_mark' s k hlt 92 (by decide) h2)
        go_wp2_with (first | (at_builtin; refine app1 hB 92 hlen1 rfl (.tmp 25) (.tmp 26) rfl _ rfl rfl rfl ?_; intro v1 w1 hB1) | (at_builtin; refine app1 hB1 92 hlen2 rfl (.tmp 28) (.tmp 32) rfl _ rfl rfl rfl ?_; intro v2 w2 hB2))
        go_roundw
        case rel => exact ⟨k + 1, by omega, by go_num, by rw [HQ.out]; exact hB2⟩
        case measure => simp [intOf]; omega
      · have HQ := Lib.hid (Oct.quoteTo_plain s k hlt h1 h2)
        have b1 : ((s[k].toNat : Int) == 34) = false := beq_eq_false_iff_ne.2 h1
        have b2 : ((s[k].toNat : Int) == 92) = false := beq_eq_false_iff_ne.2 h2
        clear h1 h2
        go_wp2_with (at_builtin; refine app1 hB s[k] hlen1 rfl (.tmp 28) (.tmp 32) rfl _ rfl rfl rfl ?_; intro v2 w2 hB2)
        go_roundw
        case rel => exact ⟨k + 1, by omega, by go_num, by rw [HQ.out]; exact hB2⟩
        case measure => simp [intOf]; omega
    · obtain rfl : k = s.size := by omega
      have HE := Lib.hid (Oct.quoteTo_all s)
      go_wp2_with (at_builtin; refine app1 hB 34 hlen1 rfl _ _ rfl _ rfl rfl rfl ?_; intro v' w' hB'; have hcv := hB'.string)
      go_ret2
      exact ⟨by (try rw [HE.out]); rfl, hB'.below⟩


set_option maxHeartbeats 400000 in
theorem Quote_no (s : ByteArray) (w : World) (hs : s.size ≤ 1000000) (hp : Oct.allOf Oct.plain s.data.toList = false) :
    Calls Tryd.prog 18 #[.string s] w fun e w' => e = .returned (.tuple #[.string ⟨#[]⟩, .int .i64 10]) ∧ Below w.heap.size w w' := by
  have HP := Lib.hid hp
  clear hp
  go_enter Tryd.func18, Tryd.ntmps18
  go_wp2_with fail
  refine (every_val s w hs).mono ?_
  rw [HP.out]
  rintro e w1 ⟨rfl, rfl⟩
  go_wp2_with fail
  go_ret2
  exact ⟨rfl, Below.refl _ _⟩

set_option maxHeartbeats 1600000 in
set_option maxRecDepth 100000 in
theorem rQuote_ok (s : ByteArray) (w : World) (hs : s.size ≤ 1000000) (hp : Oct.allOf Oct.plain s.data.toList = true) :
    Calls Tryd.prog 19 #[.string s] w fun e w' => e = .returned (.tuple #[.string (str (Oct.quote s.data.toList)), .int .i64 0]) ∧ Below w.heap.size w w' := by
  have HP := Lib.hid hp
  clear hp
  have hB0 := Buf.one (Below.refl w.heap.size w) 34 34 rfl
  go_enter Tryd.func19, Tryd.ntmps19
  go_wp2_with fail
  go_loopw [4, 5] (fun v i wr => ∃ k : Nat, k ≤ s.size ∧ i = .int .i64 k ∧ Buf w wr v (Oct.quoteTo s.data.toList k)) (fun _ i _ => s.size - (intOf i).toNat)
  case atStart => exact ⟨0, by omega, rfl, by rw [Oct.quoteTo_zero]; exact hB0⟩
  case round =>
    clear hB0
    obtain ⟨k, hk, rfl, hB⟩ := hrel
    have hlen := Oct.quoteTo_len s.data.toList k
    have hlen1 : (Oct.quoteTo s.data.toList k).length ≤ 100000000 := by omega
    have hlen2 : (Oct.quoteTo s.data.toList k ++ [92]).length ≤ 100000000 := by simp; omega
    clear hlen
    by_cases hlt : k < s.size
    · have hc := (s[k]).toNat_lt
      have hpk : Oct.plain s[k] = true := Oct.all_at Oct.plain s k hlt HP.out
      by_cases h1 : (s[k].toNat : Int) = 34
      · have HQ := Lib.hid (Oct.quoteTo_mark' s k hlt 34 (by decide) h1)
        go_wp2_with (first | (go_at_call 35; refine (rPlain_c 34 _).mono ?_; rw [show Oct.plain 34 = true from rfl]; rintro e w' ⟨rfl, rfl⟩) | (at_builtin; refine app1 hB 92 hlen1 rfl (.tmp 28) (.tmp 29) rfl _ rfl rfl rfl ?_; intro v1 w1 hB1) | (at_builtin; refine app1 hB1 34 hlen2 rfl (.tmp 31) (.tmp 35) rfl _ rfl rfl rfl ?_; intro v2 w2 hB2))
        go_roundw
        case rel => exact ⟨k + 1, by omega, by go_num, by rw [HQ.out]; exact hB2⟩
        case measure => simp [intOf]; omega
      by_cases h2 : (s[k].toNat : Int) = 92
      · have HQ := Lib.hid (Oct.quoteTo_mark' s k hlt 92 (by decide) h2)
        go_wp2_with (first | (go_at_call 35; refine (rPlain_c 92 _).mono ?_; rw [show Oct.plain 92 = true from rfl]; rintro e w' ⟨rfl, rfl⟩) | (at_builtin; refine app1 hB 92 hlen1 rfl (.tmp 28) (.tmp 29) rfl _ rfl rfl rfl ?_; intro v1 w1 hB1) | (at_builtin; refine app1 hB1 92 hlen2 rfl (.tmp 31) (.tmp 35) rfl _ rfl rfl rfl ?_; intro v2 w2 hB2))
        go_roundw
        case rel => exact ⟨k + 1, by omega, by go_num, by rw [HQ.out]; exact hB2⟩
        case measure => simp [intOf]; omega
      · have HQ := Lib.hid (Oct.quoteTo_plain s k hlt h1 h2)
        have b1 : ((s[k].toNat : Int) == 34) = false := beq_eq_false_iff_ne.2 h1
        have b2 : ((s[k].toNat : Int) == 92) = false := beq_eq_false_iff_ne.2 h2
        clear h1 h2
        go_wp2_with (first | (go_at_call 35; refine (rPlain_c _ _).mono ?_; rintro e w' ⟨rfl, rfl⟩) | (at_builtin; refine app1 hB s[k] hlen1 rfl (.tmp 31) (.tmp 35) rfl _ rfl rfl rfl ?_; intro v2 w2 hB2))
        go_roundw
        case rel => exact ⟨k + 1, by omega, by go_num, by rw [HQ.out]; exact hB2⟩
        case measure => simp [intOf]; omega
    · obtain rfl : k = s.size := by omega
      have HE := Lib.hid (Oct.quoteTo_all s)
      go_wp2_with (at_builtin; refine app1 hB 34 hlen1 rfl _ _ rfl _ rfl rfl rfl ?_; intro v' w' hB'; have hcv := hB'.string)
      go_ret2
      exact ⟨by (try rw [HE.out]); rfl, hB'.below⟩

set_option maxHeartbeats 1600000 in
set_option maxRecDepth 100000 in
theorem rQuote_no (s : ByteArray) (w : World) (hs : s.size ≤ 1000000) (hp : Oct.allOf Oct.plain s.data.toList = false) :
    Calls Tryd.prog 19 #[.string s] w fun e w' => e = .returned (.tuple #[.string ⟨#[]⟩, .int .i64 10]) ∧ Below w.heap.size w w' := by
  have HP := Lib.hid hp
  clear hp
  have hB0 := Buf.one (Below.refl w.heap.size w) 34 34 rfl
  go_enter Tryd.func19, Tryd.ntmps19
  go_wp2_with fail
  go_loopw [4, 5] (fun v i wr => ∃ k : Nat, k ≤ s.size ∧ i = .int .i64 k ∧ Buf w wr v (Oct.quoteTo s.data.toList k) ∧ Hid (Oct.allOf Oct.plain (s.data.toList.take k) = true)) (fun _ i _ => s.size - (intOf i).toNat)
  case atStart => exact ⟨0, by omega, rfl, by rw [Oct.quoteTo_zero]; exact hB0, Lib.hid rfl⟩
  case round =>
    clear hB0
    obtain ⟨k, hk, rfl, hB, HA⟩ := hrel
    have hlen := Oct.quoteTo_len s.data.toList k
    have hlen1 : (Oct.quoteTo s.data.toList k).length ≤ 100000000 := by omega
    have hlen2 : (Oct.quoteTo s.data.toList k ++ [92]).length ≤ 100000000 := by simp; omega
    clear hlen
    by_cases hlt : k < s.size
    · have hc := (s[k]).toNat_lt
      by_cases hpk : Oct.plain s[k] = true
      case neg =>
        have hp' : Oct.plain s[k] = false := by simpa using hpk
        clear hpk
        go_wp2_with (go_at_call 35; refine (rPlain_c _ _).mono ?_; rintro e w' ⟨rfl, rfl⟩)
        go_ret2
        exact ⟨rfl, hB.below⟩
      have HN : Hid (Oct.allOf Oct.plain (s.data.toList.take (k + 1)) = true) := by
        rw [Oct.all_snoc Oct.plain s k hlt, HA.out, hpk]; rfl
      by_cases h1 : (s[k].toNat : Int) = 34
      · have HQ := Lib.hid (Oct.quoteTo_mark' s k hlt 34 (by decide) h1)
        go_wp2_with (first | (go_at_call 35; refine (rPlain_c 34 _).mono ?_; rw [show Oct.plain 34 = true from rfl]; rintro e w' ⟨rfl, rfl⟩) | (at_builtin; refine app1 hB 92 hlen1 rfl (.tmp 28) (.tmp 29) rfl _ rfl rfl rfl ?_; intro v1 w1 hB1) | (at_builtin; refine app1 hB1 34 hlen2 rfl (.tmp 31) (.tmp 35) rfl _ rfl rfl rfl ?_; intro v2 w2 hB2))
        go_roundw
        case rel => exact ⟨k + 1, by omega, by go_num, by rw [HQ.out]; exact hB2, HN⟩
        case measure => simp [intOf]; omega
      by_cases h2 : (s[k].toNat : Int) = 92
      · have HQ := Lib.hid (Oct.quoteTo_mark' s k hlt 92 (by decide) h2)
        go_wp2_with (first | (go_at_call 35; refine (rPlain_c 92 _).mono ?_; rw [show Oct.plain 92 = true from rfl]; rintro e w' ⟨rfl, rfl⟩) | (at_builtin; refine app1 hB 92 hlen1 rfl (.tmp 28) (.tmp 29) rfl _ rfl rfl rfl ?_; intro v1 w1 hB1) | (at_builtin; refine app1 hB1 92 hlen2 rfl (.tmp 31) (.tmp 35) rfl _ rfl rfl rfl ?_; intro v2 w2 hB2))
        go_roundw
        case rel => exact ⟨k + 1, by omega, by go_num, by rw [HQ.out]; exact hB2, HN⟩
        case measure => simp [intOf]; omega
      · have HQ := Lib.hid (Oct.quoteTo_plain s k hlt h1 h2)
        have b1 : ((s[k].toNat : Int) == 34) = false := beq_eq_false_iff_ne.2 h1
        have b2 : ((s[k].toNat : Int) == 92) = false := beq_eq_false_iff_ne.2 h2
        clear h1 h2
        go_wp2_with (first | (go_at_call 35; refine (rPlain_c _ _).mono ?_; rintro e w' ⟨rfl, rfl⟩) | (at_builtin; refine app1 hB s[k] hlen1 rfl (.tmp 31) (.tmp 35) rfl _ rfl rfl rfl ?_; intro v2 w2 hB2))
        go_roundw
        case rel => exact ⟨k + 1, by omega, by go_num, by rw [HQ.out]; exact hB2, HN⟩
        case measure => simp [intOf]; omega
    · exact absurd HA.out (by rw [Oct.take_all s k (by omega), HP.out]; simp)

end Go.Proofs.YtljpidpddlgkpaaDoor
