/- Package octet: what a quoted text says. -/
import Derived.Test.YtljpidpddlgkpaaDoorOct5
namespace Go.Proofs.YtljpidpddlgkpaaDoor
open Go.RowKit

def unqRes : Option (List UInt8 × Nat) → Value
  | some (t, n) => .tuple #[.string (str t), .int .i64 n, .int .i64 0]
  | none => .tuple #[.string ⟨#[]⟩, .int .i64 0, .int .i64 10]
theorem ret_none {r : Option (List UInt8 × Nat)} (h : r = none) : Ending.returned (.tuple #[.string ⟨#[]⟩, .int .i64 0, .int .i64 10]) = .returned (unqRes r) := by rw [h]; rfl
theorem ret_some {r : Option (List UInt8 × Nat)} {t : List UInt8} {n : Nat} {k : Int} (h : r = some (t, n)) (hk : k = n) : Ending.returned (.tuple #[.string (str t), .int .i64 k, .int .i64 0]) = .returned (unqRes r) := by rw [h, hk]; rfl
theorem ret_unq {r r' : Option (List UInt8 × Nat)} (h : r = r') : Ending.returned (unqRes r) = .returned (unqRes r') := by rw [h]

set_option maxHeartbeats 1600000 in
set_option maxRecDepth 100000 in
theorem Unquote_s (s : ByteArray) (w : World) (hs : s.size ≤ 1000000) :
    Calls Tryd.prog 20 #[.string s] w fun e w' => e = .returned (unqRes (Oct.unquote s.data.toList)) ∧ Below w.heap.size w w' := by
  by_cases h0 : 0 < s.size
  case neg =>
    have HU := Lib.hid (Oct.unquote_not s h0)
    have hz0 : s.size = 0 := by omega
    obtain rfl : s = ByteArray.empty := Oct.size_zero s hz0
    go_enter Tryd.func20, Tryd.ntmps20
    go_wp2_with fail
    go_ret3
    exact ⟨ret_none HU.out, Below.refl _ _⟩
  have hne' : ¬ s = ByteArray.empty := fun e => by rw [e] at h0; exact absurd h0 (by decide)
  have hne : s.toList.isEmpty = false := Oct.nonempty s h0
  by_cases h34 : (s[0].toNat : Int) = 34
  case neg =>
    have HU := Lib.hid (Oct.unquote_not' s h0 h34)
    have b1 : ((s[0].toNat : Int) == 34) = false := beq_eq_false_iff_ne.2 h34
    have b2 : ((s[0].toNat : Int) != 34) = true := by rw [bne, b1]; rfl
    clear h34
    go_enter Tryd.func20, Tryd.ntmps20
    go_wp2_with fail
    go_ret3
    exact ⟨ret_none HU.out, Below.refl _ _⟩
  have HU := Lib.hid (Oct.unquote_at s h0 h34)
  go_enter Tryd.func20, Tryd.ntmps20
  go_wp2_with fail
  go_loopw [5, 6, 19] (fun v x i wr => ∃ (k : Nat) (e : Bool) (acc : List UInt8), k ≤ s.size - 1 ∧ i = .int .i64 k ∧ x = .bool e ∧ acc.length ≤ k ∧ Buf w wr v acc ∧ Hid (Oct.unquote s.data.toList = Oct.unqAt acc (k + 1) e (s.data.toList.drop (k + 1)))) (fun _ _ i _ => s.size - 1 - (intOf i).toNat)
  case atStart => exact ⟨0, false, [], by omega, rfl, rfl, by simp, Buf.nil w, HU⟩
  case round =>
    obtain ⟨k, e, acc, hk, rfl, rfl, hlen, hB, HV⟩ := hrel
    clear HU
    by_cases hlt : k + 1 < s.size
    · have hc := (s[k+1]).toNat_lt
      have HD := Lib.hid (Oct.drop_cons s (k + 1) hlt)
      have hlen1 : acc.length ≤ 100000000 := by omega
      by_cases hp : Oct.plain s[k+1] = true
      case neg =>
        have hp' : Oct.plain s[k+1] = false := by simpa using hp
        clear hp
        have HR : Hid (Oct.unquote s.data.toList = none) := by rw [HV.out, HD.out, Oct.unqAt_bad _ _ _ _ _ hp']; rfl
        go_wp2_with (go_at_call 33; refine (inValue_c _ _).mono ?_; rintro e w' ⟨rfl, rfl⟩)
        go_ret3
        exact ⟨ret_none HR.out, hB.below⟩
      cases e with
      | true =>
        have HN : Hid (Oct.unquote s.data.toList = Oct.unqAt (acc ++ [s[k+1]]) (k + 1 + 1) false (s.data.toList.drop (k + 1 + 1))) := by
          rw [HV.out, HD.out, Oct.unqAt_esc _ _ _ _ hp]; rfl
        go_wp2_with (first | (go_at_call 33; refine (inValue_c _ _).mono ?_; rintro e w' ⟨rfl, rfl⟩) | (at_builtin; refine app1 hB s[k+1] hlen1 rfl (.tmp 36) (.tmp 38) rfl _ rfl rfl rfl ?_; intro v1 w1 hB1))
        go_roundw
        case rel => exact ⟨k + 1, false, acc ++ [s[k+1]], by omega, by go_num, rfl, by simp; omega, hB1, HN⟩
        case measure => simp [intOf]; omega
      | false =>
        by_cases h92 : (s[k+1].toNat : Int) = 92
        · have HN : Hid (Oct.unquote s.data.toList = Oct.unqAt acc (k + 1 + 1) true (s.data.toList.drop (k + 1 + 1))) := by
            rw [HV.out, HD.out, show s[k+1] = 92 from UInt8.toNat_inj.1 (by show _ = 92; omega), Oct.unqAt_mark]; rfl
          go_wp2_with (go_at_call 33; refine (inValue_c 92 _).mono ?_; rw [show Oct.plain 92 = true from rfl]; rintro e w' ⟨rfl, rfl⟩)
          go_roundw
          case rel => exact ⟨k + 1, true, acc, by omega, by go_num, rfl, by omega, hB, HN⟩
          case measure => simp [intOf]; omega
        by_cases h34' : (s[k+1].toNat : Int) = 34
        · have HR : Hid (Oct.unquote s.data.toList = some (acc, k + 1 + 1)) := by
            rw [HV.out, HD.out, show s[k+1] = 34 from UInt8.toNat_inj.1 (by show _ = 34; omega), Oct.unqAt_end]; rfl
          have hcv := hB.string
          go_wp2_with (go_at_call 33; refine (inValue_c 34 _).mono ?_; rw [show Oct.plain 34 = true from rfl]; rintro e w' ⟨rfl, rfl⟩)
          go_ret3
          exact ⟨ret_some HR.out (by omega), hB.below⟩
        · have HN : Hid (Oct.unquote s.data.toList = Oct.unqAt (acc ++ [s[k+1]]) (k + 1 + 1) false (s.data.toList.drop (k + 1 + 1))) := by
            rw [HV.out, HD.out, Oct.unqAt_plain _ _ _ _ hp (fun e => h92 (by rw [e]; rfl)) (fun e => h34' (by rw [e]; rfl))]; rfl
          have b1 : ((s[k+1].toNat : Int) == 34) = false := beq_eq_false_iff_ne.2 h34'
          have b2 : ((s[k+1].toNat : Int) == 92) = false := beq_eq_false_iff_ne.2 h92
          clear h34' h92
          go_wp2_with (first | (go_at_call 33; refine (inValue_c _ _).mono ?_; rintro e w' ⟨rfl, rfl⟩) | (at_builtin; refine app1 hB s[k+1] hlen1 rfl (.tmp 26) (.tmp 28) rfl _ rfl rfl rfl ?_; intro v1 w1 hB1))
          go_roundw
          case rel => exact ⟨k + 1, false, acc ++ [s[k+1]], by omega, by go_num, rfl, by simp; omega, hB1, HN⟩
          case measure => simp [intOf]; omega
    · have HE : Hid (s.data.toList.drop (k + 1) = []) := List.drop_of_length_le (by rw [Oct.length_size]; omega)
      have HR : Hid (Oct.unquote s.data.toList = none) := by rw [HV.out, HE.out, Oct.unqAt_nil]; rfl
      go_wp2_with fail
      go_ret3
      exact ⟨ret_none HR.out, hB.below⟩

set_option maxHeartbeats 1600000 in
set_option maxRecDepth 100000 in
theorem rUnquote_s (s : ByteArray) (w : World) (hs : s.size ≤ 1000000) :
    Calls Tryd.prog 21 #[.string s] w fun e w' => e = .returned (unqRes (Oct.unquote s.data.toList)) ∧ Below w.heap.size w w' := by
  by_cases h0 : 0 < s.size
  case neg =>
    have HU := Lib.hid (Oct.unquote_not s h0)
    have hz0 : s.size = 0 := by omega
    obtain rfl : s = ByteArray.empty := Oct.size_zero s hz0
    go_enter Tryd.func21, Tryd.ntmps21
    go_wp2_with fail
    go_ret3
    exact ⟨ret_none HU.out, Below.refl _ _⟩
  have hne : ((s.size : Int) == 0) = false := beq_eq_false_iff_ne.2 (by omega)
  by_cases h34 : (s[0].toNat : Int) = 34
  case neg =>
    have HU := Lib.hid (Oct.unquote_not' s h0 h34)
    have b1 : ((s[0].toNat : Int) == 34) = false := beq_eq_false_iff_ne.2 h34
    have b2 : ((s[0].toNat : Int) != 34) = true := by rw [bne, b1]; rfl
    clear h34
    go_enter Tryd.func21, Tryd.ntmps21
    go_wp2_with fail
    go_ret3
    exact ⟨ret_none HU.out, Below.refl _ _⟩
  have HU := Lib.hid (Oct.unquote_at s h0 h34)
  go_enter Tryd.func21, Tryd.ntmps21
  go_wp2_with fail
  go_loopw [5, 6] (fun v i wr => ∃ (k : Nat) (acc : List UInt8), k ≤ s.size ∧ i = .int .i64 k ∧ acc.length ≤ k ∧ Buf w wr v acc ∧ Hid (Oct.unquote s.data.toList = Oct.unqAt acc k false (s.data.toList.drop k))) (fun _ i _ => s.size - (intOf i).toNat)
  case atStart => exact ⟨1, [], by omega, rfl, by simp, Buf.nil w, HU⟩
  case round =>
    obtain ⟨k, acc, hk, rfl, hlen, hB, HV⟩ := hrel
    clear HU
    by_cases hlt : k < s.size
    · have hc := (s[k]).toNat_lt
      have HD := Lib.hid (Oct.drop_cons s k hlt)
      have hlen1 : acc.length ≤ 100000000 := by omega
      by_cases h34' : (s[k].toNat : Int) = 34
      · have HR : Hid (Oct.unquote s.data.toList = some (acc, k + 1)) := by
          rw [HV.out, HD.out, show s[k] = 34 from UInt8.toNat_inj.1 (by show _ = 34; omega), Oct.unqAt_end]; rfl
        have hcv := hB.string
        go_wp2_with fail
        go_ret3
        exact ⟨ret_some HR.out (by omega), hB.below⟩
      have b1 : ((s[k].toNat : Int) == 34) = false := beq_eq_false_iff_ne.2 h34'
      by_cases h92 : (s[k].toNat : Int) = 92
      · have HN : Hid (Oct.unquote s.data.toList = Oct.unqAt acc (k + 1) true (s.data.toList.drop (k + 1))) := by
          rw [HV.out, HD.out, show s[k] = 92 from UInt8.toNat_inj.1 (by show _ = 92; omega), Oct.unqAt_mark]; rfl
        clear b1 h34'
        by_cases hlt2 : k + 1 < s.size
        · have HD2 := Lib.hid (Oct.drop_cons s (k + 1) hlt2)
          have hc2 := (s[k+1]).toNat_lt
          by_cases hp : Oct.plain s[k+1] = true
          · have HN2 : Hid (Oct.unquote s.data.toList = Oct.unqAt (acc ++ [s[k+1]]) (k + 1 + 1) false (s.data.toList.drop (k + 1 + 1))) := by
              rw [HN.out, HD2.out, Oct.unqAt_esc _ _ _ _ hp]; rfl
            go_wp2_with (first | (go_at_call 35; refine (rPlain_c _ _).mono ?_; rintro e w' ⟨rfl, rfl⟩) | (at_builtin; refine app1 hB s[k+1] hlen1 rfl (.tmp 44) (.tmp 48) rfl _ rfl rfl rfl ?_; intro v1 w1 hB1))
            go_roundw
            case rel => exact ⟨k + 1 + 1, acc ++ [s[k+1]], by omega, by go_num, by simp; omega, hB1, HN2⟩
            case measure => simp [intOf]; omega
          · have hp' : Oct.plain s[k+1] = false := by simpa using hp
            clear hp
            have HR : Hid (Oct.unquote s.data.toList = none) := by rw [HN.out, HD2.out, Oct.unqAt_bad _ _ _ _ _ hp']; rfl
            go_wp2_with (go_at_call 35; refine (rPlain_c _ _).mono ?_; rintro e w' ⟨rfl, rfl⟩)
            go_ret3
            exact ⟨ret_none HR.out, hB.below⟩
        · have HE : Hid (s.data.toList.drop (k + 1) = []) := List.drop_of_length_le (by rw [Oct.length_size]; omega)
          have HR : Hid (Oct.unquote s.data.toList = none) := by rw [HN.out, HE.out, Oct.unqAt_nil]; rfl
          go_wp2_with fail
          go_ret3
          exact ⟨ret_none HR.out, hB.below⟩
      · have b2 : ((s[k].toNat : Int) == 92) = false := beq_eq_false_iff_ne.2 h92
        by_cases hp : Oct.plain s[k] = true
        · have HN : Hid (Oct.unquote s.data.toList = Oct.unqAt (acc ++ [s[k]]) (k + 1) false (s.data.toList.drop (k + 1))) := by
            rw [HV.out, HD.out, Oct.unqAt_plain _ _ _ _ hp (fun e => h92 (by rw [e]; rfl)) (fun e => h34' (by rw [e]; rfl))]; rfl
          clear h34' h92
          go_wp2_with (first | (go_at_call 35; refine (rPlain_c _ _).mono ?_; rintro e w' ⟨rfl, rfl⟩) | (at_builtin; refine app1 hB s[k] hlen1 rfl (.tmp 44) (.tmp 48) rfl _ rfl rfl rfl ?_; intro v1 w1 hB1))
          go_roundw
          case rel => exact ⟨k + 1, acc ++ [s[k]], by omega, by go_num, by simp; omega, hB1, HN⟩
          case measure => simp [intOf]; omega
        · have hp' : Oct.plain s[k] = false := by simpa using hp
          clear hp h34' h92
          have HR : Hid (Oct.unquote s.data.toList = none) := by rw [HV.out, HD.out, Oct.unqAt_bad _ _ _ _ _ hp']; rfl
          go_wp2_with (go_at_call 35; refine (rPlain_c _ _).mono ?_; rintro e w' ⟨rfl, rfl⟩)
          go_ret3
          exact ⟨ret_none HR.out, hB.below⟩
    · have HE : Hid (s.data.toList.drop k = []) := List.drop_of_length_le (by rw [Oct.length_size]; omega)
      have HR : Hid (Oct.unquote s.data.toList = none) := by rw [HV.out, HE.out, Oct.unqAt_nil]; rfl
      go_wp2_with fail
      go_ret3
      exact ⟨ret_none HR.out, hB.below⟩

end Go.Proofs.YtljpidpddlgkpaaDoor
