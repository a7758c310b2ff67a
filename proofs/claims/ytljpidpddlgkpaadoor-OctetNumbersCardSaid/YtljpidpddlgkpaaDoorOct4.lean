/- Package octet: small letters. -/
import Derived.Test.YtljpidpddlgkpaaDoorOct3
namespace Go.Proofs.YtljpidpddlgkpaaDoor
open Go.RowKit

set_option maxHeartbeats 800000 in
set_option maxRecDepth 100000 in
theorem rLower_s (s : ByteArray) (w : World) (hs : s.size ≤ 1000000) :
    Calls Tryd.prog 17 #[.string s] w fun e w' => e = .returned (.string (str (Oct.lower s.data.toList))) ∧ Below w.heap.size w w' := by
  go_enter Tryd.func17, Tryd.ntmps17
  go_wp2_with fail
  go_loopw [3, 4, 5] (fun v i _ wr => ∃ k : Nat, k ≤ s.size ∧ i = .int .i64 k ∧ Buf w wr v (Oct.lower (s.data.toList.take k))) (fun _ i _ _ => s.size - (intOf i).toNat)
  case atStart => exact ⟨0, by omega, rfl, Buf.nil w⟩
  case round =>
    obtain ⟨k, hk, rfl, hB⟩ := hrel
    have hlen : (Oct.lower (s.data.toList.take k)).length ≤ 100000000 := by
      rw [Oct.lower_length, List.length_take]; omega
    by_cases hlt : k < s.size
    · have HN := Lib.hid (Oct.lower_snoc s k hlt)
      have hc := (s[k]).toNat_lt
      rcases (show (s[k].toNat : Int) < 65 ∨ ((65 : Int) ≤ s[k].toNat ∧ (s[k].toNat : Int) ≤ 90) ∨ (90 : Int) < s[k].toNat by omega) with hu | ⟨h1, h2⟩ | hu
      · go_wp2_with (at_builtin; refine app1 hB (Oct.low s[k]) hlen rfl _ _ rfl _ (Oct.low_no _ (by omega)) rfl rfl ?_; intro v' w' hB')
        go_roundw
        case rel => exact ⟨k + 1, by omega, by go_num, by rw [HN.out]; exact hB'⟩
        case measure => simp [intOf]; omega
      · go_wp2_with (at_builtin; refine app1 hB (Oct.low s[k]) hlen rfl _ _ rfl _ (Oct.low_yes _ h1 h2) rfl rfl ?_; intro v' w' hB')
        go_roundw
        case rel => exact ⟨k + 1, by omega, by go_num, by rw [HN.out]; exact hB'⟩
        case measure => simp [intOf]; omega
      · go_wp2_with (at_builtin; refine app1 hB (Oct.low s[k]) hlen rfl _ _ rfl _ (Oct.low_no _ (by omega)) rfl rfl ?_; intro v' w' hB')
        go_roundw
        case rel => exact ⟨k + 1, by omega, by go_num, by rw [HN.out]; exact hB'⟩
        case measure => simp [intOf]; omega
    · have HE := Lib.hid (Oct.take_all s k (by omega))
      have hcv := hB.string
      go_wp2_with fail
      go_ret
      exact ⟨ret_str (by rw [HE.out]), hB.below⟩

set_option maxHeartbeats 800000 in
set_option maxRecDepth 100000 in
theorem Lower_s (s : ByteArray) (w : World) (hs : s.size ≤ 1000000) :
    Calls Tryd.prog 16 #[.string s] w fun e w' => e = .returned (.string (str (Oct.lower s.data.toList))) ∧ Below w.heap.size w w' := by
  have hcv := run_bytes_of_string (P := Tryd.prog) w 9 50 5 s Tryd.underlying9 Tryd.underlying50 Tryd.underlying5
  have hR := Row.copy w s (grownCap w s.size 0 5)
  have hb1 : Below w.heap.size w ((w.drew.alloc (.cells (bytesRow s (grownCap w s.size 0 5)) 5 ((bytesRow s (grownCap w s.size 0 5)).size, (bytesRow s (grownCap w s.size 0 5)).size + 1)))) := (Below.refl _ w).drew.alloc (Nat.le_refl _) _
  generalize grownCap w s.size 0 5 = cap at hcv hR hb1
  generalize ((w.drew.alloc (.cells (bytesRow s cap) 5 ((bytesRow s cap).size, (bytesRow s cap).size + 1)))) = W1 at hcv hR hb1
  go_enter Tryd.func16, Tryd.ntmps16
  go_wp2_with fail
  clear hcv
  go_loopw [4, 9] (fun _ i wr => ∃ k : Nat, k ≤ s.size ∧ i = .int .i64 k ∧ Row wr w.heap.size (Oct.lowTo s.data.toList k) ∧ Below w.heap.size w wr) (fun _ i _ => s.size - (intOf i).toNat)
  case atStart => exact ⟨0, by omega, rfl, by rw [Oct.lowTo_zero]; exact hR, hb1⟩
  case round =>
    obtain ⟨k, hk, rfl, hR', hb⟩ := hrel
    clear hR hb1
    by_cases hlt : k < s.size
    · have hkl : k < (Oct.lowTo s.data.toList k).length := by rw [Oct.lowTo_length, Oct.length_size]; exact hlt
      obtain ⟨hcell, hfz⟩ := hR'.cell k hkl
      rw [Oct.lowTo_at s k hlt] at hcell
      have HN := Lib.hid (Oct.lowTo_next s k hlt)
      have hc := (s[k]).toNat_lt
      rcases (show (s[k].toNat : Int) < 65 ∨ ((65 : Int) ≤ s[k].toNat ∧ (s[k].toNat : Int) ≤ 90) ∨ (90 : Int) < s[k].toNat by omega) with hu | ⟨h1, h2⟩ | hu
      · have HL := Lib.hid (Oct.lowTo_same s k hlt (by omega))
        go_wp2_with fail
        go_roundw
        case rel => exact ⟨k + 1, by omega, by go_num, by rw [HL.out]; exact hR', hb⟩
        case measure => simp [intOf]; omega
      · have HS := hR'.set k hkl (Oct.low s[k]) _ (Oct.low_yes s[k] h1 h2)
        go_wp2_with fail
        go_roundw
        case rel => exact ⟨k + 1, by omega, by go_num, by rw [HN.out]; exact HS, hb.setCell (Nat.le_refl _) _⟩
        case measure => simp [intOf]; omega
      · have HL := Lib.hid (Oct.lowTo_same s k hlt (by omega))
        go_wp2_with fail
        go_roundw
        case rel => exact ⟨k + 1, by omega, by go_num, by rw [HL.out]; exact hR', hb⟩
        case measure => simp [intOf]; omega
    · obtain rfl : k = s.size := by omega
      have hsz : (Oct.lowTo s.data.toList s.size).length = s.size := by rw [Oct.lowTo_length, Oct.length_size]
      have hcv := run_convert_bytes_back (P := Tryd.prog) wr 50 9 5 ⟨w.heap.size, 0, none⟩ cap (Oct.lowTo s.data.toList s.size) Tryd.underlying50 Tryd.underlying5 Tryd.underlying9 (fun j hj => by
        rw [Addr.add_lit, Nat.zero_add]; exact (hR'.cell j hj).1)
      rw [hsz] at hcv
      clear hsz
      go_wp2_with fail
      go_ret
      exact ⟨ret_str (by rw [Oct.lowTo_all]; rfl), hb⟩

end Go.Proofs.YtljpidpddlgkpaaDoor
