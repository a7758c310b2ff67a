/- The laws' joined. -/
import Derived.Test.YtlipgphmhkjnpaaDoorPgP
namespace Go.Proofs.YtlipgphmhkjnpaaDoor
open Go.RowKit

/-- What joined tells: all pieces in a row of the call's own, unless they are too many. -/
def Joined14 (W : World) (ls : List (List UInt8)) (e : Ending) (w : World) : Prop := ∃ u b, e = .returned (.tuple #[u, .bool b]) ∧ Below W.heap.size W w ∧ (b = true → Buf W w u ls.flatten ∧ ls.flatten.length ≤ 12600 ∧ ls.length ≤ 21)
set_option maxHeartbeats 3200000 in
set_option maxRecDepth 100000 in
theorem joined14 (v : Value) (ls : List (List UInt8)) (w : World) (h : BsIn w v ls) :
    Calls Tryd.prog 7 #[v] w fun e w' => Joined14 w ls e w' := by
  obtain ⟨ao, cap, rfl, hlc, hc9, hg⟩ := h
  obtain ⟨L, hL⟩ : ∃ L, L = ls.length := ⟨_, rfl⟩
  have HL := Lib.hid hL
  have HG := Lib.hid hg
  rw [← hL] at hlc ⊢
  clear hL hg
  go_enter Tryd.func7, Tryd.ntmps7
  go_wp2_with fail
  go_loopw [4, 5] (fun x i wr => ∃ k : Nat, k ≤ L ∧ k ≤ 21 ∧ i = .int .i64 k ∧ Hid ((ls.take k).flatten.length ≤ 600 * k) ∧ Buf w wr x (ls.take k).flatten) (fun _ i _ => L - (intOf i).toNat)
  case atStart => exact ⟨0, Nat.zero_le _, by omega, rfl, Lib.hid (by simp), Buf.nil w⟩
  case round =>
    obtain ⟨k, hk, hk21, rfl, HM, hB⟩ := hrel
    by_cases hlt : k < L
    · have hki : (k : Int) < L := by omega
      by_cases h20 : 20 < k
      · have h20i : (20 : Int) < k := by omega
        have hbw := hB.below
        clear hB
        go_wp2_with fail
        go_ret2
        exact ⟨_, false, rfl, hbw, fun h => by cases h⟩
      have h20i : ¬ (20 : Int) < k := by omega
      obtain ⟨b, o, hao, hbl, hcell⟩ := HG.out.resolve_left (fun x => by have := HL.out; rw [x] at this; simp at this; omega)
      subst hao
      have k0 : k < ls.length := by rw [← HL.out]; exact hlt
      obtain ⟨u, hu, hbin, hnil⟩ := hcell k k0
      have HS := Lib.hid (fl_snoc ls k k0)
      clear hcell
      have hbin' := hbin.later hB.2
      have hu' := (hB.2.cell (p := ⟨b, o + k, none⟩) hbl).trans hu
      obtain ⟨pl, hpl⟩ : ∃ pl, pl = ls[k].length := ⟨_, rfl⟩
      generalize ls[k] = p at *
      obtain ⟨a2, c2, rfl, hpc, hp9, hpg⟩ := hbin
      rw [← hpl] at hbin' hu' hpc hnil
      clear hpg hu
      by_cases h5 : 600 < pl
      · have h5i : (600 : Int) < pl := by omega
        have hbw := hB.below
        clear hB hbin' hnil hpl
        go_wp2_with fail
        go_ret2
        exact ⟨_, false, rfl, hbw, fun h => by cases h⟩
      have h5i : ¬ (600 : Int) < pl := by omega
      have hM2 : (ls.take k).flatten.length + p.length ≤ 600 * (k + 1) := by have := HM.out; omega
      have HM2 : Hid ((ls.take (k + 1)).flatten.length ≤ 600 * (k + 1)) := Lib.hid (by rw [HS.out, List.length_append]; exact hM2)
      have hlen : (ls.take k).flatten.length + p.length ≤ 1000000000 := by omega
      clear hpl hM2
      generalize (ls.take k).flatten = pre at *
      go_wp2_with (at_builtin; refine appBs hB hbin' hnil hlen rfl _ _ rfl rfl rfl ?_; intro v' w2 hB2 _)
      go_round
      case rel => exact ⟨k + 1, by omega, by omega, by go_num, HM2, by rw [HS.out]; exact hB2⟩
      case measure => simp [intOf]; omega
    · have hki : ¬ (k : Int) < L := by omega
      have HE : Hid ((ls.take k).flatten = ls.flatten) := Lib.hid (by rw [show k = ls.length by rw [← HL.out]; omega, List.take_length])
      rw [HE.out] at hB HM
      have HM3 : Hid (ls.flatten.length ≤ 12600) := Lib.hid (by have := HM.out; omega)
      obtain rfl : k = L := by omega
      clear hlt hk
      go_wp2_with fail
      go_ret2
      exact ⟨_, true, rfl, hB.below, fun _ => ⟨hB, HM3.out, by rw [← HL.out]; exact hk21⟩⟩
end Go.Proofs.YtlipgphmhkjnpaaDoor
