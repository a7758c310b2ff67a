/- Package crc, the program: Concat of the library at octets, Frame. -/
import Derived.Test.YtkmefpeplpllhaaDoorCrP1
import Derived.Lib.AppendZerosOnto
namespace Go.Proofs.YtkmefpeplpllhaaDoor
open Go.RowKit

set_option maxHeartbeats 1600000 in
set_option maxRecDepth 100000 in
theorem GrowB_w (n : Nat) (w : World) (hn : n ≤ 1000000000) :
    Calls Tryd.prog 17 #[.slice none 0 0, .int .i64 n] w fun e w' => ∃ v, e = .returned v ∧ Buf w w' v [] := by
  by_cases h0 : n = 0
  · subst h0
    go_enter Tryd.func17, Tryd.ntmps17
    go_wp2_with fail
    go_ret
    exact ⟨_, rfl, Buf.nil _⟩
  obtain ⟨i0, hi, hz0, hz1, hz2⟩ := info_parts bytes_info
  have hpos : 0 < (n : Int) := by omega
  have hrz := Lib.run_append_grow_zeros w 23 3 23 5 i0 _ .i64 .i64 Tryd.underlying23 Tryd.underlying3 hi hz0 none 0 0 [] (by exact run_firstCells_none w.drew i0.size 0 0 0) n (by omega) (by omega) (by omega) (by omega) (by rw [hz2]; omega) (by rw [hz2]; exact growslice_fits (by omega) (by omega))
  have hcap : grownCap w n 0 5 ≤ maxLen := grownCap_le_maxLen w n 0 5 (by unfold maxLen; omega)
  have hge : n ≤ grownCap w n 0 5 := grownCap_ge w _ _ _
  rw [Nat.zero_add] at hrz
  generalize grownCap w n 0 5 = G at hrz hcap hge
  have hrow : Buf w (w.drew.alloc (.cells (([] : List Value).toArray ++ Builtin.zeroCells (Value.int .u8 0).cells n ++ Builtin.zeroCells (Value.int .u8 0).cells (G - n)) 5)) (.slice (some ⟨w.heap.size, 0, none⟩) 0 G) [] :=
    ⟨World.ownsRow_made w.drew _ G (Nat.le_refl _) hcap (by simp [Builtin.zeroCells, Value.cells]; omega), (Below.refl _ w).drew.alloc (Nat.le_refl _) _⟩
  generalize w.drew.alloc _ = w1 at hrz hrow
  have hG63 : G ≤ 9223372036854775807 := by unfold maxLen at hcap; omega
  clear hcap hi hz0 hz1 hz2 h0
  go_enter Tryd.func17, Tryd.ntmps17
  go_wp2_with (at_builtin; refine Lib.wpList_append_run _ rfl _ _ _ _ rfl _ _ rfl rfl _ _ hrz ?_)
  all_goals (go_ret; exact ⟨_, rfl, hrow⟩)

theorem pre_le (ls : List (List UInt8)) (k : Nat) : (ls.take k).flatten.length ≤ ls.flatten.length := by
  have : ls.flatten = (ls.take k).flatten ++ (ls.drop k).flatten := by rw [← List.flatten_append, List.take_append_drop]
  rw [this, List.length_append]; omega
set_option maxHeartbeats 3200000 in
set_option maxRecDepth 100000 in
theorem Concat_w (v : Value) (ls : List (List UInt8)) (w : World) (h : BsIn w v ls) (ht : ls.flatten.length ≤ 100000000) :
    Calls Tryd.prog 16 #[v] w fun e w' => ∃ u, e = .returned u ∧ Buf w w' u ls.flatten := by
  obtain ⟨ao, cap, rfl, hlc, hc9, hg⟩ := h
  obtain ⟨L, hL⟩ : ∃ L, L = ls.length := ⟨_, rfl⟩
  have HL := Lib.hid hL
  have HG := Lib.hid hg
  have HTOT := Lib.hid (fun k => Nat.le_trans (pre_le ls k) ht)
  have cG := GrowB_w ls.flatten.length w (by omega)
  rw [← hL] at hlc ⊢
  obtain ⟨T, hT⟩ : ∃ T, T = ls.flatten.length := ⟨_, rfl⟩
  rw [← hT] at cG ht
  have HT := Lib.hid hT
  clear hL hg hT
  go_enter Tryd.func16, Tryd.ntmps16
  go_wp2_with fail
  go_loop [3, 11] (fun z i => ∃ k m : Nat, k ≤ L ∧ i = .int .i64 k ∧ z = .int .i64 m ∧ m ≤ 100000000 ∧ Hid (m = (ls.take k).flatten.length)) (fun _ i => L - (intOf i).toNat)
  case atStart => exact ⟨0, 0, Nat.zero_le _, rfl, rfl, by omega, Lib.hid rfl⟩
  case round =>
    obtain ⟨k, m, hk, rfl, rfl, hm, HM⟩ := hrel
    by_cases hlt : k < L
    · have hki : (k : Int) < L := by omega
      obtain ⟨b, o, hao, hbl, hcell⟩ := HG.out.resolve_left (fun x => by have := HL.out; rw [x] at this; simp at this; omega)
      subst hao
      have k0 : k < ls.length := by rw [← HL.out]; exact hlt
      obtain ⟨u, hu, hbin, hnil⟩ := hcell k k0
      have HS := Lib.hid (fl_snoc ls k k0)
      have hT := HTOT.out (k + 1)
      rw [HS.out, List.length_append] at hT
      clear hcell
      obtain ⟨a2, c2, rfl, hpc, hp9, hpg⟩ := hbin
      obtain ⟨pl, hpl⟩ : ∃ pl, pl = ls[k].length := ⟨_, rfl⟩
      rw [← hpl] at hu hpc
      have HM2 : Hid (m + pl = (ls.take (k + 1)).flatten.length) := Lib.hid (by rw [HS.out, List.length_append, ← HM.out, hpl])
      have hT' : m + pl ≤ 100000000 := by rw [← HM.out, ← hpl] at hT; exact hT
      clear hpg hpl hT hnil
      go_wp2_with fail
      go_round
      case rel => exact ⟨k + 1, m + pl, by omega, by go_num, by go_num, hT', HM2⟩
      case measure => simp [intOf]; omega
    · have hki : ¬ (k : Int) < L := by omega
      have hke : k = L := by omega
      obtain rfl : m = T := by rw [HM.out, HT.out, hke, HL.out, List.take_length]
      clear hlt hk hke
      go_wp2_with fail
      refine cG.mono ?_
      rintro e w1 ⟨v1, rfl, hB1⟩
      clear cG
      go_wp2_with fail
      go_loopw [6, 27] (fun x i wr => ∃ k : Nat, k ≤ L ∧ i = .int .i64 k ∧ Buf w wr x (ls.take k).flatten) (fun _ i _ => L - (intOf i).toNat)
      case atStart => exact ⟨0, Nat.zero_le _, rfl, hB1⟩
      case round =>
        obtain ⟨k, hk, rfl, hB⟩ := hrel
        by_cases hlt : k < L
        · have hki : (k : Int) < L := by omega
          obtain ⟨b, o, hao, hbl, hcell⟩ := HG.out.resolve_left (fun x => by have := HL.out; rw [x] at this; simp at this; omega)
          subst hao
          have k0 : k < ls.length := by rw [← HL.out]; exact hlt
          obtain ⟨u, hu, hbin, hnil⟩ := hcell k k0
          have HS := Lib.hid (fl_snoc ls k k0)
          have hT := HTOT.out (k + 1)
          rw [HS.out, List.length_append] at hT
          clear hcell
          have hbin' := hbin.later hB.2
          have hu' := (hB.2.cell (p := ⟨b, o + k, none⟩) hbl).trans hu
          obtain ⟨pl, hpl⟩ : ∃ pl, pl = ls[k].length := ⟨_, rfl⟩
          generalize ls[k] = p at *
          obtain ⟨a2, c2, rfl, hpc, hp9, hpg⟩ := hbin
          rw [← hpl] at hbin' hu' hpc hnil
          have hlen : (ls.take k).flatten.length + p.length ≤ 1000000000 := by omega
          clear hpg hpl hT hu
          generalize (ls.take k).flatten = pre at *
          go_wp2_with (at_builtin; refine appBs hB hbin' hnil hlen rfl _ _ rfl rfl rfl ?_; intro v' w2 hB2 _)
          go_round
          case rel => exact ⟨k + 1, by omega, by go_num, by rw [HS.out]; exact hB2⟩
          case measure => simp [intOf]; omega
        · have hki : ¬ (k : Int) < L := by omega
          have HE : Hid ((ls.take k).flatten = ls.flatten) := Lib.hid (by rw [show k = ls.length by rw [← HL.out]; omega, List.take_length])
          rw [HE.out] at hB
          clear hlt hk
          go_wp2_with fail
          go_ret
          exact ⟨_, rfl, hB⟩

theorem oct_of (n : Nat) (h : n < 256) : (UInt8.ofNat n).toNat = n := by rw [UInt8.toNat_ofNat', Nat.mod_eq_of_lt h]
/-- A sum's four octets, in a block of their own. -/
theorem le4_in (w : World) (n : Nat) (hn : n < 4294967296) : BIn (w.alloc (.cells #[.int .u8 ((n : Int) % 256), .int .u8 ((n : Int) / 256 % 256), .int .u8 ((n : Int) / 65536 % 256), .int .u8 ((n : Int) / 16777216)] 5)) (.slice (some ⟨w.heap.size, 0, none⟩) 4 4) (Cr.le4 n) := by
  refine bin_lit w _ (Cr.le4 n) 4 rfl ?_ (by decide)
  show [_, _, _, _] = _
  unfold Cr.le4 Lib.byteCells
  simp only [List.map]
  rw [oct_of _ (by omega), oct_of _ (by omega), oct_of _ (by omega), oct_of _ (by omega)]
  rfl
set_option maxHeartbeats 3200000 in
set_option maxRecDepth 100000 in
theorem Frame_w (v : Value) (ls : List (List UInt8)) (w : World) (h : BsIn w v ls) (ht : ls.flatten.length ≤ 100000000) (hT : CTab w) :
    Calls Tryd.prog 13 #[v] w fun e w' => ∃ u, e = .returned u ∧ Buf w w' u (Cr.frame ls.flatten) := by
  have cS := Sum_w v ls w h hT
  have cC := Concat_w v ls w h ht
  have hn := Cr.sum_lt ls.flatten
  have HF : Hid (Cr.frame ls.flatten = ls.flatten ++ Cr.le4 (Cr.sum ls.flatten)) := Lib.hid rfl
  generalize Cr.sum ls.flatten = n at *
  generalize ls.flatten = l at *
  clear h hT
  go_enter Tryd.func13, Tryd.ntmps13
  go_wp2_with fail
  refine cS.mono ?_
  rintro e w1 ⟨rfl, rfl⟩
  clear cS
  go_wp2_with fail
  refine cC.mono ?_
  rintro e w2 ⟨u, rfl, hB⟩
  have h4 := le4_in w2 n hn
  have hlen : l.length + (Cr.le4 n).length ≤ 1000000000 := by rw [Cr.le4_length]; omega
  have hB2 := hB.alloc (.cells #[.int .u8 ((n : Int) % 256), .int .u8 ((n : Int) / 256 % 256), .int .u8 ((n : Int) / 65536 % 256), .int .u8 ((n : Int) / 16777216)] 5)
  clear cC
  go_wp2_with (at_builtin; refine appBs hB2 h4 (nil_ok _ _ _) hlen rfl _ _ rfl rfl rfl ?_; intro v' w3 hB3 _)
  go_ret
  exact ⟨_, rfl, by rw [HF.out]; exact hB3⟩
end Go.Proofs.YtkmefpeplpllhaaDoor
