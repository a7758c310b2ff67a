/- The laws' joined and awake. -/
import Derived.Test.YtkmefpeplpllhaaDoorCrR
namespace Go.Proofs.YtkmefpeplpllhaaDoor
open Go.RowKit

theorem ex_sum : Cr.sum [49, 50, 51, 52, 53, 54, 55, 56, 57] = 3421780262 := by decide +kernel
theorem some_ok (ad : Addr) (n c : Nat) : NilOk (.slice (some ad) n c) := fun _ h => by injection h with h; cases h
theorem bs_nil (w : World) : BsIn w (.slice none 0 0) [] := ⟨none, 0, rfl, Nat.le_refl _, by decide, .inl rfl⟩
set_option maxHeartbeats 1600000 in
set_option maxRecDepth 100000 in
theorem awake_w (w : World) (hT : CTab w) :
    Calls Tryd.prog 9 #[] w fun e w' => e = .returned (.bool true) ∧ Below w.heap.size w w' := by
  obtain ⟨W1, hcv, hO, hb1⟩ := octets_block w #[.int .u8 49, .int .u8 50, .int .u8 51, .int .u8 52, .int .u8 53, .int .u8 54, .int .u8 55, .int .u8 56, .int .u8 57] [49, 50, 51, 52, 53, 54, 55, 56, 57] rfl (by decide)
  have hcv' : (convert 23 23 (.slice (some ⟨w.heap.size, 0, none⟩) 9 9)).run Tryd.prog (w.alloc (.cells #[.int .u8 49, .int .u8 50, .int .u8 51, .int .u8 52, .int .u8 53, .int .u8 54, .int .u8 55, .int .u8 56, .int .u8 57] 5)) = .ok (.slice (some ⟨w.heap.size, 0, none⟩) 9 9) W1 := hcv
  have hbs := bs_lit W1 #[.slice (some ⟨w.heap.size, 0, none⟩) 9 9] [[49, 50, 51, 52, 53, 54, 55, 56, 57]] 1 rfl (by decide) (fun j hj => by
    match j, hj with
    | 0, _ => exact ⟨_, rfl, hO, nil_ok _ _ _⟩)
  have hb2 := hb1.alloc hb1.size (.cells #[.slice (some ⟨w.heap.size, 0, none⟩) 9 9] 23)
  have c1 := Sum_w _ _ _ hbs (hT.later hb2)
  rw [List.flatten_singleton, ex_sum] at c1
  have c2 := Sum_w _ _ _ (bs_nil (W1.alloc (.cells #[.slice (some ⟨w.heap.size, 0, none⟩) 9 9] 23))) (hT.later hb2)
  rw [List.flatten_nil, Cr.sum_nil] at c2
  have HB := Lib.hid hb2
  clear hcv hO hb1 hbs hT hb2
  go_enter Tryd.func9, Tryd.ntmps9
  go_wp2_with fail
  refine c1.mono ?_
  rintro e w1 ⟨rfl, rfl⟩
  go_wp2_with fail
  refine c2.mono ?_
  rintro e w1 ⟨rfl, rfl⟩
  go_wp2_with fail
  go_ret
  exact ⟨rfl, HB.out⟩

/-- What joined tells: all pieces in a row of the call's own, unless they are too many. -/
def Joined (W : World) (ls : List (List UInt8)) (e : Ending) (w : World) : Prop := ∃ u b, e = .returned (.tuple #[u, .bool b]) ∧ Below W.heap.size W w ∧ (b = true → Buf W w u ls.flatten ∧ ls.flatten.length ≤ 10500)
set_option maxHeartbeats 3200000 in
set_option maxRecDepth 100000 in
theorem joined_w (v : Value) (ls : List (List UInt8)) (w : World) (h : BsIn w v ls) :
    Calls Tryd.prog 8 #[v] w fun e w' => Joined w ls e w' := by
  obtain ⟨ao, cap, rfl, hlc, hc9, hg⟩ := h
  obtain ⟨L, hL⟩ : ∃ L, L = ls.length := ⟨_, rfl⟩
  have HL := Lib.hid hL
  have HG := Lib.hid hg
  rw [← hL] at hlc ⊢
  clear hL hg
  go_enter Tryd.func8, Tryd.ntmps8
  go_wp2_with fail
  go_loopw [4, 5] (fun x i wr => ∃ k : Nat, k ≤ L ∧ k ≤ 21 ∧ i = .int .i64 k ∧ Hid ((ls.take k).flatten.length ≤ 500 * k) ∧ Buf w wr x (ls.take k).flatten) (fun _ i _ => L - (intOf i).toNat)
  case atStart => exact ⟨0, Nat.zero_le _, by omega, rfl, Lib.hid (by simp), Buf.nil w⟩
  case round =>
    obtain ⟨k, hk, hk21, rfl, HM, hB⟩ := hrel
    by_cases hlt : k < L
    · have hki : (k : Int) < L := by omega
      by_cases h20 : 20 < k
      · have h20i : (20 : Int) < k := by omega
        have hbw := hB.below
        clear hB
        go_wp2_with fail
        go_ret2
        exact ⟨_, false, rfl, hbw, fun h => by cases h⟩
      have h20i : ¬ (20 : Int) < k := by omega
      obtain ⟨b, o, hao, hbl, hcell⟩ := HG.out.resolve_left (fun x => by have := HL.out; rw [x] at this; simp at this; omega)
      subst hao
      have k0 : k < ls.length := by rw [← HL.out]; exact hlt
      obtain ⟨u, hu, hbin, hnil⟩ := hcell k k0
      have HS := Lib.hid (fl_snoc ls k k0)
      clear hcell
      have hbin' := hbin.later hB.2
      have hu' := (hB.2.cell (p := ⟨b, o + k, none⟩) hbl).trans hu
      obtain ⟨pl, hpl⟩ : ∃ pl, pl = ls[k].length := ⟨_, rfl⟩
      generalize ls[k] = p at *
      obtain ⟨a2, c2, rfl, hpc, hp9, hpg⟩ := hbin
      rw [← hpl] at hbin' hu' hpc hnil
      clear hpg hu
      by_cases h5 : 500 < pl
      · have h5i : (500 : Int) < pl := by omega
        have hbw := hB.below
        clear hB hbin' hnil hpl
        go_wp2_with fail
        go_ret2
        exact ⟨_, false, rfl, hbw, fun h => by cases h⟩
      have h5i : ¬ (500 : Int) < pl := by omega
      have hM2 : (ls.take k).flatten.length + p.length ≤ 500 * (k + 1) := by have := HM.out; omega
      have HM2 : Hid ((ls.take (k + 1)).flatten.length ≤ 500 * (k + 1)) := Lib.hid (by rw [HS.out, List.length_append]; exact hM2)
      have hlen : (ls.take k).flatten.length + p.length ≤ 1000000000 := by omega
      clear hpl hM2
      generalize (ls.take k).flatten = pre at *
      go_wp2_with (at_builtin; refine appBs hB hbin' hnil hlen rfl _ _ rfl rfl rfl ?_; intro v' w2 hB2 _)
      go_round
      case rel => exact ⟨k + 1, by omega, by omega, by go_num, HM2, by rw [HS.out]; exact hB2⟩
      case measure => simp [intOf]; omega
    · have hki : ¬ (k : Int) < L := by omega
      have HE : Hid ((ls.take k).flatten = ls.flatten) := Lib.hid (by rw [show k = ls.length by rw [← HL.out]; omega, List.take_length])
      rw [HE.out] at hB HM
      have HM3 : Hid (ls.flatten.length ≤ 10500) := Lib.hid (by have := HM.out; omega)
      clear hlt hk
      go_wp2_with fail
      go_ret2
      exact ⟨_, true, rfl, hB.below, fun _ => ⟨hB, HM3.out⟩⟩
end Go.Proofs.YtkmefpeplpllhaaDoor
