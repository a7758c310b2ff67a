/- The law CrcGrows. -/
import Derived.Test.YtkmefpeplpllhaaDoorCrJ
namespace Go.Proofs.YtkmefpeplpllhaaDoor
open Go.RowKit

set_option maxHeartbeats 3200000 in
set_option maxRecDepth 100000 in
theorem grows_w (v : Value) (l : List UInt8) (w : World) (h : BIn w v l) (_hn : NilOk v) (hT : CTab w) :
    Calls Tryd.prog 7 #[v] w fun e w' => e = .returned (.bool true) ∧ Below w.heap.size w w' := by
  have cA := fun (W : World) (hb : Below w.heap.size w W) => awake_w W (hT.later hb)
  have hww : Below w.heap.size w w := Below.refl _ _
  have HB := Lib.hid h
  obtain ⟨ao, cap, rfl, hlc, hc9, hg⟩ := h
  obtain ⟨N, hN⟩ : ∃ N, N = l.length := ⟨_, rfl⟩
  have HN := Lib.hid hN
  have HG := Lib.hid hg
  rw [← hN] at hlc HB ⊢
  by_cases h6 : (600 : Int) < N
  · clear hN hT hg
    go_enter Tryd.func7, Tryd.ntmps7
    go_wp2_with fail
    refine (cA w hww).mono ?_
    rintro e w1 ⟨rfl, hb1⟩
    go_wp2_with fail
    refine (cA w1 hb1).mono ?_
    rintro e w2 ⟨rfl, hb2⟩
    go_wp2_with fail
    go_ret
    exact ⟨rfl, bt5 hb1 hb2⟩
  have hN6 : N ≤ 600 := by omega
  have HT := Lib.hid hT
  have cR := fun (W : World) (hb : Below w.heap.size w W) => rSum_w _ _ W (HB.out.later hb)
  have CR := Lib.hid cR
  have HA := Lib.hid (cA w hww)
  clear hN hT hg cA hww cR
  go_enter Tryd.func7, Tryd.ntmps7
  go_wp2_with fail
  refine HA.out.mono ?_
  rintro e w1 ⟨rfl, hb1⟩
  have c0 := Sum_w _ _ _ (bs_nil w1) (HT.out.later hb1)
  rw [List.flatten_nil, Cr.sum_nil] at c0
  go_wp2_with fail
  refine c0.mono ?_
  rintro e w1' ⟨rfl, rfl⟩
  clear c0
  go_wp2_with fail
  go_loopw [3, 4] (fun x i wr => ∃ k R : Nat, k ≤ N ∧ i = .int .i64 k ∧ x = .int .u32 (R : Int) ∧ R < 4294967296 ∧ Hid (R = Cr.sum (l.take k)) ∧ Below w.heap.size w wr) (fun _ i _ => N - (intOf i).toNat)
  case atStart => exact ⟨0, 0, Nat.zero_le _, rfl, rfl, by decide, Lib.hid (by rw [List.take_zero, Cr.sum_nil]), hb1⟩
  case round =>
    obtain ⟨k, R, hk, rfl, rfl, hRl, HR, hbr⟩ := hrel
    by_cases hlt : k < N
    · have hki : (k : Int) < N := by omega
      obtain ⟨b, o, hao, hbl, hcell⟩ := HG.out.resolve_left (fun x => by have := HN.out; rw [x] at this; simp at this; omega)
      subst hao
      have k0 : k < l.length := by rw [← HN.out]; exact hlt
      have hck : ¬ cap = k := by omega
      have hp := HB.out.mid k (k + 1) (by omega) (by omega)
      rw [if_neg hck, Addr.add_lit, Nat.add_sub_cancel_left, tk_snoc l k k0, List.drop_left' (by rw [List.length_take]; omega)] at hp
      have hcut := HB.out.cut (k + 1) (by omega)
      have hcut2 := hcut.later hbr
      have hbs := bs_lit wr #[.slice (some ⟨b, o + k, none⟩) 1 (cap - k), .slice none 0 0] [[l[k]], []] 2 rfl (by decide) (fun j hj => by
        match j, hj with
        | 0, _ => exact ⟨_, rfl, hp.later hbr, some_ok _ _ _⟩
        | 1, _ => exact ⟨_, rfl, (bin_nil wr).1, (bin_nil wr).2⟩)
      have hb2 := hbr.alloc hbr.size (.cells #[.slice (some ⟨b, o + k, none⟩) 1 (cap - k), .slice none 0 0] 23)
      have cM := More_w R _ _ _ hRl hbs (HT.out.later hb2)
      have cS := rSum_w _ _ _ (hcut.later hb2)
      have HSN : Hid (Cr.more R [[l[k]], []].flatten = Cr.sum (l.take (k + 1))) := Lib.hid (by rw [HR.out, Cr.more_sum, tk_snoc l k k0]; rfl)
      rw [HSN.out] at cM
      have hzl := Cr.sum_lt (l.take (k + 1))
      obtain ⟨z, hz⟩ : ∃ z, z = Cr.sum (l.take (k + 1)) := ⟨_, rfl⟩
      have HZ := Lib.hid hz
      rw [← hz] at cM cS hzl
      have HB2 := Lib.hid hb2
      clear hz hcell hp hcut hcut2 hbs hb2 hbr
      go_wp2_with fail
      refine cM.mono ?_
      rintro e w3 ⟨rfl, rfl⟩
      clear cM
      by_cases hm : k % 50 = 0
      · have hmi : (k : Int) % 50 = 0 := by omega
        clear hm
        go_wp2_with fail
        refine cS.mono ?_
        rintro e w3 ⟨rfl, rfl⟩
        clear cS
        go_wp2_with fail
        go_roundw
        case rel => exact ⟨k + 1, z, by omega, by go_num, rfl, hzl, HZ, HB2.out⟩
        case measure => simp [intOf]; omega
      · have hmi : ((k : Int) % 50 == 0) = false := beq_eq_false_iff_ne.2 (by omega)
        clear hm cS
        go_wp2_with fail
        go_roundw
        case rel => exact ⟨k + 1, z, by omega, by go_num, rfl, hzl, HZ, HB2.out⟩
        case measure => simp [intOf]; omega
    · have hki : ¬ (k : Int) < N := by omega
      have c := CR.out wr hbr
      have HE : Hid (R = Cr.sum l) := Lib.hid (by rw [HR.out, show k = l.length by rw [← HN.out]; omega, List.take_length])
      rw [← HE.out] at c
      clear hlt hk
      go_wp2_with fail
      refine c.mono ?_
      rintro e w3 ⟨rfl, rfl⟩
      go_wp2_with fail
      go_ret
      exact ⟨rfl, hbr⟩
end Go.Proofs.YtkmefpeplpllhaaDoor
