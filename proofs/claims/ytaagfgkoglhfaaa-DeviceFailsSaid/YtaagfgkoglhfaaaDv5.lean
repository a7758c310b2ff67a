/- The law DeviceFails. -/
import Derived.Test.YtaagfgkoglhfaaaDv4
namespace Go.Proofs.Ytaagfgkoglhfaaa
open Go.RowKit

set_option maxHeartbeats 6400000 in
set_option maxRecDepth 100000 in
theorem dfails_w {Env : World → Prop} {Dev : World → Nat → Dv.S → (Nat → Prop) → Prop} (P : Prog13 Env Dev) (a : Int) (x : UInt8) (w : World) (hE : Env w) :
    Calls Try.prog 4 #[.int .i64 a, .int .u8 (x.toNat : Int)] w fun e w' => e = .returned (.bool true) ∧ Below w.heap.size w w' := by
  have HE := Lib.hid (fun (W : World) (hb : Below w.heap.size w W) => P.env hE hb)
  have HP := Lib.hid P
  have cA := dawake_w P w hE
  obtain ⟨q, k, m1, m2, m3, m4, m5, hk5⟩ := cut_at a 5 (by decide) (by decide)
  have m1 : a.tmod 5 = q := m1
  have m3 : IntKind.i64.wrap (q + 5) = q + 5 := m3
  have m4 : (q + 5).tmod 5 = (k : Int) := m4
  clear hE P
  obtain ⟨n, hn⟩ : ∃ n : Int, n = x.toNat := ⟨_, rfl⟩
  have HX : Hid (∀ W, Calls Try.prog 9 #[.int .u8 n] W fun e w' => e = .returned (.slice (some ⟨W.heap.size, 0, none⟩) 64 64) ∧ Blk w' W.heap.size (filled x) ∧ Below W.heap.size W w') := Lib.hid (fun W => by rw [hn]; exact filled_w x W)
  rw [← hn]
  clear hn
  go_enter Try.func4, Try.ntmps4
  go_wp2_with fail
  refine cA.mono ?_
  rintro e w1 ⟨rfl, hb⟩
  clear cA
  have c0 := HP.out.new 2 w1 (by decide) (by decide) (HE.out _ hb)
  go_wp2_with fail
  refine c0.mono ?_
  rintro e w2 ⟨g, F2, rfl, hD, hx, hF⟩
  clear c0
  replace hF : ∀ k, F2 k → w.heap.size ≤ k := fun k hk => Nat.le_trans hb.size (hF k hk)
  replace hb := bt5 hb hx
  clear hx
  go_upto_region 7 with fail
  clear m1 m2 m3 m4 m5
  have cF := filled_w 1 w2
  go_wp2_with fail
  refine cF.mono ?_
  rintro e w11 ⟨rfl, hB, hx⟩
  clear cF
  obtain ⟨hbs, hD, hx⟩ := one_out HP.out (1) hD hB hx
  have hbw := bt5 hb hx
  have cW := HP.out.write g (Dv.init 2) F2 0 _ _ _ hD (fair_of (by decide) (by decide) (by decide) (by decide)) hbs (by simp) (by omega) (HE.out _ hbw)
  rw [Dv.fails_1] at cW
  have HBW := Lib.hid hbw
  clear hbs hD hB hx hbw hb
  go_wp2_with fail
  refine cW.mono ?_
  rintro e w12 ⟨F12, rfl, hD, ht, hm⟩
  clear cW
  have hb := ht.below hF HBW.out HBW.out.size
  replace hF := hm.up hF HBW.out.size
  clear ht hm HBW
  have hIO : IOut F12 (w12.alloc (.cells #[.int .i64 0, .int .i64 1, .int .i64 3] 3)) (.slice (some ⟨w12.heap.size, 0, none⟩) 3 3) [0, 1, 3] :=
    ⟨_, 3, rfl, Nat.le_refl _, by decide, .inr ⟨w12.heap.size, 0, rfl, by simp, not_new (HP.out.lt hD) _ (Nat.le_refl _), fun j hj => by
      match j, hj with
      | 0, _ => rw [World.cell?_alloc_at _ _ _ _ rfl]; rfl
      | 1, _ => rw [World.cell?_alloc_at _ _ _ _ rfl]; rfl
      | 2, _ => rw [World.cell?_alloc_at _ _ _ _ rfl]; rfl⟩⟩
  have hbk := hb.alloc hb.size (.cells #[.int .i64 0, .int .i64 1, .int .i64 3] 3)
  have cW := HP.out.fail g Dv.g1 F12 _ _ _ (HP.out.later hD ((Below.refl _ _).alloc (Nat.le_refl _) _)) (fair_of (by decide) (by decide) (by decide) (by decide)) hIO (by decide) (HE.out _ hbk)
  rw [Dv.fails_2] at cW
  have HBW := Lib.hid hbk
  clear hIO hbk hD hb
  go_wp2_with fail
  refine cW.mono ?_
  rintro e w13 ⟨F13, x13, rfl, hD, ht, hm⟩
  clear cW
  have hb := ht.below hF HBW.out HBW.out.size
  replace hF := hm.up hF HBW.out.size
  clear ht hm HBW
  have cF := HX.out w13
  go_wp2_with fail
  refine cF.mono ?_
  rintro e w14 ⟨rfl, hB, hx⟩
  clear cF
  obtain ⟨hbs, hD, hx⟩ := one_out HP.out (x) hD hB hx
  have hbw := bt5 hb hx
  have cW := HP.out.write g (Dv.gf 0) F13 0 _ _ _ hD (fair_of (by decide) (by decide) (by decide) (by decide)) hbs (by simp) (by omega) (HE.out _ hbw)
  rw [Dv.fails_3] at cW
  have HBW := Lib.hid hbw
  clear hbs hD hB hx hbw hb
  go_wp2_with fail
  refine cW.mono ?_
  rintro e w15 ⟨F15, rfl, hD, ht, hm⟩
  clear cW
  have hb := ht.below hF HBW.out HBW.out.size
  replace hF := hm.up hF HBW.out.size
  clear ht hm HBW
  have cW := HP.out.flush g (Dv.gf 1) F15 w15 hD (fair_of (by decide) (by decide) (by decide) (by decide)) (HE.out _ hb)
  rw [Dv.fails_4] at cW
  clear hD
  go_wp2_with fail
  refine cW.mono ?_
  rintro e w16 ⟨F16, rfl, hD, ht, hm⟩
  clear cW
  have hbn := ht.below hF hb hb.size
  replace hF := hm.up hF hb.size
  replace hb := hbn
  clear ht hm hbn
  have cW := HP.out.write g (Dv.gf 2) F16 9 (.slice none 0 0) [] w16 hD (fair_of (by decide) (by decide) (by decide) (by decide)) ⟨none, 0, rfl, Nat.le_refl _, by decide, .inl rfl⟩ (by decide) (by omega) (HE.out _ hb)
  rw [Dv.fails_5] at cW
  clear hD
  go_wp2_with fail
  refine cW.mono ?_
  rintro e w17 ⟨F17, rfl, hD, ht, hm⟩
  clear cW
  have hbn := ht.below hF hb hb.size
  replace hF := hm.up hF hb.size
  replace hb := hbn
  clear ht hm hbn
  have cW := HP.out.waiting g (Dv.gf 2) F17 w17 hD (fair_of (by decide) (by decide) (by decide) (by decide)) (HE.out _ hb)
  have cW : Calls Try.prog 13 #[.pointer (some ⟨g, 0, none⟩)] w17 fun e w' => e = .returned (.int .i64 (1)) ∧ Below w17.heap.size w17 w' := by exact cW
  go_wp2_with fail
  refine cW.mono ?_
  rintro e w18 ⟨rfl, hx⟩
  clear cW
  replace hD := HP.out.later hD hx
  replace hb := bt5 hb hx
  clear hx
  have cW := HP.out.read g (Dv.gf 2) F17 0 1 w18 hD (fair_of (by decide) (by decide) (by decide) (by decide)) (by decide) (by decide) (HE.out _ hb)
  rw [Dv.fails_6] at cW
  clear hD
  go_wp2_with fail
  refine cW.mono ?_
  rintro e w19 ⟨F19, v6, rfl, hD, ht, hm, hR⟩
  clear cW
  have hbn := ht.below hF hb hb.size
  replace hF := hm.up hF hb.size
  replace hb := hbn
  clear ht hm hbn
  have cW := HP.out.read g (Dv.gf 3) F19 0 1 w19 hD (fair_of (by decide) (by decide) (by decide) (by decide)) (by decide) (by decide) (HE.out _ hb)
  rw [Dv.fails_7] at cW
  clear hD
  go_wp2_with fail
  refine cW.mono ?_
  rintro e w20 ⟨F20, v7, rfl, hD, ht, hm, hR7⟩
  clear cW
  have hR := hR.touch ht hm
  obtain ⟨a7, c7, rfl, _⟩ := hR7.in_
  clear hR7
  have hbn := ht.below hF hb hb.size
  replace hF := hm.up hF hb.size
  replace hb := hbn
  clear ht hm hbn
  have cF := filled_w 1 w20
  go_wp2_with fail
  refine cF.mono ?_
  rintro e w21 ⟨rfl, hB, hx⟩
  clear cF
  have hbs : BsIn (w21.alloc (.cells #[.slice (some ⟨w20.heap.size, 0, none⟩) 64 64] 32)) (.slice (some ⟨w21.heap.size, 0, none⟩) 1 1) [Dv.f_ 1] :=
    bs_lit w21 _ [Dv.f_ 1] 1 rfl (by decide) (fun j hj => by
      match j, hj with
      | 0, _ => exact ⟨_, rfl, hB.in_ rfl (Nat.le_refl _) (by decide), some_ok _ _ _⟩)
  have hz := hx.alloc hx.size (.cells #[.slice (some ⟨w20.heap.size, 0, none⟩) 64 64] 32)
  have cS := Same_w _ _ _ _ _ (hR.in_.later hz) hbs
  rw [decide_eq_true rfl] at cS
  replace hD := HP.out.later hD hz
  replace hb := bt5 hb hz
  clear hbs hB hx hz hR
  go_wp2_with fail
  refine cS.mono ?_
  rintro e w22 ⟨rfl, hx⟩
  clear cS
  replace hD := HP.out.later hD hx
  replace hb := bt5 hb hx
  clear hx
  have cW := HP.out.limit g (Dv.gf 4) F20 (k : Int) w22 hD (fair_of (by decide) (by decide) (by decide) (by decide)) (by omega) (HE.out _ hb)
  rw [Dv.fails_8] at cW
  clear hD
  go_wp2_with fail
  refine cW.mono ?_
  rintro e w23 ⟨F23, x20, rfl, hD, ht, hm⟩
  clear cW
  have hbn := ht.below hF hb hb.size
  replace hF := hm.up hF hb.size
  replace hb := hbn
  clear ht hm hbn
  have hk4 : (k : Int) < 5 := by omega
  go_upto_region 17 with fail
  go_loopw [12] (fun i wr => ∃ (j : Nat) (F : Nat → Prop), j ≤ k ∧ i = .int .i64 j ∧ Dev wr g (Dv.gl k j) F ∧ Below w.heap.size w wr ∧ ∀ y, F y → w.heap.size ≤ y) (fun i _ => k - (intOf i).toNat)
  case atStart => exact ⟨0, F23, Nat.zero_le _, rfl, hD, hb, hF⟩
  case round =>
    clear hD hb hF
    obtain ⟨j, F, hj, rfl, hD, hb, hF⟩ := hrel
    by_cases hlt : j < k
    · have hji : (j : Int) < k := by omega
      have cF : Calls Try.prog 9 #[.int .u8 (j : Int)] wr fun e w' => e = .returned (.slice (some ⟨wr.heap.size, 0, none⟩) 64 64) ∧ Blk w' wr.heap.size (filled (UInt8.ofNat j)) ∧ Below wr.heap.size wr w' := by
        have := filled_w (UInt8.ofNat j) wr
        rwa [UInt8.toNat_ofNat', Nat.mod_eq_of_lt (by omega)] at this
      go_wp2_with fail
      refine cF.mono ?_
      rintro e w24 ⟨rfl, hB, hx⟩
      clear cF
      obtain ⟨hbs, hD, hx⟩ := one_out HP.out (UInt8.ofNat j) hD hB hx
      have hbw := bt5 hb hx
      have cW := HP.out.write g (Dv.gl k j) F 1 _ _ _ hD ⟨by show 4 + j ≤ _; omega, by show (_ :: _).length ≤ _; simp; omega, by show Dv.z2.length ≤ _; decide, by show [(0 : Int), 1, 3].length ≤ _; decide⟩ hbs (by simp) (by omega) (HE.out _ hbw)
      rw [Dv.fails_9 k j hlt] at cW
      have HBW := Lib.hid hbw
      clear hbs hD hB hx hbw hb
      go_wp2_with fail
      refine cW.mono ?_
      rintro e w25 ⟨F25, rfl, hD, ht, hm⟩
      clear cW
      have hb := ht.below hF HBW.out HBW.out.size
      replace hF := hm.up hF HBW.out.size
      clear ht hm HBW
      go_wp2_with fail
      go_roundw
      case rel => exact ⟨j + 1, F25, by omega, by go_num, hD, hb, hF⟩
      case measure => simp [intOf]; omega
    · have hji : ¬ (j : Int) < k := by omega
      obtain rfl : j = k := by omega
      clear hlt hj
      have hfair : Fair (Dv.gl j j) := ⟨by show 4 + j ≤ _; omega, by show (_ :: _).length ≤ _; simp; omega, by show Dv.z2.length ≤ _; decide, by show [(0 : Int), 1, 3].length ≤ _; decide⟩
      have cW := HP.out.read g (Dv.gl j j) F 0 1 wr hD hfair (by decide) (by decide) (HE.out _ hb)
      rw [Dv.fails_10] at cW
      clear hD
      go_wp2_with fail
      refine cW.mono ?_
      rintro e w26 ⟨F26, v8, rfl, hD, ht, hm, hR8⟩
      clear cW
      obtain ⟨a8, c8, rfl, _⟩ := hR8.in_
      clear hR8
      have hbn := ht.below hF hb hb.size
      replace hF := hm.up hF hb.size
      replace hb := hbn
      clear ht hm hbn
      have cF := HX.out w26
      go_wp2_with fail
      refine cF.mono ?_
      rintro e w27 ⟨rfl, hB, hx⟩
      clear cF
      obtain ⟨hbs, hD, hx⟩ := one_out HP.out (x) hD hB hx
      have hbw := bt5 hb hx
      have cW := HP.out.write g (Dv.gl j j) F26 1 _ _ _ hD hfair hbs (by simp) (by omega) (HE.out _ hbw)
      rw [Dv.fails_11] at cW
      have HBW := Lib.hid hbw
      clear hbs hD hB hx hbw hb
      go_wp2_with fail
      refine cW.mono ?_
      rintro e w28 ⟨F28, rfl, hD, ht, hm⟩
      clear cW
      have hb := ht.below hF HBW.out HBW.out.size
      replace hF := hm.up hF HBW.out.size
      clear ht hm HBW
      have cW := HP.out.flush g (Dv.gl j j) F28 w28 hD hfair (HE.out _ hb)
      rw [Dv.fails_12] at cW
      clear hD
      go_wp2_with fail
      refine cW.mono ?_
      rintro e w29 ⟨F29, rfl, hD, ht, hm⟩
      clear cW
      have hbn := ht.below hF hb hb.size
      replace hF := hm.up hF hb.size
      replace hb := hbn
      clear ht hm hbn
      have cW := HP.out.waiting g (Dv.gl j j) F29 w29 hD hfair (HE.out _ hb)
      have cW : Calls Try.prog 13 #[.pointer (some ⟨g, 0, none⟩)] w29 fun e w' => e = .returned (.int .i64 ((1 : Int) + j)) ∧ Below w29.heap.size w29 w' := by rw [Dv.gl_waits, show ((1 + j : Nat) : Int) = (1 : Int) + j by omega] at cW; exact cW
      go_wp2_with fail
      refine cW.mono ?_
      rintro e w30 ⟨rfl, hx⟩
      clear cW
      replace hD := HP.out.later hD hx
      replace hb := bt5 hb hx
      clear hx
      have cW := HP.out.crash g (Dv.gl j j) F29 (.slice none 0 0) [] (-1) 0 w30 hD hfair ⟨none, 0, rfl, Nat.le_refl _, by decide, .inl rfl⟩ (by decide) (by decide) (HE.out _ hb)
      rw [Dv.fails_13] at cW
      unfold mkCrash at cW
      clear hD
      go_wp2_with fail
      refine cW.mono ?_
      rintro e w31 ⟨F31, x30, rfl, hD, ht, hm⟩
      clear cW
      have hbn := ht.below hF hb hb.size
      replace hF := hm.up hF hb.size
      replace hb := hbn
      clear ht hm hbn
      have cW := HP.out.read g (Dv.init 2) F31 0 2 w31 hD (fair_of (by decide) (by decide) (by decide) (by decide)) (by decide) (by decide) (HE.out _ hb)
      rw [Dv.fails_14] at cW
      clear hD
      go_wp2_with fail
      refine cW.mono ?_
      rintro e w32 ⟨F32, v9, rfl, hD, ht, hm, hR⟩
      clear cW
      have hbn := ht.below hF hb hb.size
      replace hF := hm.up hF hb.size
      replace hb := hbn
      clear ht hm hbn
      have hI := hR.in_
      clear hR hD hF
      have cF := filled_w 0 w32
      go_wp2_with fail
      refine cF.mono ?_
      rintro e w33 ⟨rfl, hB, hx⟩
      clear cF
      have hB1 := hB
      have hx1 := hx
      clear hB hx
      have cF := filled_w 0 w33
      go_wp2_with fail
      refine cF.mono ?_
      rintro e w34 ⟨rfl, hB, hx⟩
      clear cF
      have hall := bt5 hx1 hx
      have hbs : BsIn (w34.alloc (.cells #[.slice (some ⟨w32.heap.size, 0, none⟩) 64 64, .slice (some ⟨w33.heap.size, 0, none⟩) 64 64] 32)) (.slice (some ⟨w34.heap.size, 0, none⟩) 2 2) [Dv.f_ 0, Dv.f_ 0] :=
        bs_lit w34 _ [Dv.f_ 0, Dv.f_ 0] 2 rfl (by decide) (fun j hj => by
          match j, hj with
          | 0, _ => exact ⟨_, rfl, (hB1.in_ rfl (Nat.le_refl _) (by decide)).later hx, some_ok _ _ _⟩
          | 1, _ => exact ⟨_, rfl, hB.in_ rfl (Nat.le_refl _) (by decide), some_ok _ _ _⟩)
      have hz := hall.alloc hall.size (.cells #[.slice (some ⟨w32.heap.size, 0, none⟩) 64 64, .slice (some ⟨w33.heap.size, 0, none⟩) 64 64] 32)
      have cS := Same_w _ _ _ _ _ (hI.later hz) hbs
      rw [decide_eq_true rfl] at cS
      have HBZ := Lib.hid (bt5 hb hz)
      clear hbs hB1 hB hx1 hx hall hz hI hb
      go_wp2_with fail
      refine cS.mono ?_
      rintro e we ⟨rfl, hx⟩
      clear cS
      go_wp2_with fail
      go_ret
      exact ⟨rfl, bt5 HBZ.out hx⟩
end Go.Proofs.Ytaagfgkoglhfaaa
