/- The law SpaceWaits over the pack. -/
import Derived.Test.YtgfgafondiipoaaSpL2
import Derived.Deep.RegionHeld3
namespace Go.Proofs.Ytgfgafondiipoaa
open Go.RowKit
section
variable {Env : World → Prop} {MD : World → Nat → Sp.M → (Nat → Prop) → Prop}
set_option maxHeartbeats 6400000 in
set_option maxRecDepth 100000 in
theorem waits16 (P : Prog16 Env MD) (x y z : Int) (W : World) (hE : Env W) :
    Calls Try.prog 5 #[.int .i64 x, .int .i64 y, .int .i64 z] W fun e w' => e = .returned (.bool true) ∧ Below W.heap.size W w' := by
  have HE := Lib.hid (fun (w : World) (hb : Below W.heap.size W w) => P.env hE hb)
  have HP := Lib.hid P
  have c0 := awake16 P W hE
  clear hE P
  obtain ⟨p1, n1, d1, d2, d3, d4, d5⟩ : ∃ (q : Int) (k : Nat), x.tmod 50 = q ∧ -50 < q ∧ q < 50 ∧ (q + 50).tmod 50 = (k : Int) ∧ k < 50 := mod_at x 50 (by decide) (by decide)
  obtain ⟨p2, n2, e1, e2, e3, e4, e5⟩ : ∃ (q : Int) (k : Nat), y.tmod 50 = q ∧ -50 < q ∧ q < 50 ∧ (q + 50).tmod 50 = (k : Int) ∧ k < 50 := mod_at y 50 (by decide) (by decide)
  obtain ⟨p3, n3, f1, f2, f3, f4, f5⟩ : ∃ (q : Int) (k : Nat), z.tmod 50 = q ∧ -50 < q ∧ q < 50 ∧ (q + 50).tmod 50 = (k : Int) ∧ k < 50 := mod_at z 50 (by decide) (by decide)
  obtain ⟨A, hA, hA1, hA2⟩ : ∃ A : Nat, (A : Int) = 1 + (n1 : Int) ∧ 1 ≤ A ∧ A ≤ 50 := ⟨n1 + 1, by omega, by omega, by omega⟩
  obtain ⟨B, hB, hB1, hB2⟩ : ∃ B : Nat, (B : Int) = 1 + (n2 : Int) ∧ 1 ≤ B ∧ B ≤ 50 := ⟨n2 + 1, by omega, by omega, by omega⟩
  obtain ⟨K, hK, hK1, hK2⟩ : ∃ K : Nat, (K : Int) = 1 + (n3 : Int) ∧ 1 ≤ K ∧ K ≤ 50 := ⟨n3 + 1, by omega, by omega, by omega⟩
  go_enter Try.func5, Try.ntmps5
  go_wp2_with fail
  refine c0.mono ?_
  rintro e w1 ⟨rfl, hb1⟩
  have H1 := Lib.hid hb1
  have c1 := HP.out.new 100 w1 (by decide) (by decide) (HE.out w1 hb1)
  clear c0 hb1
  go_wp2_with fail
  refine c1.mono ?_
  rintro e w2 ⟨q, F2, rfl, hM2, hb2, hF2⟩
  have S2 := Lib.hid (show Side W w2 (fun w F => MD w q (Sp.new 100) F) F2 from ⟨hM2, fun k hk => Nat.le_trans H1.out.size (hF2 k hk), bt5 H1.out hb2⟩)
  have c2 := HP.out.take q (Sp.new 100) F2 (1 + (n1 : Int)) w2 S2.out.thing (by decide) ⟨by omega, by omega⟩ (HE.out _ S2.out.below)
  rw [Sp.w_take1 hA hA1 (by omega)] at c2
  clear c1 hM2 hb2 hF2 H1
  go_wp2_with fail
  refine c2.mono ?_
  rintro e w3 ⟨F3, rfl, hM3, ht3, hm3⟩
  have S3 := Lib.hid (show Side W w3 (fun w F => MD w q (Sp.firsts 100 A) F) F3 from S2.out.step hM3 ht3 hm3)
  have hl3 := HP.out.lt S3.out.thing
  have hb4 : Below w3.heap.size w3 (w3.alloc (.cells #[.int .i64 0, .int .i64 (1 + (n1 : Int))] 35)) := (Below.refl _ w3).alloc (Nat.le_refl _) _
  have S4 := Lib.hid (S3.out.later (fun h hs hk => HP.out.keep h hs hk) hl3 hb4)
  have B4 := Lib.hid (Bx.made (F := F3) w3 0 (1 + (n1 : Int)) hl3)
  have c4 := HP.out.commit q (Sp.firsts 100 A) F3 _ S4.out.thing (by rw [Sp.firsts_length (by omega)]; decide) (HE.out _ S4.out.below)
  rw [Sp.w_commit A] at c4
  clear c2 hM3 ht3 hm3 hl3 hb4 S2 S3
  unfold ext
  obtain ⟨ga, hga⟩ : ∃ ga, ga = w3.heap.size := ⟨_, rfl⟩
  go_upto_region 7 with fail
  rw [← hga] at B4 ⊢
  clear hga
  generalize w3.alloc _ = w4 at S4 B4 c4 ⊢
  go_wp2_with fail
  refine c4.mono ?_
  rintro e w5 ⟨F5, x5, rfl, hM5, ht5, hm5⟩
  have S5 := Lib.hid (show Side W w5 (fun w F => MD w q _ F) F5 from S4.out.step hM5 ht5 hm5)
  have B5 := Lib.hid (B4.out.touch ht5 hm5)
  have c5 := HP.out.take q _ F5 (1 + (n2 : Int)) w5 S5.out.thing (by rw [Sp.three_length]; omega) ⟨by omega, by omega⟩ (HE.out _ S5.out.below)
  rw [Sp.w_take2 hA hB hB1 (by omega)] at c5
  clear c4 hM5 ht5 hm5 S4 B4
  go_wp2_with fail
  refine c5.mono ?_
  rintro e w6 ⟨F6, rfl, hM6, ht6, hm6⟩
  obtain ⟨C, hC⟩ : ∃ C, C = 100 - A - B := ⟨_, rfl⟩
  rw [← hC] at hM6
  have hC2 : A + B + C = 100 := by omega
  clear hC
  have S6 := Lib.hid (show Side W w6 (fun w F => MD w q (Sp.three A B C 1 false 2) F) F6 from S5.out.step hM6 ht6 hm6)
  have B6 := Lib.hid (B5.out.touch ht6 hm6)
  have hl6 := HP.out.lt S6.out.thing
  have hb7 : Below w6.heap.size w6 (w6.alloc (.cells #[.int .i64 (1 + (n1 : Int)), .int .i64 (1 + (n2 : Int))] 35)) := (Below.refl _ w6).alloc (Nat.le_refl _) _
  have S7 := Lib.hid (S6.out.later (fun h hs hk => HP.out.keep h hs hk) hl6 hb7)
  have B7 := Lib.hid (B6.out.later hb7)
  have D7 := Lib.hid (Bx.made (F := F6) w6 (1 + (n1 : Int)) (1 + (n2 : Int)) hl6)
  clear c5 hM6 ht6 hm6 hl6 hb7 S5 S6 B5 B6
  unfold ext
  obtain ⟨gb, hgb⟩ : ∃ gb, gb = w6.heap.size := ⟨_, rfl⟩
  go_upto_region 9 with fail
  rw [← hgb] at D7 ⊢
  clear hgb
  generalize w6.alloc _ = w7 at S7 B7 D7 ⊢
  have g1 := B7.out.c0
  have g2 := B7.out.c1
  have hl7 := HP.out.lt S7.out.thing
  have hb8 : Below w7.heap.size w7 (w7.alloc (.cells #[.int .i64 0, .int .i64 (1 + (n1 : Int))] 35)) := (Below.refl _ w7).alloc (Nat.le_refl _) _
  have S8 := Lib.hid (S7.out.later (fun h hs hk => HP.out.keep h hs hk) hl7 hb8)
  have B8 := Lib.hid (B7.out.later hb8)
  have D8 := Lib.hid (D7.out.later hb8)
  have c8 := HP.out.give q _ F6 _ [(0, 1 + (n1 : Int))] _ S8.out.thing (by rw [Sp.three_length]; omega) (es_one w7 0 (1 + (n1 : Int)) hl7) (fun e he => by rw [List.mem_singleton.1 he]; exact ⟨⟨by simp only; decide, by simp only; decide⟩, ⟨by simp only; omega, by simp only; omega⟩⟩) (by simp) (HE.out _ S8.out.below)
  rw [Sp.w_give hA hA1] at c8
  clear hl7 hb8 S7 B7 D7
  go_wp2_with fail
  refine c8.mono ?_
  rintro e w9 ⟨F9, rfl, hM9, ht9, hm9⟩
  have S9 := Lib.hid (show Side W w9 (fun w F => MD w q (Sp.three A B C 1 true 2) F) F9 from S8.out.step hM9 ht9 hm9)
  have B9 := Lib.hid (B8.out.touch ht9 hm9)
  have D9 := Lib.hid (D8.out.touch ht9 hm9)
  have c9 := HP.out.free q _ F9 w9 S9.out.thing (by rw [Sp.three_length]; omega) (HE.out _ S9.out.below)
  rw [Sp.three_free (by decide) (by decide)] at c9
  clear c8 hM9 ht9 hm9 S8 B8 D8 g1 g2
  go_wp2_with fail
  refine c9.mono ?_
  rintro e w10 ⟨F10, rfl, hM10, ht10, hm10⟩
  have S10 := Lib.hid (show Side W w10 (fun w F => MD w q (Sp.three A B C 1 true 2) F) F10 from S9.out.step hM10 ht10 hm10)
  have B10 := Lib.hid (B9.out.touch ht10 hm10)
  have D10 := Lib.hid (D9.out.touch ht10 hm10)
  have c10 := HP.out.take q _ F10 (1 + (n3 : Int)) w10 S10.out.thing (by rw [Sp.three_length]; omega) ⟨by omega, by omega⟩ (HE.out _ S10.out.below)
  obtain ⟨B', C', za, zn, got, hT, hC3, hgot, hza⟩ := Sp.w_take4 (C := C) hA hB hK hK1
  rw [hT] at c10
  have HT := Lib.hid (And.intro hA (And.intro hB hK))
  have HGT := Lib.hid (And.intro hgot hza)
  clear hgot hza
  clear c9 hM10 ht10 hm10 S9 B9 D9 hT hA hB hK
  go_wp2_with fail
  refine c10.mono ?_
  rintro e w11 ⟨F11, rfl, hM11, ht11, hm11⟩
  have S11 := Lib.hid (show Side W w11 (fun w F => MD w q (Sp.three A B' C' 1 true 2) F) F11 from S10.out.step hM11 ht11 hm11)
  have B11 := Lib.hid (B10.out.touch ht11 hm11)
  have D11 := Lib.hid (D10.out.touch ht11 hm11)
  have hl11 := HP.out.lt S11.out.thing
  have hb12 : Below w11.heap.size w11 (w11.alloc (.cells #[.int .i64 za, .int .i64 zn] 35)) := (Below.refl _ w11).alloc (Nat.le_refl _) _
  have S12 := Lib.hid (S11.out.later (fun h hs hk => HP.out.keep h hs hk) hl11 hb12)
  have B12 := Lib.hid (B11.out.later hb12)
  have D12 := Lib.hid (D11.out.later hb12)
  have E12 := Lib.hid (Bx.made (F := F11) w11 za zn hl11)
  clear c10 hM11 ht11 hm11 hl11 hb12 S10 B10 D10 S11 B11 D11
  unfold ext
  obtain ⟨gz, hgz⟩ : ∃ gz, gz = w11.heap.size := ⟨_, rfl⟩
  go_upto_region 14 with fail
  rw [← hgz] at E12 ⊢
  clear hgz
  generalize w11.alloc _ = w12 at S12 B12 D12 E12 ⊢
  go_cut [96] (fun u wx => ∃ F, u = .bool false ∧ Hid (Side W wx (fun w F => MD w q (Sp.three A B' C' 1 true 2) F) F) ∧ Hid (Bx F wx ga 0 (1 + (n1 : Int))))
  case first =>
    have g1 := B12.out.c0
    have g2 := B12.out.c1
    have g3 := D12.out.c0
    have g4 := D12.out.c1
    have g5 := E12.out.c0
    have hl := HP.out.lt S12.out.thing
    have hb13 : Below w12.heap.size w12 (w12.alloc (.cells #[.int .i64 0, .int .i64 (1 + (n1 : Int))] 35)) := (Below.refl _ w12).alloc (Nat.le_refl _) _
    have S13 := Lib.hid (S12.out.later (fun h hs hk => HP.out.keep h hs hk) hl hb13)
    have B13 := Lib.hid (B12.out.later hb13)
    have c13 := HP.out.hold q _ F11 _ [(0, 1 + (n1 : Int))] _ S13.out.thing (by rw [Sp.three_length]; omega) (es_one w12 0 (1 + (n1 : Int)) hl) (fun e he => by rw [List.mem_singleton.1 he]; exact ⟨⟨by simp only; decide, by simp only; decide⟩, ⟨by simp only; omega, by simp only; omega⟩⟩) (by simp) (HE.out _ S13.out.below)
    rw [Sp.w_hold HT.out.1 hA1] at c13
    clear hl hb13 S12 B12
    cases got with
    | true =>
      obtain rfl := HGT.out.2 rfl
      have hk : (1 + (n3 : Int)) ≤ C := of_decide_eq_true HGT.out.1.symm
      clear HGT
      go_wp2_with fail
      refine c13.mono ?_
      rintro e w14 ⟨F14, rfl, hM14, ht14, hm14⟩
      have S14 := Lib.hid (show Side W w14 (fun w F => MD w q (Sp.three A B' C' 1 true 2) F) F14 from S13.out.step hM14 ht14 hm14)
      have B14 := Lib.hid (B13.out.touch ht14 hm14)
      clear c13 hM14 ht14 hm14 S13 B13
      go_wp2_with fail
      go_meet
      case rel => exact ⟨F14, rfl, S14, B14⟩
    | false =>
      have hk : ¬ (1 + (n3 : Int)) ≤ C := of_decide_eq_false HGT.out.1.symm
      clear HGT
      go_wp2_with fail
      refine c13.mono ?_
      rintro e w14 ⟨F14, rfl, hM14, ht14, hm14⟩
      have S14 := Lib.hid (show Side W w14 (fun w F => MD w q (Sp.three A B' C' 1 true 2) F) F14 from S13.out.step hM14 ht14 hm14)
      have B14 := Lib.hid (B13.out.touch ht14 hm14)
      clear c13 hM14 ht14 hm14 S13 B13
      go_wp2_with fail
      go_meet
      case rel => exact ⟨F14, rfl, S14, B14⟩
  case rest =>
    obtain ⟨F14, rfl, S14, B14⟩ := hcut
    have c15 := HP.out.abort q _ F14 wc S14.out.thing (by rw [Sp.three_length]; omega) (HE.out _ S14.out.below)
    rw [Sp.w_abort] at c15
    clear S12 B12 D12 E12 HGT
    go_wp2_with fail
    refine c15.mono ?_
    rintro e w16 ⟨F16, x16, rfl, hM16, ht16, hm16⟩
    have S16 := Lib.hid (show Side W w16 (fun w F => MD w q (Sp.three A B' C' 1 false 0) F) F16 from S14.out.step hM16 ht16 hm16)
    have B16 := Lib.hid (B14.out.touch ht16 hm16)
    clear c15 hM16 ht16 hm16 S14 B14
    go_upto_region 17 with fail
    have hd : Below w16.heap.size w16 w16.drew := (Below.refl _ w16).drew
    have S17 := Lib.hid (S16.out.later (fun h hs hk => HP.out.keep h hs hk) (HP.out.lt S16.out.thing) hd)
    have B17 := Lib.hid (B16.out.later hd)
    have c17 := HP.out.free q _ F16 w16.drew S17.out.thing (by rw [Sp.three_length]; omega) (HE.out _ S17.out.below)
    rw [Sp.w_free0] at c17
    have hBC : ((B' + C' : Nat) : Int) = 100 - (1 + (n1 : Int)) := by have := HT.out.1; omega
    rw [hBC] at c17
    have hw : IntKind.i64.wrap (100 - (1 + (n1 : Int))) = 100 - (1 + (n1 : Int)) := by rw [IntKind.wrap_i64]; omega
    clear hBC
    have KS : Hid (∀ (F : Nat → Prop) (w : World), Bx F w ga 0 (1 + (n1 : Int)) → w.cell? ⟨ga, 0, none⟩ = some (.int .i64 0) ∧ w.cell? ⟨ga, 1, none⟩ = some (.int .i64 (1 + (n1 : Int)))) := Lib.hid (fun F w h => ⟨h.c0, h.c1⟩)
    clear hd S16 B16
    have HA1 := Lib.hid hA1
    go_region_held3 (fun w' => w'.cell? ⟨ga, 0, none⟩ = some (.int .i64 0) ∧ w'.cell? ⟨ga, 1, none⟩ = some (.int .i64 (1 + (n1 : Int))))
      (first
        | with_reducible exact KS.out _ _ B21.out | with_reducible exact KS.out _ _ B20a.out | with_reducible exact KS.out _ _ B20.out | with_reducible exact KS.out _ _ B19a.out | with_reducible exact KS.out _ _ B19.out | with_reducible exact KS.out _ _ B18.out | with_reducible exact KS.out _ _ B17.out)
      (first
        | (go_at_call 18; (with_reducible refine c20.mono ?_); rintro e w21 ⟨F21, rfl, hM, ht, hm⟩; have S21 := Lib.hid (show Side W w21 (fun w F => MD w q (Sp.three A B' C' 1 true 0) F) F21 from S20a.out.step hM ht hm); have B21 := Lib.hid (B20a.out.touch ht hm); clear hM ht hm; skip)
        | (go_at_call 16; (with_reducible refine c19.mono ?_); rintro e w20 ⟨F20, rfl, hM, ht, hm⟩; have S20 := Lib.hid (show Side W w20 (fun w F => MD w q (Sp.three A B' C' 1 false 0) F) F20 from S19a.out.step hM ht hm); have B20 := Lib.hid (B19a.out.touch ht hm); clear hM ht hm; have hl := HP.out.lt S20.out.thing; have hb : Below w20.heap.size w20 (w20.alloc (.cells #[.int .i64 0, .int .i64 (1 + (n1 : Int))] 35)) := (Below.refl _ w20).alloc (Nat.le_refl _) _; have S20a := Lib.hid (S20.out.later (fun h hs hk => HP.out.keep h hs hk) hl hb); have B20a := Lib.hid (B20.out.later hb); have c20 := HP.out.give q _ F20 _ [(0, 1 + (n1 : Int))] _ S20a.out.thing (by rw [Sp.three_length]; omega) (es_one w20 0 (1 + (n1 : Int)) hl) (fun e he => by rw [List.mem_singleton.1 he]; exact ⟨⟨by simp only; decide, by simp only; decide⟩, ⟨by simp only; omega, by simp only; omega⟩⟩) (by simp) (HE.out _ S20a.out.below); rw [Sp.w_give HT.out.1 HA1.out] at c20; clear hl hb)
        | (go_at_call 25; (with_reducible refine c18.mono ?_); rintro e w19 ⟨F19, rfl, hM, ht, hm⟩; have S19 := Lib.hid (show Side W w19 (fun w F => MD w q (Sp.three A B' C' 1 false 0) F) F19 from S18.out.step hM ht hm); have B19 := Lib.hid (B18.out.touch ht hm); clear hM ht hm; have hl := HP.out.lt S19.out.thing; have hb : Below w19.heap.size w19 (w19.alloc (.cells #[.int .i64 0, .int .i64 (1 + (n1 : Int))] 35)) := (Below.refl _ w19).alloc (Nat.le_refl _) _; have S19a := Lib.hid (S19.out.later (fun h hs hk => HP.out.keep h hs hk) hl hb); have B19a := Lib.hid (B19.out.later hb); have c19 := HP.out.hold q _ F19 _ [(0, 1 + (n1 : Int))] _ S19a.out.thing (by rw [Sp.three_length]; omega) (es_one w19 0 (1 + (n1 : Int)) hl) (fun e he => by rw [List.mem_singleton.1 he]; exact ⟨⟨by simp only; decide, by simp only; decide⟩, ⟨by simp only; omega, by simp only; omega⟩⟩) (by simp) (HE.out _ S19a.out.below); rw [Sp.w_hold HT.out.1 HA1.out] at c19; clear hl hb)
        | (go_at_call 9; (with_reducible refine c17.mono ?_); rintro e w18 ⟨F18, rfl, hM, ht, hm⟩; have S18 := Lib.hid (show Side W w18 (fun w F => MD w q (Sp.three A B' C' 1 false 0) F) F18 from S17.out.step hM ht hm); have B18 := Lib.hid (B17.out.touch ht hm); clear hM ht hm; have c18 := HP.out.waiting q _ F18 w18 S18.out.thing (by rw [Sp.three_length]; omega) (HE.out _ S18.out.below); rw [Sp.w_wait0, show ((0 : Nat) : Int) = 0 from rfl] at c18))
    have c22 := HP.out.commit q _ F21 w21 S21.out.thing (by rw [Sp.three_length]; omega) (HE.out _ S21.out.below)
    rw [Sp.w_done, hC3, hC2] at c22
    clear c17 c18 c19 c20 S17 B17 S18 B18 S19 B19 S19a B19a S20 B20 S20a B20a
    go_wp2_with fail
    refine c22.mono ?_
    rintro e w23 ⟨F23, x23, rfl, hM23, ht23, hm23⟩
    have S23 := Lib.hid (show Side W w23 (fun w F => MD w q (Sp.new 100) F) F23 from S21.out.step hM23 ht23 hm23)
    have B23 := Lib.hid (B21.out.touch ht23 hm23)
    have c23 := HP.out.free q _ F23 w23 S23.out.thing (by decide) (HE.out _ S23.out.below)
    rw [Sp.new_free] at c23
    clear c22 hM23 ht23 hm23 S21 B21
    go_wp2_with fail
    refine c23.mono ?_
    rintro e w24 ⟨F24, rfl, hM24, ht24, hm24⟩
    have S24 := Lib.hid (show Side W w24 (fun w F => MD w q (Sp.new 100) F) F24 from S23.out.step hM24 ht24 hm24)
    have B24 := Lib.hid (B23.out.touch ht24 hm24)
    clear c23 hM24 ht24 hm24 S23 B23
    have g1 := B24.out.c0
    have g2 := B24.out.c1
    have hl := HP.out.lt S24.out.thing
    have hb25 : Below w24.heap.size w24 (w24.alloc (.cells #[.int .i64 0, .int .i64 (1 + (n1 : Int))] 35)) := (Below.refl _ w24).alloc (Nat.le_refl _) _
    have S25 := Lib.hid (S24.out.later (fun h hs hk => HP.out.keep h hs hk) hl hb25)
    have c25 := HP.out.hold q _ F24 _ [(0, 1 + (n1 : Int))] _ S25.out.thing (by decide) (es_one w24 0 (1 + (n1 : Int)) hl) (fun e he => by rw [List.mem_singleton.1 he]; exact ⟨⟨by simp only; decide, by simp only; decide⟩, ⟨by simp only; omega, by simp only; omega⟩⟩) (by simp) (HE.out _ S25.out.below)
    rw [Sp.w_new HT.out.1 HA1.out (by omega)] at c25
    clear hl hb25 S24 B24
    go_wp2_with fail
    refine c25.mono ?_
    rintro e w26 ⟨F26, rfl, hM26, ht26, hm26⟩
    have hbe := Lib.hid (ht26.below S25.out.high S25.out.below S25.out.below.size)
    clear c25 hM26 ht26 hm26 S25
    go_wp2_with fail
    go_ret
    exact ⟨rfl, hbe.out⟩
end
end Go.Proofs.Ytgfgafondiipoaa
