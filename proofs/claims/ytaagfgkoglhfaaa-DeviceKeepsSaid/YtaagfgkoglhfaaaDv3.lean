/- The laws' awake. -/
import Derived.Test.YtaagfgkoglhfaaaDv2
namespace Go.Proofs.Ytaagfgkoglhfaaa
open Go.RowKit

theorem Prog13.later {Env : World → Prop} {Dev : World → Nat → Dv.S → (Nat → Prop) → Prop} (P : Prog13 Env Dev) {w w' : World} {g : Nat} {d : Dv.S} {F : Nat → Prop} (h : Dev w g d F) (hb : Below w.heap.size w w') : Dev w' g d F :=
  P.keep h hb.size fun k hk => hb.block k (P.lt h k hk)
/-- One more step: what is the device's own lies behind B. -/
theorem More.up {F F' : Nat → Prop} {B : Nat} {w : World} (h : More F F' w) (hF : ∀ k, F k → B ≤ k) (hB : B ≤ w.heap.size) : ∀ k, F' k → B ≤ k := fun k hk => by
  rcases h k hk with h | h
  · exact hF k h
  · omega
theorem not_new {F : Nat → Prop} {n : Nat} (h : ∀ k, F k → k < n) (m : Nat) (hm : n ≤ m) : ¬ F m := fun hf => by have := h m hf; omega
theorem fair_of {d : Dv.S} (h1 : d.n ≤ 1000) (h2 : d.wait.length ≤ 1000) (h3 : d.safe.length ≤ 1000) (h4 : d.bad.length ≤ 1000) : Fair d := ⟨by omega, by omega, by omega, by omega⟩
theorem filled_f (c : UInt8) : filled c = Dv.f_ c := rfl

set_option maxHeartbeats 3200000 in
set_option maxRecDepth 100000 in
theorem dawake_w {Env : World → Prop} {Dev : World → Nat → Dv.S → (Nat → Prop) → Prop} (P : Prog13 Env Dev) (w : World) (hE : Env w) :
    Calls Try.prog 6 #[] w fun e w' => e = .returned (.bool true) ∧ Below w.heap.size w w' := by
  have HE := Lib.hid (fun (W : World) (hb : Below w.heap.size w W) => P.env hE hb)
  have HP := Lib.hid P
  have c0 := P.new 3 w (by decide) (by decide) hE
  clear hE P
  go_enter Try.func6, Try.ntmps6
  go_wp2_with fail
  refine c0.mono ?_
  rintro e w1 ⟨g, F1, rfl, hD1, hb1, hF1⟩
  clear c0
  have c1 := filled_w 1 w1
  go_wp2_with fail
  refine c1.mono ?_
  rintro e w2 ⟨rfl, hB2, hb2⟩
  clear c1
  have hD2 := HP.out.later hD1 hb2
  have hbs : BsOut F1 (w2.alloc (.cells #[.slice (some ⟨w1.heap.size, 0, none⟩) 64 64] 32)) (.slice (some ⟨w2.heap.size, 0, none⟩) 1 1) [Dv.f_ 1] :=
    bso_lit w2 _ [Dv.f_ 1] 1 rfl (by decide) (HP.out.lt hD2) (fun j hj => by
      match j, hj with
      | 0, _ => exact ⟨_, rfl, hB2.out rfl (by decide) (not_new (HP.out.lt hD1) _ (Nat.le_refl _))⟩)
  have hbw := bt5 hb1 (hb2.alloc hb2.size (.cells #[.slice (some ⟨w1.heap.size, 0, none⟩) 64 64] 32))
  have cW := HP.out.write g (Dv.init 3) F1 0 _ _ _ (HP.out.later hD2 ((Below.refl _ _).alloc (Nat.le_refl _) _)) (fair_of (by decide) (by decide) (by decide) (by decide)) hbs (by decide) (by omega) (HE.out _ hbw)
  rw [Dv.ex_1] at cW
  have HBW := Lib.hid hbw
  clear hbs hD1 hD2 hB2 hb2 hbw hb1
  go_wp2_with fail
  refine cW.mono ?_
  rintro e w3 ⟨F3, rfl, hD3, ht3, hm3⟩
  clear cW
  have hF3 := hm3.up hF1 HBW.out.size
  have hb3 := ht3.below hF1 HBW.out HBW.out.size
  have cL := HP.out.flush g Dv.ex1 F3 w3 hD3 (fair_of (by decide) (by decide) (by decide) (by decide)) (HE.out _ hb3)
  rw [Dv.ex_2] at cL
  clear hD3 ht3 hm3 HBW hF1
  go_wp2_with fail
  refine cL.mono ?_
  rintro e w4 ⟨F4, rfl, hD4, ht4, hm4⟩
  clear cL
  have hF4 := hm4.up hF3 hb3.size
  have hb4 := ht4.below hF3 hb3 hb3.size
  clear ht4 hm4 hF3 hb3
  have c2 := filled_w 2 w4
  go_wp2_with fail
  refine c2.mono ?_
  rintro e w5 ⟨rfl, hB5, hb5⟩
  clear c2
  have c3 := filled_w 3 w5
  go_wp2_with fail
  refine c3.mono ?_
  rintro e w6 ⟨rfl, hB6, hb6⟩
  clear c3
  have hb56 := bt5 hb5 hb6
  have hD6 := HP.out.later hD4 hb56
  have hB5' : Blk w6 w4.heap.size (filled 2) := by
    obtain ⟨C, k1, k2, k3⟩ := hB5
    exact ⟨C, by rw [hb6.block _ (lt_of_block k1)]; exact k1, k2, k3⟩
  have hbs : BsOut F4 (w6.alloc (.cells #[.slice (some ⟨w4.heap.size, 0, none⟩) 64 64, .slice (some ⟨w5.heap.size, 0, none⟩) 64 64] 32)) (.slice (some ⟨w6.heap.size, 0, none⟩) 2 2) [Dv.f_ 2, Dv.f_ 3] :=
    bso_lit w6 _ [Dv.f_ 2, Dv.f_ 3] 2 rfl (by decide) (HP.out.lt hD6) (fun j hj => by
      match j, hj with
      | 0, _ => exact ⟨_, rfl, hB5'.out rfl (by decide) (not_new (HP.out.lt hD4) _ (Nat.le_refl _))⟩
      | 1, _ => exact ⟨_, rfl, hB6.out rfl (by decide) (not_new (HP.out.lt hD4) _ hb5.size)⟩)
  have hbw := bt5 hb4 (hb56.alloc hb56.size (.cells #[.slice (some ⟨w4.heap.size, 0, none⟩) 64 64, .slice (some ⟨w5.heap.size, 0, none⟩) 64 64] 32))
  have cW := HP.out.write g Dv.ex2 F4 0 _ _ _ (HP.out.later hD6 ((Below.refl _ _).alloc (Nat.le_refl _) _)) (fair_of (by decide) (by decide) (by decide) (by decide)) hbs (by decide) (by omega) (HE.out _ hbw)
  rw [Dv.ex_3] at cW
  have HBW := Lib.hid hbw
  clear hbs hD4 hD6 hB5 hB5' hB6 hb5 hb6 hb56 hbw hb4
  go_wp2_with fail
  refine cW.mono ?_
  rintro e w7 ⟨F7, rfl, hD7, ht7, hm7⟩
  clear cW
  have hF7 := hm7.up hF4 HBW.out.size
  have hb7 := ht7.below hF4 HBW.out HBW.out.size
  clear ht7 hm7 hF4 HBW
  have hKI : KIn F7 (w7.alloc (.cells #[.bool false, .bool true] 4)) (.slice (some ⟨w7.heap.size, 0, none⟩) 2 2) [false, true] :=
    ⟨_, 2, rfl, Nat.le_refl _, by decide, .inr ⟨w7.heap.size, 0, rfl, by simp, not_new (HP.out.lt hD7) _ (Nat.le_refl _), fun j hj => by
      match j, hj with
      | 0, _ => rw [World.cell?_alloc_at _ _ _ _ rfl]; rfl
      | 1, _ => rw [World.cell?_alloc_at _ _ _ _ rfl]; rfl⟩⟩
  have hbk := hb7.alloc hb7.size (.cells #[.bool false, .bool true] 4)
  have cK := HP.out.crash g Dv.ex3 F7 _ _ (-1) 0 _ (HP.out.later hD7 ((Below.refl _ _).alloc (Nat.le_refl _) _)) (fair_of (by decide) (by decide) (by decide) (by decide)) hKI (by decide) (by decide) (HE.out _ hbk)
  rw [Dv.ex_4] at cK
  unfold mkCrash at cK
  have HBK := Lib.hid hbk
  clear hKI hD7 hbk hb7
  go_wp2_with fail
  refine cK.mono ?_
  rintro e w8 ⟨F8, x8, rfl, hD8, ht8, hm8⟩
  clear cK
  have hF8 := hm8.up hF7 HBK.out.size
  have hb8 := ht8.below hF7 HBK.out HBK.out.size
  clear ht8 hm8 hF7 HBK
  have cR := HP.out.read g Dv.ex4 F8 0 3 w8 hD8 (fair_of (by decide) (by decide) (by decide) (by decide)) (by decide) (by decide) (HE.out _ hb8)
  rw [Dv.ex_5] at cR
  clear hD8
  go_wp2_with fail
  refine cR.mono ?_
  rintro e w9 ⟨F9, v9, rfl, hD9, ht9, hm9, hR9⟩
  clear cR
  have hb9 := ht9.below hF8 hb8 hb8.size
  have hI9 := hR9.in_
  clear ht9 hm9 hF8 hb8 hR9 hD9
  have c4 := filled_w 1 w9
  go_wp2_with fail
  refine c4.mono ?_
  rintro e wa ⟨rfl, hBa, hba⟩
  clear c4
  have c5 := filled_w 3 wa
  go_wp2_with fail
  refine c5.mono ?_
  rintro e wb ⟨rfl, hBb, hbb⟩
  clear c5
  have c6 := filled_w 0 wb
  go_wp2_with fail
  refine c6.mono ?_
  rintro e wc ⟨rfl, hBc, hbc⟩
  clear c6
  have hall := bt5 hba (bt5 hbb hbc)
  have hbs : BsIn (wc.alloc (.cells #[.slice (some ⟨w9.heap.size, 0, none⟩) 64 64, .slice (some ⟨wa.heap.size, 0, none⟩) 64 64, .slice (some ⟨wb.heap.size, 0, none⟩) 64 64] 32)) (.slice (some ⟨wc.heap.size, 0, none⟩) 3 3) [Dv.f_ 1, Dv.f_ 3, Dv.f_ 0] :=
    bs_lit wc _ [Dv.f_ 1, Dv.f_ 3, Dv.f_ 0] 3 rfl (by decide) (fun j hj => by
      match j, hj with
      | 0, _ => exact ⟨_, rfl, (hBa.in_ rfl (Nat.le_refl _) (by decide)).later (bt5 hbb hbc), some_ok _ _ _⟩
      | 1, _ => exact ⟨_, rfl, (hBb.in_ rfl (Nat.le_refl _) (by decide)).later hbc, some_ok _ _ _⟩
      | 2, _ => exact ⟨_, rfl, hBc.in_ rfl (Nat.le_refl _) (by decide), some_ok _ _ _⟩)
  have hbz := hall.alloc hall.size (.cells #[.slice (some ⟨w9.heap.size, 0, none⟩) 64 64, .slice (some ⟨wa.heap.size, 0, none⟩) 64 64, .slice (some ⟨wb.heap.size, 0, none⟩) 64 64] 32)
  have cS := Same_w _ _ _ _ _ (hI9.later hbz) hbs
  rw [decide_eq_true rfl] at cS
  have HBZ := Lib.hid (bt5 hb9 hbz)
  clear hbs hBa hBb hBc hba hbb hbc hall hbz hI9 hb9
  go_wp2_with fail
  refine cS.mono ?_
  rintro e wd ⟨rfl, hbd⟩
  clear cS
  go_wp2_with fail
  go_ret
  exact ⟨rfl, bt5 HBZ.out hbd⟩
end Go.Proofs.Ytaagfgkoglhfaaa
