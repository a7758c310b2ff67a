/- The law PageApart. -/
import Derived.Test.YtlipgphmhkjnpaaDoorPgP
namespace Go.Proofs.YtlipgphmhkjnpaaDoor
open Go.RowKit
section
variable {Env : World → Prop} {Dev : World → Nat → Dv.S → (Nat → Prop) → Prop}

set_option maxHeartbeats 3200000 in
set_option maxRecDepth 100000 in
theorem apart14 (P : Prog14 Env Dev) (k0 k1 : Int) (hk0 : -9223372036854775808 ≤ k0 ∧ k0 ≤ 9223372036854775807) (hk1 : -9223372036854775808 ≤ k1 ∧ k1 ≤ 9223372036854775807) (va vb : Value) (a b : List UInt8) (w : World) (ha : BIn w va a) (hna : NilOk va) (hb : BIn w vb b) (hnb : NilOk vb) (hE : Env w) :
    Calls Tryd.prog 6 #[.agg #[.int .i64 k0, .int .i64 k1], va, vb] w fun e w' => e = .returned (.bool true) ∧ Below w.heap.size w w' := by
  have HA := Lib.hid ha
  have HB := Lib.hid hb
  have HNA := Lib.hid hna
  have HNB := Lib.hid hnb
  have HE := Lib.hid hE
  obtain ⟨xa, ca, rfl, hla, hca, _⟩ := ha
  obtain ⟨xb, cb, rfl, hlb, hcb, _⟩ := hb
  obtain ⟨la, hla9⟩ : ∃ la, la = a.length := ⟨_, rfl⟩
  obtain ⟨lb, hlb9⟩ : ∃ lb, lb = b.length := ⟨_, rfl⟩
  have HLA := Lib.hid hla9
  have HLB := Lib.hid hlb9
  rw [← hla9] at hla HA HNA ⊢
  rw [← hlb9] at hlb HB HNB ⊢
  have hb0 : Below w.heap.size w (w.alloc (.cells #[.int .i64 k0, .int .i64 k1] 65)) := (Below.refl _ w).alloc (Nat.le_refl _) _
  have hr0 := heap_alloc_new w (.cells #[.int .i64 k0, .int .i64 k1] 65)
  have K0 := Lib.hid hk0
  have K1 := Lib.hid hk1
  clear hna hnb hE hla9 hlb9 hk0 hk1
  go_enter Tryd.func6, Tryd.ntmps6
  go_upto_region 1 with fail
  generalize w.alloc (.cells #[.int .i64 k0, .int .i64 k1] 65) = W0 at hb0 hr0 ⊢
  obtain ⟨g, hgg⟩ : ∃ g, g = w.heap.size := ⟨_, rfl⟩
  rw [← hgg] at hr0 ⊢
  have c0 : W0.cell? ⟨g, 0, none⟩ = some (.int .i64 k0) := (blk_cell hr0 0 _ rfl).1
  have c1 : W0.cell? ⟨g, 1, none⟩ = some (.int .i64 k1) := (blk_cell hr0 1 _ rfl).1
  have cA := awake14 P W0 (P.env HE.out hb0)
  have HB0 := Lib.hid hb0
  clear hgg hr0 hb0
  by_cases hbig : 600 < la ∨ 600 < lb
  · have cA2 := fun (W : World) (hb : Below W0.heap.size W0 W) => awake14 P W (P.env HE.out (bt5 HB0.out hb))
    have HA2 := Lib.hid cA2
    clear cA2 c0 c1
    by_cases h6 : (600 : Int) < la
    · go_wp2_with fail
      refine cA.mono ?_
      rintro e w1 ⟨rfl, hb1⟩
      go_wp2_with fail
      refine (HA2.out w1 hb1).mono ?_
      rintro e w2 ⟨rfl, hb2⟩
      go_wp2_with fail
      go_ret
      exact ⟨rfl, bt5 (bt5 HB0.out hb1) hb2⟩
    · have h7 : (600 : Int) < lb := by omega
      go_wp2_with fail
      refine cA.mono ?_
      rintro e w1 ⟨rfl, hb1⟩
      go_wp2_with fail
      refine (HA2.out w1 hb1).mono ?_
      rintro e w2 ⟨rfl, hb2⟩
      go_wp2_with fail
      go_ret
      exact ⟨rfl, bt5 (bt5 HB0.out hb1) hb2⟩
  have h6 : ¬ (600 : Int) < la := by omega
  have h7 : ¬ (600 : Int) < lb := by omega
  clear hbig
  go_wp2_with fail
  refine cA.mono ?_
  rintro e w1 ⟨rfl, hb1⟩
  clear cA
  have d0 := cell_later hb1 c0
  have HB1 := Lib.hid (bt5 HB0.out hb1)
  have hbs := bs_lit w1 #[.slice xa la ca] [a] 1 rfl (by decide) (fun j hj => by
    match j, hj with
    | 0, _ => exact ⟨_, rfl, HA.out.later HB1.out, HNA.out⟩)
  have hb2 : Below w1.heap.size w1 (w1.alloc (.cells #[.slice xa la ca] 23)) := (Below.refl _ w1).alloc (Nat.le_refl _) _
  have cP := P.pack k0 _ _ _ hbs (by rw [List.flatten_singleton, ← HLA.out]; omega) (show 1 ≤ 1000 by decide) K0.out (P.env HE.out (bt5 HB1.out hb2))
  rw [List.flatten_singleton] at cP
  have HB2 := Lib.hid (bt5 HB1.out hb2)
  have c2 := cell_later (bt5 hb1 hb2) c1
  have c3 := cell_later hb2 d0
  clear hbs hb2 hb1 c0 c1
  go_wp2_with fail
  refine cP.mono ?_
  rintro e w3 ⟨x, rfl, hb3, hX, hNX⟩
  clear cP d0
  have d1 := cell_later hb3 c2
  have d0 := cell_later hb3 c3
  clear c3
  have HX := Lib.hid hX
  have HNX := Lib.hid hNX
  have HB3 := Lib.hid (bt5 HB2.out hb3)
  have hbs2 := bs_lit w3 #[.slice xb lb cb] [b] 1 rfl (by decide) (fun j hj => by
    match j, hj with
    | 0, _ => exact ⟨_, rfl, HB.out.later HB3.out, HNB.out⟩)
  have hb4 : Below w3.heap.size w3 (w3.alloc (.cells #[.slice xb lb cb] 23)) := (Below.refl _ w3).alloc (Nat.le_refl _) _
  have cQ := P.pack k1 _ _ _ hbs2 (by rw [List.flatten_singleton, ← HLB.out]; omega) (show 1 ≤ 1000 by decide) K1.out (P.env HE.out (bt5 HB3.out hb4))
  rw [List.flatten_singleton] at cQ
  have HB4 := Lib.hid hb4
  have q0 := cell_later hb4 d0
  have q1 := cell_later hb4 d1
  have HD := Lib.hid (And.intro d0 d1)
  clear d0
  clear hbs2 hb4 hX hNX hb3 c2
  go_wp2_with fail
  refine cQ.mono ?_
  rintro e w5 ⟨y, rfl, hb5, hY, hNY⟩
  clear cQ
  have r0 := cell_later hb5 q0
  have r1 := cell_later hb5 q1
  have HB5 := Lib.hid (bt5 (bt5 HB3.out HB4.out) hb5)
  have hX5 := HX.out.later (bt5 HB4.out hb5)
  have hcx := hX5.all HNX.out
  have hcy := hY.all hNY
  have hca9 := (HA.out.later HB5.out).all HNA.out
  have hcb9 := (HB.out.later HB5.out).all HNB.out
  obtain ⟨X, E, hp⟩ : ∃ X E, (X, E) = Pg.pack k0 a := ⟨_, _, rfl⟩
  obtain ⟨Y, F, hq⟩ : ∃ Y F, (Y, F) = Pg.pack k1 b := ⟨_, _, rfl⟩
  have HP := Lib.hid hp
  have HQ := Lib.hid hq
  rw [← hp] at hX5 hcx ⊢
  rw [← hq] at hY hcy ⊢
  clear hp hq HX
  obtain ⟨ax, cx, hx9, -⟩ := id hX5
  obtain ⟨ay, cy, hy9, -⟩ := id hY
  clear hX5 hY hNY q0 q1 HD HNX hb5 d1
  subst hx9 hy9
  by_cases hE0 : E = 0
  · subst hE0
    by_cases hF0 : F = 0
    · subst hF0
      by_cases hXY : X = Y
      · subst hXY
        obtain ⟨rfl, rfl⟩ := Pg.pack_inj HP.out.symm HQ.out.symm
        go_wp2_with fail
        go_ret
        exact ⟨rfl, HB5.out⟩
      · have hs := str_no hXY
        by_cases hk : k0 = k1
        · subst hk
          have hab : a ≠ b := fun e => hXY (by
            have h1 := HP.out
            have h2 := HQ.out
            rw [e, ← h2] at h1
            injection h1)
          have hs2 := str_no hab
          go_wp2_with fail
          go_ret
          exact ⟨rfl, HB5.out⟩
        · go_wp2_with fail
          go_ret
          exact ⟨rfl, HB5.out⟩
    · have hY0 : Y = [] := by have := Pg.pack_bad (k := k1) (b := b) (by rw [← HQ.out]; exact hF0); rw [← HQ.out] at this; exact this
      subst hY0
      have hF1 : (F == 0) = false := beq_eq_false_iff_ne.2 hF0
      have hF2 : (F != 0) = true := bne_iff_ne.2 hF0
      go_wp2_with fail
      go_ret
      exact ⟨rfl, HB5.out⟩
  · have hX0 : X = [] := by have := Pg.pack_bad (k := k0) (b := a) (by rw [← HP.out]; exact hE0); rw [← HP.out] at this; exact this
    subst hX0
    have hE1 : (E == 0) = false := beq_eq_false_iff_ne.2 hE0
    have hE2 : (E != 0) = true := bne_iff_ne.2 hE0
    by_cases hF0 : F = 0
    · subst hF0
      go_wp2_with fail
      go_ret
      exact ⟨rfl, HB5.out⟩
    · have hY0 : Y = [] := by have := Pg.pack_bad (k := k1) (b := b) (by rw [← HQ.out]; exact hF0); rw [← HQ.out] at this; exact this
      subst hY0
      have hF1 : (F == 0) = false := beq_eq_false_iff_ne.2 hF0
      have hF2 : (F != 0) = true := bne_iff_ne.2 hF0
      go_wp2_with fail
      go_ret
      exact ⟨rfl, HB5.out⟩
end
end Go.Proofs.YtlipgphmhkjnpaaDoor
