/- The law PagePacks. -/
import Derived.Test.YtlipgphmhkjnpaaDoorPgJ
namespace Go.Proofs.YtlipgphmhkjnpaaDoor
open Go.RowKit
section
variable {Env : World → Prop} {Dev : World → Nat → Dv.S → (Nat → Prop) → Prop}

set_option maxHeartbeats 3200000 in
set_option maxRecDepth 100000 in
theorem packs14 (P : Prog14 Env Dev) (k0 : Int) (hk0 : -9223372036854775808 ≤ k0 ∧ k0 ≤ 9223372036854775807) (v vb : Value) (ls : List (List UInt8)) (b : List UInt8) (w : World) (h : BsIn w v ls) (hb : BIn w vb b) (hnb : NilOk vb) (hE : Env w) :
    Calls Tryd.prog 3 #[.int .i64 k0, v, vb] w fun e w' => e = .returned (.bool true) ∧ Below w.heap.size w w' := by
  have HV := Lib.hid h
  have HB := Lib.hid hb
  have HNB := Lib.hid hnb
  have HE := Lib.hid hE
  have K0 := Lib.hid hk0
  have cA := fun (W : World) (hb : Below w.heap.size w W) => awake14 P W (P.env hE hb)
  have HA := Lib.hid cA
  have cJ := joined14 v ls w h
  obtain ⟨xb, cb, rfl, hlb, hcb, _⟩ := hb
  obtain ⟨lb, hlb9⟩ : ∃ lb, lb = b.length := ⟨_, rfl⟩
  have HLB := Lib.hid hlb9
  rw [← hlb9] at hlb HB HNB ⊢
  clear hnb hE hlb9 hk0 cA h
  go_enter Tryd.func3, Tryd.ntmps3
  go_wp2_with fail
  refine cJ.mono ?_
  rintro e w1 ⟨u, ok, rfl, hb1, hok⟩
  clear cJ
  have HB1 := Lib.hid hb1
  cases ok with
  | false =>
    clear hok
    go_wp2_with fail
    refine (HA.out w1 hb1).mono ?_
    rintro e w2 ⟨rfl, hb2⟩
    have hb2 := bt5 hb1 hb2
    go_wp2_with fail
    refine (HA.out w2 hb2).mono ?_
    rintro e w3 ⟨rfl, hb3⟩
    go_wp2_with fail
    go_ret
    exact ⟨rfl, bt5 hb2 hb3⟩
  | true =>
    obtain ⟨hBu, hl12, hl21⟩ := hok rfl
    clear hok
    have HL := Lib.hid (And.intro hl12 hl21)
    have HBU := Lib.hid hBu.in_
    clear hBu hl12 hl21
    by_cases h10 : (1000 : Int) < lb
    · go_wp2_with fail
      refine (HA.out w1 hb1).mono ?_
      rintro e w2 ⟨rfl, hb2⟩
      have hb2 := bt5 hb1 hb2
      go_wp2_with fail
      refine (HA.out w2 hb2).mono ?_
      rintro e w3 ⟨rfl, hb3⟩
      go_wp2_with fail
      go_ret
      exact ⟨rfl, bt5 hb2 hb3⟩
    go_wp2_with fail
    refine (HA.out w1 hb1).mono ?_
    rintro e w2 ⟨rfl, hb2⟩
    have HB2 := Lib.hid (bt5 hb1 hb2)
    have HBU2 := Lib.hid (And.intro (HBU.out.1.later hb2) HBU.out.2)
    obtain ⟨A, hA⟩ : ∃ A, A = ls.flatten := ⟨_, rfl⟩
    have cP := P.pack k0 v ls w2 (HV.out.later HB2.out) (by have := HL.out.1; omega) (by have := HL.out.2; omega) K0.out (P.env HE.out HB2.out)
    have HAL : Hid (A.length ≤ 12600) := Lib.hid (by rw [hA]; exact HL.out.1)
    rw [← hA] at cP HBU2
    clear HBU hA hb1 hb2
    obtain ⟨X, E, hp⟩ : ∃ X E, (X, E) = Pg.pack k0 A := ⟨_, _, rfl⟩
    have HP := Lib.hid hp
    rw [← hp] at cP
    go_wp2_with fail
    refine cP.mono ?_
    rintro e w3 ⟨x, rfl, hb3, hX, hNX⟩
    clear cP
    have HX3 := Lib.hid (And.intro hX hNX)
    have cQ := rPack_w k0 u A w3 (HBU2.out.1.later hb3) K0.out
    rw [← hp] at cQ
    have HB3 := Lib.hid (bt5 HB2.out hb3)
    have HBU3 := Lib.hid (And.intro (HBU2.out.1.later hb3) HBU2.out.2)
    clear HBU2 hX hNX hb3 hp
    go_wp2_with fail
    refine cQ.mono ?_
    rintro e w4 ⟨y, rfl, hY⟩
    clear cQ
    have HX4 := Lib.hid (And.intro (HX3.out.1.later hY.below) HX3.out.2)
    have HBU4 := Lib.hid (And.intro (HBU3.out.1.later hY.below) HBU3.out.2)
    have HB4 := Lib.hid (bt5 HB3.out hY.below)
    have hcx := HX4.out.1.all HX4.out.2
    have hcy := hY.in_.1.all hY.in_.2
    clear HX3 HBU3 hY
    have HCX := Lib.hid hcx
    go_upto_if 62 with fail
    go_cut [13] (fun u13 wx => Below w4.heap.size w4 wx)
    case first =>
      by_cases hE0 : E = 0
      · subst hE0
        have hun : Pg.unp X = (k0.toNat, A, true) := by unfold Pg.unp; rw [Pg.unpack_pack HP.out.symm]
        have hk9 : ((k0.toNat : Nat) : Int) = k0 := by have := (Pg.pack_ok HP.out.symm).1; omega
        have cU := P.unpack x X w4 HX4.out.1 HX4.out.2 (by have := Pg.pack_len (k := k0) (b := A) (by rw [← HP.out]); rw [← HP.out] at this; show X.length ≤ _; have h8 : X.length = 512 := this; omega) (P.env HE.out HB4.out)
        rw [hun] at cU
        simp only [hk9] at cU
        clear hun hcx hcy
        go_wp2_with fail
        refine cU.mono ?_
        rintro e w5 ⟨z, rfl, hb5, hZ, hNZ⟩
        clear cU
        have hcz := hZ.all hNZ
        have hcu := (HBU4.out.1.later hb5).all HBU4.out.2
        obtain ⟨az, cz, hz9, -⟩ := id hZ
        subst hz9
        clear hZ hNZ
        go_wp2_with fail
        go_meet
        exact hb5
      · have hE1 : (E == 0) = false := beq_eq_false_iff_ne.2 hE0
        clear hcx hcy
        go_wp2_with fail
        go_meet
        exact Below.refl _ _
    case rest =>
      clear hcx hcy HCX HX4 HP
      have HB5 := Lib.hid (bt5 HB4.out hcut)
      have hbuf := Buf.none_ wc wc (Below.refl _ wc)
      have hba : Below wc.heap.size wc (wc.alloc (.cells #[] 5)) := (Below.refl _ wc).alloc (Nat.le_refl _) _
      have HIN := Lib.hid (HB.out.later (bt5 HB5.out hba))
      have hlen : ([] : List UInt8).length + b.length ≤ 1000000000 := by rw [List.length_nil, ← HLB.out]; omega
      clear hcut hba HBU4
      go_wp2_with (at_builtin; refine appBs hbuf HIN.out HNB.out hlen rfl _ _ rfl rfl rfl ?_; intro v7 w7 hB7 hN7; rw [List.nil_append] at hB7)
      have HB7 := Lib.hid (bt5 HB5.out hB7.below)
      have cU := P.unpack v7 b w7 hB7.in_.1 hB7.in_.2 (by rw [← HLB.out]; omega) (P.env HE.out HB7.out)
      obtain ⟨K, C, t, hu⟩ : ∃ K C t, (K, C, t) = Pg.unp b := ⟨_, _, _, rfl⟩
      have cR := fun (W : World) (hW : Below w.heap.size w W) => rUnpack_w (.slice xb lb cb) b W (HB.out.later hW) HNB.out
      have CR := Lib.hid cR
      have HU := Lib.hid hu
      rw [← hu] at cU
      obtain ⟨G, hG⟩ : ∃ G : Int, G = if t = true then 0 else 33 := ⟨_, rfl⟩
      have HG := Lib.hid hG
      simp only [← hG] at cU
      clear hG
      clear hbuf hlen HIN hB7 hN7 cR hu
      go_wp2_with fail
      refine cU.mono ?_
      rintro e w8 ⟨z, rfl, hb8, hZ, hNZ⟩
      clear cU
      have HZ := Lib.hid (And.intro hZ hNZ)
      have HB8 := Lib.hid (bt5 HB7.out hb8)
      have cR := CR.out w8 HB8.out
      rw [← HU.out] at cR
      clear hZ hNZ hb8 CR
      go_wp2_with fail
      refine cR.mono ?_
      rintro e w9 ⟨y9, rfl, hb9, hY, hNY⟩
      clear cR
      have hcz := (HZ.out.1.later hb9).all HZ.out.2
      have hcy9 := hY.all hNY
      have HB9 := Lib.hid (bt5 HB8.out hb9)
      clear hY hNY hb9 HZ
      cases t with
      | true =>
        have hG : G = 0 := HG.out
        subst hG
        go_wp2_with fail
        go_ret
        exact ⟨rfl, HB9.out⟩
      | false =>
        have hG : G = 33 := HG.out
        subst hG
        go_wp2_with fail
        go_ret
        exact ⟨rfl, HB9.out⟩
end
end Go.Proofs.YtlipgphmhkjnpaaDoor
