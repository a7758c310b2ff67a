/- The statements of layer 3: FieldPrints. -/
import Derived.Test.YtlekbnbdjahegaaDoorFd16
namespace Go.Proofs.YtlekbnbdjahegaaDoor
open Go.RowKit

theorem sizes_int {fs : List Fld.F} (h : ∀ f ∈ fs, f.1.length ≤ 9223372036854775807 ∧ f.2.length ≤ 9223372036854775807) : ∀ f ∈ fs, f.1.length ≤ 9223372036854775807 ∧ f.2.length ≤ 9223372036854775807 := fun f hf => by have := h f hf; omega

set_option maxHeartbeats 3200000 in
set_option maxRecDepth 100000 in
theorem prints_w (v : Value) (fs : List Fld.F) (vt : Value) (t : List UInt8) (w : World) (h : FIn w v fs) (hnil : NilOk v) (hl : fs.length ≤ 9223372036854775807) (hz : ∀ f ∈ fs, f.1.length ≤ 9223372036854775807 ∧ f.2.length ≤ 9223372036854775807) (ht : BIn w vt t) (htn : NilOk vt) (hm : MaxOk w) :
    Calls Tryd.prog 4 #[v, vt] w fun e w' => e = .returned (.bool true) ∧ Below w.heap.size w w' := by
  have HM := Lib.hid hm
  have HV := Lib.hid h
  have HT := Lib.hid ht
  have HTN := Lib.hid htn
  have cA := fun (w1 : World) (hb : Below w.heap.size w w1) => awake_w w1 (hm.later hb)
  have cS := fun (w1 : World) (hb : Below w.heap.size w w1) => short_w v fs 150 w1 (h.later hb) (by decide) hl (sizes_int hz)
  have hwb : Below w.heap.size w w := Below.refl _ _
  obtain ⟨ao, c, hv, _⟩ := h
  obtain ⟨at_, ct, rfl, htc, ht9, _⟩ := ht
  obtain ⟨T, hT⟩ : ∃ T, T = t.length := ⟨_, rfl⟩
  have HTL := Lib.hid hT
  rw [← hT] at htc HT HTN ⊢
  have hT9 : T ≤ 9223372036854775807 := by omega
  clear hnil htn hm hl hz hv
  by_cases hsh : shortF fs 150 = true
  case neg =>
    have hs0 : shortF fs 150 = false := by simpa using hsh
    rw [hs0] at cS
    clear hsh hs0 hT
    go_enter Tryd.func4, Tryd.ntmps4
    go_wp2_with fail
    refine (cA w hwb).mono ?_
    rintro e w1 ⟨rfl, hb1⟩
    go_wp2_with (go_at_call 12; refine (cS w1 hb1).mono ?_; rintro e w1' ⟨rfl, rfl⟩)
    refine (cA w1 hb1).mono ?_
    rintro e w2 ⟨rfl, hb2⟩
    go_wp2_with fail
    go_ret
    exact ⟨rfl, hb1.trans (hb2.mono hb1.size)⟩
  have hsm := shortF_small hsh (by decide)
  rw [hsh] at cS
  by_cases h5 : 500 < T
  · have b5 : (500 : Int) < (T : Int) := by omega
    clear h5 hT hsh hsm
    go_enter Tryd.func4, Tryd.ntmps4
    go_wp2_with fail
    refine (cA w hwb).mono ?_
    rintro e w1 ⟨rfl, hb1⟩
    go_wp2_with (go_at_call 12; refine (cS w1 hb1).mono ?_; rintro e w1' ⟨rfl, rfl⟩)
    refine (cA w1 hb1).mono ?_
    rintro e w2 ⟨rfl, hb2⟩
    go_wp2_with fail
    go_ret
    exact ⟨rfl, hb1.trans (hb2.mono hb1.size)⟩
  have b5 : ¬ (500 : Int) < (T : Int) := by omega
  have cF := fun (w1 : World) (hb : Below w.heap.size w w1) => rFault_w v fs w1 (HV.out.later hb) hsm
  have cR := fun (w1 : World) (hb : Below w.heap.size w w1) => Right_w v fs w1 (HV.out.later hb) hsm
  by_cases h0 : Fld.fault fs = 0
  case neg =>
    have cP := fun (w1 : World) (hb : Below w.heap.size w w1) => Print_no v fs w1 (HV.out.later hb) hsm h0
    have b1 : (Fld.fault fs == 0) = false := beq_eq_false_iff_ne.2 h0
    rw [b1] at cR
    generalize Fld.fault fs = z at cF cP b1
    clear h0 hT hsh hsm h5
    go_enter Tryd.func4, Tryd.ntmps4
    go_wp2_with fail
    refine (cA w hwb).mono ?_
    rintro e w1 ⟨rfl, hb1⟩
    go_wp2_with (go_at_call 12; refine (cS w1 hb1).mono ?_; rintro e w1' ⟨rfl, rfl⟩)
    refine (cP w1 hb1).mono ?_
    rintro e w2 ⟨rfl, hb2⟩
    have hb2 := hb1.trans (hb2.mono hb1.size)
    go_wp2_with fail
    refine (cF w2 hb2).mono ?_
    rintro e w3 ⟨rfl, hb3⟩
    have hb3 := hb2.trans (hb3.mono hb2.size)
    go_wp2_with fail
    refine (cR w3 hb3).mono ?_
    rintro e w4 ⟨rfl, hb4⟩
    have hb4 := hb3.trans (hb4.mono hb3.size)
    go_wp2_with fail
    go_ret
    exact ⟨rfl, hb4⟩
  have cP := fun (w1 : World) (hb : Below w.heap.size w w1) => Print_yes v fs w1 (HV.out.later hb) hsm h0
  have hps : (Fld.print fs).length ≤ 65536 := by rw [Fld.print_length]; exact (Fld.fault_zero h0).2.2
  have hpp := Fld.parse_print h0 t
  have hpr : Hid (∀ w1, Below w.heap.size w w1 → Calls Tryd.prog 16 #[v] w1 fun e w' => e = .returned (.string (str (Fld.print fs))) ∧ Below w1.heap.size w1 w') := fun w1 hb => rPrint_w v fs w1 (HV.out.later hb) hsm
  have hne : Fld.print fs ≠ [] := by unfold Fld.print; simp
  rw [h0] at cF cR
  rw [show ((0 : Int) == 0) = true from rfl] at cR
  have hfl : fs.length ≤ 1000000000 := by have := hsm.1; omega
  obtain ⟨P, hP⟩ : ∃ P, P = Fld.print fs := ⟨_, rfl⟩
  rw [← hP] at cP hps hpp hpr hne
  have HPP := Lib.hid hpp
  have hl1 : (P ++ t).length ≤ 1000000 := by rw [List.length_append, ← hT]; omega
  have hl2 : ([] : List UInt8).length + P.length ≤ 1000000000 := by simp; omega
  have hl3 : P.length + t.length ≤ 1000000000 := by rw [← hT]; omega
  clear h0 hT hsh hsm h5 hP hpp
  go_enter Tryd.func4, Tryd.ntmps4
  go_wp2_with fail
  refine (cA w hwb).mono ?_
  rintro e w1 ⟨rfl, hb1⟩
  go_wp2_with (go_at_call 12; refine (cS w1 hb1).mono ?_; rintro e w1' ⟨rfl, rfl⟩)
  refine (cP w1 hb1).mono ?_
  rintro e w2 ⟨vp, rfl, hPB⟩
  have hb2 := hb1.trans (hPB.2.mono hb1.size)
  go_wp2_with fail
  refine (cF w2 hb2).mono ?_
  rintro e w3 ⟨rfl, hb3'⟩
  have hb3 := hb2.trans (hb3'.mono hb2.size)
  go_wp2_with fail
  refine (cR w3 hb3).mono ?_
  rintro e w4 ⟨rfl, hb4'⟩
  have hb4 := hb3.trans (hb4'.mono hb3.size)
  have hPB4 := (hPB.after hb3').after hb4'
  have hPn : vp ≠ .slice none 0 0 := fun e => by
    rcases hPB4.1.2 with ⟨_, hz⟩ | ⟨g, cap, cur, hv, _⟩
    · exact hne (List.eq_nil_of_length_eq_zero hz)
    · rw [hv] at e; injection e with e; cases e
  have hbin := hPB4.bin hPn
  have hcvP := hPB4.string
  obtain ⟨gp, cp, hvp, _⟩ := hPB4.oc hPn
  have hE := Buf.none_ w4 w4 (Below.refl _ _)
  have hba : Below w4.heap.size w4 (w4.alloc (.cells #[] 5)) := (Below.refl _ w4).alloc (Nat.le_refl _) _
  have hbin1 := hbin.later hba
  have hT1 := (HT.out.later hb4).later hba
  have hTn1 := HTN.out
  have hnp : NilOk vp := by rw [hvp]; exact nil_ok _ _ _
  obtain ⟨PL, hPL⟩ : ∃ PL, PL = P.length := ⟨_, rfl⟩
  have HPL := Lib.hid hPL
  rw [← hPL] at hvp
  subst hvp
  have hPL9 : PL ≤ 65536 := by omega
  clear hPL
  go_wp2_with (first
    | (at_builtin; refine appBs hE hbin1 hnp hl2 rfl _ _ rfl rfl rfl ?_; intro v5 w5 hB5 hne5; rw [List.nil_append] at hB5; have hT5 := HT.out.later (hb4.trans (hB5.2.mono hb4.size)))
    | (at_builtin; refine appBs hB5 hT5 hTn1 hl3 rfl _ _ rfl rfl rfl ?_; intro v6 w6 hB6 hne6))
  obtain ⟨g6, c6, rfl, k1, k2, hO⟩ := hB6.oc (hne6 (hne5 (fun h => by injection h with h; cases h)))
  have hpar := Parse_w g6 c6 (P ++ t) w6 hl1 k1 k2 hO (HM.out.later (hb4.trans (hB6.2.mono hb4.size)))
  rw [HPP.out, ← HPL.out] at hpar
  refine hpar.mono ?_
  rintro e w7 ⟨u, rfl, hU⟩
  have hb47 : Below w4.heap.size w4 w7 := hB6.2.trans (hU.2.mono hB6.2.size)
  have hb7 := hb4.trans (hb47.mono hb4.size)
  have hf7 := hU.fin
  have hv7 := HV.out.later hb7
  have hP7 := hPB4.after hb47
  have l1 := fun p : LateOf w7 => (hP7.after p.h).string
  have l2 := fun p : LateOf w7 => hpr.out p.w (hb7.trans (p.h.mono hb7.size))
  have l3 := fun p : LateOf w7 => SameF_w u v fs fs p.w (hf7.later p.h) (hv7.later p.h) hfl
  rw [sameF_self] at l3
  have HB7 := Lib.hid hb7
  clear hpar hB6 hB5 hne6 hne5 hO hT5 hT1 hbin hbin1 hcvP hE hPB hP7 hPB4 hb47 hb7 hb4 hb4' hb3 hb3' hb2 hb1 hba cA cS cF cR cP hU hf7 hv7
  generalize str P = sP at l1 l2
  go_wp2_with fail
  refine wp_region_late (by kernel_rfl) (by kernel_rfl) ?_
  repeat (quiet_step (fail))
  quiet_step ((go_at_call 16; exact late _ (l2 _)))
  repeat (quiet_step (fail))
  quiet_step ((go_at_call 11; exact late _ (l3 _)))
  repeat (quiet_step (fail))
  refine wpQuiet_nil ?_
  intro w8 hw'
  have hb8 : Below w7.heap.size w7 w8 := by obtain ⟨p, rfl⟩ := hw'; exact p.h
  clear hw' l1 l2 l3
  go_wp2_with fail
  go_ret
  exact ⟨rfl, HB7.out.trans (hb8.mono HB7.out.size)⟩
end Go.Proofs.YtlekbnbdjahegaaDoor
