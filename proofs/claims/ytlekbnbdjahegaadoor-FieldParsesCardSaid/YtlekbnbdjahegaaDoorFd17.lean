/- The statements of layer 3: FieldParses. -/
import Derived.Test.YtlekbnbdjahegaaDoorFd16
namespace Go.Proofs.YtlekbnbdjahegaaDoor
open Go.RowKit

theorem go_length (b : List UInt8) : ∀ (k n : Nat) (acc : List Fld.F), acc.length ≤ 128 → (Fld.go b k n acc).1.length ≤ 128
  | 0, _, _, _ => Nat.zero_le _
  | k + 1, n, acc, ha => by
    unfold Fld.go
    cases h1 : Fld.endAt b n with
    | none => exact Nat.zero_le _
    | some e =>
      simp only []
      by_cases h2 : e + 2 > 65536
      · rw [if_pos h2]; exact Nat.zero_le _
      · rw [if_neg h2]
        by_cases h3 : e = n
        · rw [if_pos h3]; exact ha
        · rw [if_neg h3]
          cases h4 : Fld.fieldOf ((b.take e).drop n) with
          | none => exact Nat.zero_le _
          | some f =>
            simp only []
            by_cases h5 : acc.length ≥ 128
            · rw [if_pos h5]; exact Nat.zero_le _
            · rw [if_neg h5]; exact go_length b k (e + 2) (acc ++ [f]) (by rw [List.length_append]; simp; omega)
theorem parse_length (l : List UInt8) : (Fld.parse l).1.length ≤ 1000000000 := by
  have := go_length l (l.length + 1) 0 [] (by simp)
  unfold Fld.parse; omega

set_option maxHeartbeats 3200000 in
set_option maxRecDepth 100000 in
theorem parses_w (v : Value) (l : List UInt8) (w : World) (h : BIn w v l) (hnil : NilOk v) (hm : MaxOk w) :
    Calls Tryd.prog 3 #[v] w fun e w' => e = .returned (.bool true) ∧ Below w.heap.size w w' := by
  have HV := Lib.hid h
  have HNIL := Lib.hid hnil
  have cA := fun (w1 : World) (hb : Below w.heap.size w w1) => awake_w w1 (hm.later hb)
  have HM := Lib.hid hm
  have hwb : Below w.heap.size w w := Below.refl _ _
  obtain ⟨ao, c, rfl, hlc, hc9, _⟩ := h
  obtain ⟨L, hL⟩ : ∃ L, L = l.length := ⟨_, rfl⟩
  have HL := Lib.hid hL
  rw [← hL] at hlc HV HNIL ⊢
  clear hnil hm
  by_cases h5 : 5000 < L
  · have b5 : (5000 : Int) < (L : Int) := by omega
    clear h5 hL
    go_enter Tryd.func3, Tryd.ntmps3
    go_wp2_with fail
    refine (cA w hwb).mono ?_
    rintro e w1 ⟨rfl, hb1⟩
    go_wp2_with fail
    refine (cA w1 hb1).mono ?_
    rintro e w2 ⟨rfl, hb2⟩
    go_wp2_with fail
    go_ret
    exact ⟨rfl, hb1.trans (hb2.mono hb1.size)⟩
  · have b5 : ¬ (5000 : Int) < (L : Int) := by omega
    have hl6 : l.length ≤ 1000000 := by rw [← hL]; omega
    have hlen : ([] : List UInt8).length + l.length ≤ 1000000000 := by simp; omega
    clear h5 hL
    go_enter Tryd.func3, Tryd.ntmps3
    go_wp2_with fail
    refine (cA w hwb).mono ?_
    rintro e w1 ⟨rfl, hb1⟩
    have hE := Buf.none_ w w1 hb1
    have hV1 : BIn (w1.alloc (.cells #[] 5)) (.slice ao L c) l := by
      exact (HV.out.later hb1).later ((Below.refl _ w1).alloc (Nat.le_refl _) (.cells #[] 5))
    have hN1 : NilOk (.slice ao L c) := HNIL.out
    go_wp2_with (at_builtin; refine appBs hE hV1 hN1 hlen rfl _ _ rfl rfl rfl ?_; intro v' w2 hB2 hne2)
    rw [List.nil_append] at hB2
    obtain ⟨g, cap, rfl, k1, k2, hO⟩ := hB2.oc (hne2 (fun h => by injection h with h; cases h))
    have hP := Parse_w g cap l w2 hl6 k1 k2 hO (HM.out.later hB2.2)
    obtain ⟨pl, hpl⟩ : ∃ pl, pl = Fld.parse l := ⟨_, rfl⟩
    have hpsz : pl.1.length ≤ 1000000000 := by rw [hpl]; exact parse_length l
    rw [← hpl] at hP
    refine hP.mono ?_
    rintro e w3 ⟨u, rfl, hU⟩
    have hb3 : Below w.heap.size w w3 := hB2.2.trans (hU.2.mono hB2.2.size)
    have hR := rParse_w (.slice ao L c) l w3 hl6 (HV.out.later hb3)
    rw [← hpl] at hR
    clear hP hE hV1 hN1 hne2 hB2 hO hpl
    obtain ⟨fs, pn, pe⟩ := pl
    go_wp2_with fail
    refine hR.mono ?_
    rintro e w4 ⟨t, rfl, hT⟩
    have hS := SameF_w u t fs fs w4 ((hU.after hT.2).fin) hT.fin hpsz
    rw [sameF_self] at hS
    have hb4 : Below w.heap.size w w4 := hb3.trans (hT.2.mono hb3.size)
    clear hU hT hR
    go_wp2_with fail
    refine hS.mono ?_
    rintro e w5 ⟨rfl, hb5⟩
    go_wp2_with fail
    go_ret
    exact ⟨rfl, hb4.trans (hb5.mono hb4.size)⟩
end Go.Proofs.YtlekbnbdjahegaaDoor
