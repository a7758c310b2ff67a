/- The statements of layer 9: VaryKeys. -/
import Derived.Test.YtelndkglimkfeaaDoorVr10
namespace Go.Proofs.YtelndkglimkfeaaDoor
open Go.RowKit

set_option maxHeartbeats 3200000 in
set_option maxRecDepth 100000 in
theorem keys_w (vn : Value) (ns : List (List UInt8)) (va : Value) (fa : List Fld.F) (vb : Value) (fb : List Fld.F) (w : World) (hn : SIn w vn ns) (ln : ns.length ≤ 9223372036854775807) (zn : ∀ l ∈ ns, l.length ≤ 9223372036854775807)
    (ha : FIn w va fa) (la : fa.length ≤ 9223372036854775807) (za : ∀ f ∈ fa, f.1.length ≤ 9223372036854775807 ∧ f.2.length ≤ 9223372036854775807) (hb : FIn w vb fb) (lb : fb.length ≤ 9223372036854775807) (zb : ∀ f ∈ fb, f.1.length ≤ 9223372036854775807 ∧ f.2.length ≤ 9223372036854775807) :
    Calls Tryd.prog 4 #[vn, va, vb] w fun e w' => e = .returned (.bool true) ∧ Below w.heap.size w w' := by
  have cF := fun (w1 : World) (h : Below w.heap.size w w1) => few_w vn ns w1 (hn.later h) ln zn
  have cA := fun (w1 : World) (h : Below w.heap.size w w1) => short_w va fa w1 (ha.later h) la za
  have cB := fun (w1 : World) (h : Below w.heap.size w w1) => short_w vb fb w1 (hb.later h) lb zb
  by_cases hfew : fewS ns = true
  case neg =>
    have f0 : fewS ns = false := by simpa using hfew
    rw [f0] at cF
    clear hfew
    go_enter Tryd.func4, Tryd.ntmps4
    go_wp2_with fail
    refine (awake_w w).mono ?_
    rintro e w1 ⟨rfl, hb1⟩
    go_wp2_with fail
    refine (cF w1 hb1).mono ?_
    rintro e w0 ⟨rfl, rfl⟩
    go_wp2_with fail
    refine (awake_w w1).mono ?_
    rintro e wz ⟨rfl, hbz⟩
    go_wp2_with fail
    go_ret
    exact ⟨rfl, hb1.trans (hbz.mono hb1.size)⟩
  rw [hfew] at cF
  have n1 := (fewS_spec hfew).1
  have n2 : ∀ n ∈ ns, n.length ≤ 1000 := fun l hl => Nat.le_trans ((fewS_spec hfew).2 l hl) (by decide)
  by_cases hsa : shortS fa = true
  case neg =>
    have a0 : shortS fa = false := by simpa using hsa
    rw [a0] at cA
    clear hsa
    go_enter Tryd.func4, Tryd.ntmps4
    go_wp2_with fail
    refine (awake_w w).mono ?_
    rintro e w1 ⟨rfl, hb1⟩
    go_wp2_with fail
    refine (cF w1 hb1).mono ?_
    rintro e w0 ⟨rfl, rfl⟩
    go_wp2_with fail
    refine (cA w1 hb1).mono ?_
    rintro e w0 ⟨rfl, rfl⟩
    go_wp2_with fail
    refine (awake_w w1).mono ?_
    rintro e wz ⟨rfl, hbz⟩
    go_wp2_with fail
    go_ret
    exact ⟨rfl, hb1.trans (hbz.mono hb1.size)⟩
  rw [hsa] at cA
  by_cases hsb : shortS fb = true
  case neg =>
    have b0 : shortS fb = false := by simpa using hsb
    rw [b0] at cB
    clear hsb
    go_enter Tryd.func4, Tryd.ntmps4
    go_wp2_with fail
    refine (awake_w w).mono ?_
    rintro e w1 ⟨rfl, hb1⟩
    go_wp2_with fail
    refine (cF w1 hb1).mono ?_
    rintro e w0 ⟨rfl, rfl⟩
    go_wp2_with fail
    refine (cA w1 hb1).mono ?_
    rintro e w0 ⟨rfl, rfl⟩
    go_wp2_with fail
    refine (cB w1 hb1).mono ?_
    rintro e w0 ⟨rfl, rfl⟩
    go_wp2_with fail
    refine (awake_w w1).mono ?_
    rintro e wz ⟨rfl, hbz⟩
    go_wp2_with fail
    go_ret
    exact ⟨rfl, hb1.trans (hbz.mono hb1.size)⟩
  rw [hsb] at cB
  have cK := fun (w1 : World) (h : Below w.heap.size w w1) => Key_w vn ns va fa w1 (hn.later h) n1 n2 (ha.later h) (shortS_fits hsa) (shortS_joined hsa)
  have cRK := fun (w1 : World) (h : Below w.heap.size w w1) => rKey_w vn ns va fa w1 (hn.later h) n1 n2 (ha.later h) hsa
  have cM := fun (w1 : World) (h : Below w.heap.size w w1) => Match_w vn ns va vb fa fb w1 (hn.later h) (by omega) (fun l hl => Nat.le_trans (n2 l hl) (by decide)) (ha.later h) (hb.later h) (shortS_fits hsa) (shortS_fits hsb)
  have cRM := fun (w1 : World) (h : Below w.heap.size w w1) => rMatch_w vn ns va vb fa fb w1 (hn.later h) n1 n2 (ha.later h) (hb.later h) hsa hsb
  generalize str (Vr.key ns fa) = K at *
  generalize Vr.fits ns fa fb = F at *
  clear hn ha hb ln la lb zn za zb n1 n2 hsa hsb hfew
  go_enter Tryd.func4, Tryd.ntmps4
  go_wp2_with fail
  refine (awake_w w).mono ?_
  rintro e w1 ⟨rfl, hb1⟩
  go_wp2_with fail
  refine (cF w1 hb1).mono ?_
  rintro e w0 ⟨rfl, rfl⟩
  go_wp2_with fail
  refine (cA w1 hb1).mono ?_
  rintro e w0 ⟨rfl, rfl⟩
  go_wp2_with fail
  refine (cB w1 hb1).mono ?_
  rintro e w0 ⟨rfl, rfl⟩
  clear cF cA cB
  go_wp2_with fail
  refine (cK w1 hb1).mono ?_
  rintro e w2 ⟨rfl, hc2⟩
  have hb2 := hb1.trans (hc2.mono hb1.size)
  go_wp2_with fail
  refine (cRK w2 hb2).mono ?_
  rintro e w3 ⟨rfl, hc3⟩
  have hb3 := hb2.trans (hc3.mono hb2.size)
  go_wp2_with fail
  refine (cM w3 hb3).mono ?_
  rintro e w4 ⟨rfl, hc4⟩
  have hb4 := hb3.trans (hc4.mono hb3.size)
  go_wp2_with fail
  refine (cRM w4 hb4).mono ?_
  rintro e w5 ⟨rfl, hc5⟩
  go_wp2_with fail
  go_ret
  exact ⟨by simp, hb4.trans (hc5.mono hb4.size)⟩
end Go.Proofs.YtelndkglimkfeaaDoor
