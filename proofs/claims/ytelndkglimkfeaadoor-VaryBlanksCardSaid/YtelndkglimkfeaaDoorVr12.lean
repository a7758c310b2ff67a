/- The statements of layer 9: VaryOne. -/
import Derived.Test.YtelndkglimkfeaaDoorVr10
namespace Go.Proofs.YtelndkglimkfeaaDoor
open Go.RowKit

theorem names_small {ls : List (List UInt8)} {m : Nat} (h : ∀ l ∈ ls, l.length ≤ m) : ∀ l ∈ (Vr.names ls).1, l.length ≤ m := by
  intro l hl
  unfold Vr.names at hl
  split at hl
  · rw [Vr.mem_insAll] at hl
    obtain ⟨p, hp, rfl⟩ := List.mem_map.1 hl
    rw [Oct.lower_length]; exact Vr.piece_len h p hp
  · simp at hl

set_option maxHeartbeats 3200000 in
set_option maxRecDepth 100000 in
theorem one_w (vn : Value) (ns : List (List UInt8)) (va : Value) (fa : List Fld.F) (vb : Value) (fb : List Fld.F) (w : World) (hn : SIn w vn ns) (ln : ns.length ≤ 9223372036854775807) (zn : ∀ l ∈ ns, l.length ≤ 9223372036854775807)
    (ha : FIn w va fa) (la : fa.length ≤ 9223372036854775807) (za : ∀ f ∈ fa, f.1.length ≤ 9223372036854775807 ∧ f.2.length ≤ 9223372036854775807) (hb : FIn w vb fb) (lb : fb.length ≤ 9223372036854775807) (zb : ∀ f ∈ fb, f.1.length ≤ 9223372036854775807 ∧ f.2.length ≤ 9223372036854775807) :
    Calls Tryd.prog 5 #[vn, va, vb] w fun e w' => e = .returned (.bool true) ∧ Below w.heap.size w w' := by
  have cF := fun (w1 : World) (h : Below w.heap.size w w1) => few_w vn ns w1 (hn.later h) ln zn
  have cA := fun (w1 : World) (h : Below w.heap.size w w1) => short_w va fa w1 (ha.later h) la za
  have cB := fun (w1 : World) (h : Below w.heap.size w w1) => short_w vb fb w1 (hb.later h) lb zb
  by_cases hfew : fewS ns = true
  case neg =>
    have f0 : fewS ns = false := by simpa using hfew
    rw [f0] at cF
    clear hfew
    go_enter Tryd.func5, Tryd.ntmps5
    go_wp2_with fail
    refine (awake_w w).mono ?_
    rintro e w1 ⟨rfl, hb1⟩
    go_wp2_with fail
    refine (cF w1 hb1).mono ?_
    rintro e w0 ⟨rfl, rfl⟩
    go_wp2_with fail
    refine (awake_w w1).mono ?_
    rintro e wz ⟨rfl, hbz⟩
    go_wp2_with fail
    go_ret
    exact ⟨rfl, hb1.trans (hbz.mono hb1.size)⟩
  rw [hfew] at cF
  have n1 := (fewS_spec hfew).1
  have n2 : ∀ n ∈ ns, n.length ≤ 1000 := fun l hl => Nat.le_trans ((fewS_spec hfew).2 l hl) (by decide)
  by_cases hsa : shortS fa = true
  case neg =>
    have a0 : shortS fa = false := by simpa using hsa
    rw [a0] at cA
    clear hsa
    go_enter Tryd.func5, Tryd.ntmps5
    go_wp2_with fail
    refine (awake_w w).mono ?_
    rintro e w1 ⟨rfl, hb1⟩
    go_wp2_with fail
    refine (cF w1 hb1).mono ?_
    rintro e w0 ⟨rfl, rfl⟩
    go_wp2_with fail
    refine (cA w1 hb1).mono ?_
    rintro e w0 ⟨rfl, rfl⟩
    go_wp2_with fail
    refine (awake_w w1).mono ?_
    rintro e wz ⟨rfl, hbz⟩
    go_wp2_with fail
    go_ret
    exact ⟨rfl, hb1.trans (hbz.mono hb1.size)⟩
  rw [hsa] at cA
  by_cases hsb : shortS fb = true
  case neg =>
    have b0 : shortS fb = false := by simpa using hsb
    rw [b0] at cB
    clear hsb
    go_enter Tryd.func5, Tryd.ntmps5
    go_wp2_with fail
    refine (awake_w w).mono ?_
    rintro e w1 ⟨rfl, hb1⟩
    go_wp2_with fail
    refine (cF w1 hb1).mono ?_
    rintro e w0 ⟨rfl, rfl⟩
    go_wp2_with fail
    refine (cA w1 hb1).mono ?_
    rintro e w0 ⟨rfl, rfl⟩
    go_wp2_with fail
    refine (cB w1 hb1).mono ?_
    rintro e w0 ⟨rfl, rfl⟩
    go_wp2_with fail
    refine (awake_w w1).mono ?_
    rintro e wz ⟨rfl, hbz⟩
    go_wp2_with fail
    go_ret
    exact ⟨rfl, hb1.trans (hbz.mono hb1.size)⟩
  rw [hsb] at cB
  have cFA := fun (w1 : World) (h : Below w.heap.size w w1) => rFault_w va fa w1 (ha.later h) (shortS_fits hsa).small
  have cFB := fun (w1 : World) (h : Below w.heap.size w w1) => rFault_w vb fb w1 (hb.later h) (shortS_fits hsb).small
  by_cases hfa : Fld.fault fa = 0
  case neg =>
    have fa0 : (Fld.fault fa != 0) = true := by rw [bne, beq_eq_false_iff_ne.2 hfa]; rfl
    generalize Fld.fault fa = FF at *
    clear hfa
    go_enter Tryd.func5, Tryd.ntmps5
    go_wp2_with fail
    refine (awake_w w).mono ?_
    rintro e w1 ⟨rfl, hb1⟩
    go_wp2_with fail
    refine (cF w1 hb1).mono ?_
    rintro e w0 ⟨rfl, rfl⟩
    go_wp2_with fail
    refine (cA w1 hb1).mono ?_
    rintro e w0 ⟨rfl, rfl⟩
    go_wp2_with fail
    refine (cB w1 hb1).mono ?_
    rintro e w0 ⟨rfl, rfl⟩
    go_wp2_with fail
    refine (cFA w1 hb1).mono ?_
    rintro e w2 ⟨rfl, hc2⟩
    have hb2 := hb1.trans (hc2.mono hb1.size)
    go_wp2_with fail
    refine (awake_w w2).mono ?_
    rintro e wz ⟨rfl, hbz⟩
    go_wp2_with fail
    go_ret
    exact ⟨rfl, hb2.trans (hbz.mono hb2.size)⟩
  rw [hfa] at cFA
  by_cases hfb : Fld.fault fb = 0
  case neg =>
    have fb0 : (Fld.fault fb != 0) = true := by rw [bne, beq_eq_false_iff_ne.2 hfb]; rfl
    generalize Fld.fault fb = FF at *
    clear hfb
    go_enter Tryd.func5, Tryd.ntmps5
    go_wp2_with fail
    refine (awake_w w).mono ?_
    rintro e w1 ⟨rfl, hb1⟩
    go_wp2_with fail
    refine (cF w1 hb1).mono ?_
    rintro e w0 ⟨rfl, rfl⟩
    go_wp2_with fail
    refine (cA w1 hb1).mono ?_
    rintro e w0 ⟨rfl, rfl⟩
    go_wp2_with fail
    refine (cB w1 hb1).mono ?_
    rintro e w0 ⟨rfl, rfl⟩
    go_wp2_with fail
    refine (cFA w1 hb1).mono ?_
    rintro e w2 ⟨rfl, hc2⟩
    have hb2 := hb1.trans (hc2.mono hb1.size)
    go_wp2_with fail
    refine (cFB w2 hb2).mono ?_
    rintro e w3 ⟨rfl, hc3⟩
    have hb3 := hb2.trans (hc3.mono hb2.size)
    go_wp2_with fail
    refine (awake_w w3).mono ?_
    rintro e wz ⟨rfl, hbz⟩
    go_wp2_with fail
    go_ret
    exact ⟨rfl, hb3.trans (hbz.mono hb3.size)⟩
  rw [hfb] at cFB
  have cN := fun (w1 : World) (h : Below w.heap.size w w1) => Names_w vn ns w1 (hn.later h) (by omega) (fun l hl => Nat.le_trans (n2 l hl) (by decide))
  have ra := (Fld.fault_zero hfa).1
  have rb := (Fld.fault_zero hfb).1
  have hflag := Vr.names_flag (vs := ns)
  have hnl : (Vr.names ns).1.length ≤ 20020 := by
    have h1 := Vr.names_length ns
    have h2 := Vr.splitAll_lens ns 500 (fewS_spec hfew).2
    have h3 := Nat.mul_le_mul_right (2 * 500 + 1) n1
    omega
  have hnz : ∀ l ∈ (Vr.names ns).1, l.length ≤ 1000 := names_small n2
  generalize hNM : Vr.names ns = NM at *
  obtain ⟨X, t⟩ := NM
  simp only at hflag hnl hnz
  have cM := fun (v : Value) (w1 : World) (hv : SIn w1 v X) (h : Below w.heap.size w w1) => Match_w v X va vb fa fb w1 hv (by omega) (fun l hl => Nat.le_trans (hnz l hl) (by decide)) (ha.later h) (hb.later h) (shortS_fits hsa) (shortS_fits hsb)
  have cMA := fun (v : Value) (w1 : World) (hv : SIn w1 v X) (h : Below w.heap.size w w1) => Match_w v X va va fa fa w1 hv (by omega) (fun l hl => Nat.le_trans (hnz l hl) (by decide)) (ha.later h) (ha.later h) (shortS_fits hsa) (shortS_fits hsa)
  have cMB := fun (v : Value) (w1 : World) (hv : SIn w1 v X) (h : Below w.heap.size w w1) => Match_w v X vb va fb fa w1 hv (by omega) (fun l hl => Nat.le_trans (hnz l hl) (by decide)) (hb.later h) (ha.later h) (shortS_fits hsb) (shortS_fits hsa)
  have cKA := fun (v : Value) (w1 : World) (hv : SIn w1 v X) (h : Below w.heap.size w w1) => Key_big v X va fa w1 hv (by omega) hnz (ha.later h) (shortS_fits hsa) (shortS_joined hsa)
  have cKB := fun (v : Value) (w1 : World) (hv : SIn w1 v X) (h : Below w.heap.size w w1) => Key_big v X vb fb w1 hv (by omega) hnz (hb.later h) (shortS_fits hsb) (shortS_joined hsb)
  rw [Vr.fits_self] at cMA
  rw [Vr.fits_comm X fb fa] at cMB
  have hfk := Vr.fits_key ra rb X
  have hx : ((str (Vr.key X fa)).toList == (str (Vr.key X fb)).toList) = Vr.fits X fa fb := by rw [str_toList, str_toList, hfk]
  generalize str (Vr.key X fa) = KA at *
  generalize str (Vr.key X fb) = KB at *
  generalize Vr.fits X fa fb = F at *
  clear hn ha hb ln la lb zn za zb n1 n2 hsa hsb hfew hfa hfb ra rb hfk hNM hnl hnz
  cases t with
  | false =>
    have hX : X = [] := hflag rfl
    subst hX
    clear hflag hx cM cMA cMB cKA cKB
    go_enter Tryd.func5, Tryd.ntmps5
    go_wp2_with fail
    refine (awake_w w).mono ?_
    rintro e w1 ⟨rfl, hb1⟩
    go_wp2_with fail
    refine (cF w1 hb1).mono ?_
    rintro e w0 ⟨rfl, rfl⟩
    go_wp2_with fail
    refine (cA w1 hb1).mono ?_
    rintro e w0 ⟨rfl, rfl⟩
    go_wp2_with fail
    refine (cB w1 hb1).mono ?_
    rintro e w0 ⟨rfl, rfl⟩
    go_wp2_with fail
    refine (cFA w1 hb1).mono ?_
    rintro e w2 ⟨rfl, hc2⟩
    have hb2 := hb1.trans (hc2.mono hb1.size)
    go_wp2_with fail
    refine (cFB w2 hb2).mono ?_
    rintro e w3 ⟨rfl, hc3⟩
    have hb3 := hb2.trans (hc3.mono hb2.size)
    clear cF cA cB cFA cFB
    go_wp2_with fail
    refine (cN w3 hb3).mono ?_
    rintro e w4 ⟨v, rfl, hB4⟩
    have hb4 := hb3.trans (hB4.2.mono hb3.size)
    obtain ⟨a4, c4, rfl, _⟩ := hB4.sin
    go_wp2_with fail
    go_ret
    exact ⟨by simp, hb4⟩
  | true =>
    clear hflag
    go_enter Tryd.func5, Tryd.ntmps5
    go_wp2_with fail
    refine (awake_w w).mono ?_
    rintro e w1 ⟨rfl, hb1⟩
    go_wp2_with fail
    refine (cF w1 hb1).mono ?_
    rintro e w0 ⟨rfl, rfl⟩
    go_wp2_with fail
    refine (cA w1 hb1).mono ?_
    rintro e w0 ⟨rfl, rfl⟩
    go_wp2_with fail
    refine (cB w1 hb1).mono ?_
    rintro e w0 ⟨rfl, rfl⟩
    go_wp2_with fail
    refine (cFA w1 hb1).mono ?_
    rintro e w2 ⟨rfl, hc2⟩
    have hb2 := hb1.trans (hc2.mono hb1.size)
    go_wp2_with fail
    refine (cFB w2 hb2).mono ?_
    rintro e w3 ⟨rfl, hc3⟩
    have hb3 := hb2.trans (hc3.mono hb2.size)
    clear cF cA cB cFA cFB
    go_wp2_with fail
    refine (cN w3 hb3).mono ?_
    rintro e w4 ⟨v, rfl, hB4⟩
    have hb4 := hb3.trans (hB4.2.mono hb3.size)
    have hS := hB4.sin
    clear hB4 cN
    go_wp2_with fail
    refine (cM v w4 hS hb4).mono ?_
    rintro e w5 ⟨rfl, hc5⟩
    have hb5 := hb4.trans (hc5.mono hb4.size)
    have hS5 := hS.later hc5
    go_wp2_with fail
    refine (cKA v w5 hS5 hb5).mono ?_
    rintro e w6 ⟨rfl, hc6⟩
    have hb6 := hb5.trans (hc6.mono hb5.size)
    have hS6 := hS5.later hc6
    go_wp2_with fail
    refine (cKB v w6 hS6 hb6).mono ?_
    rintro e w7 ⟨rfl, hc7⟩
    have hb7 := hb6.trans (hc7.mono hb6.size)
    have hS7 := hS6.later hc7
    go_wp2_with fail
    refine (cMA v w7 hS7 hb7).mono ?_
    rintro e w8 ⟨rfl, hc8⟩
    have hb8 := hb7.trans (hc8.mono hb7.size)
    have hS8 := hS7.later hc8
    go_wp2_with fail
    refine (cM v w8 hS8 hb8).mono ?_
    rintro e w9 ⟨rfl, hc9⟩
    have hb9 := hb8.trans (hc9.mono hb8.size)
    have hS9 := hS8.later hc9
    go_wp2_with fail
    refine (cMB v w9 hS9 hb9).mono ?_
    rintro e w10 ⟨rfl, hc10⟩
    go_wp2_with fail
    go_ret
    exact ⟨by simp, hb9.trans (hc10.mono hb9.size)⟩
end Go.Proofs.YtelndkglimkfeaaDoor
