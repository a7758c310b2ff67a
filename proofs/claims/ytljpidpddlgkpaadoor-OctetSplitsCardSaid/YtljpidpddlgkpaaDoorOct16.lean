/- The statements of layer 1: the walk of OctetSplits. -/
import Derived.Test.YtljpidpddlgkpaaDoorOct15
namespace Go.Proofs.YtljpidpddlgkpaaDoor
open Go.RowKit

theorem all_len {ls : List (List UInt8)} {n m : Nat} (h : ∀ j (hj : j < ls.length), ls[j].length ≤ n) (hn : n ≤ m) : ∀ l ∈ ls, l.length ≤ m := by
  intro l hl
  obtain ⟨j, hj, e⟩ := List.getElem_of_mem hl
  have := h j hj
  rw [e] at this; omega

set_option maxHeartbeats 3200000 in
set_option maxRecDepth 100000 in
theorem splits_w (va : Value) (ls : List (List UInt8)) (w : World) (hv : SIn w va ls) (hbig : ls.length ≤ 9223372036854775807) (hl : ∀ l ∈ ls, l.length ≤ 9223372036854775807) :
    Calls Tryd.prog 5 #[va] w fun e w' => e = .returned (.bool true) ∧ Below w.heap.size w w' := by
  have hv0 := hv
  obtain ⟨ao, ca, rfl, hv⟩ := hv
  obtain ⟨n, hnn⟩ : ∃ n, n = ls.length := ⟨_, rfl⟩
  rw [← hnn] at hv0 hbig ⊢
  have HN := Lib.hid hnn
  by_cases h20 : (20 : Int) < n
  · clear hv0 hv hl hnn
    go_enter Tryd.func5, Tryd.ntmps5
    go_wp2_with fail
    refine (awake_w w).mono ?_
    rintro e w1 ⟨rfl, hb1⟩
    go_wp2_with fail
    refine (awake_w w1).mono ?_
    rintro e w2 ⟨rfl, hb2⟩
    go_wp2_with fail
    go_ret
    exact ⟨rfl, bt hb1 hb2⟩
  have hn20 : (n : Int) ≤ 20 := by omega
  clear h20 hbig
  by_cases h0 : n = 0
  · have HE : Hid (ls = []) := List.eq_nil_of_length_eq_zero (by rw [← hnn]; exact h0)
    clear hnn hv hl
    subst h0
    go_enter Tryd.func5, Tryd.ntmps5
    go_wp2_with fail
    refine (awake_w w).mono ?_
    rintro e w1 ⟨rfl, hb1⟩
    have hv1 := hv0.later hb1
    go_wp2_with fail
    refine wp_loop_rounds 1 ?_
    rw [rounds_succ]
    go_wp2_with fail
    refine (Split_s _ ls w1 hv1 (by rw [HE.out]; decide) (by rw [HE.out]; intro l h; cases h)).mono ?_
    rintro e w2 ⟨v2, rfl, hown, hb2⟩
    have hs2 := SIn.of_row hown
    have hv2 := hv1.later hb2
    clear hown
    go_wp2_with fail
    refine (rSplit_s _ ls w2 hv2 (by rw [HE.out]; decide) (by rw [HE.out]; intro l h; cases h)).mono ?_
    rintro e w3 ⟨v3, rfl, hS3⟩
    have hs3 := hs2.later hS3.2
    go_wp2_with fail
    refine (Same_w _ _ _ _ w3 hs3 hS3.sin (by rw [HE.out]; decide) (by rw [HE.out]; decide)).mono ?_
    rw [sameL_self]
    rintro e w4 ⟨rfl, m, rfl⟩
    go_wp2_with fail
    go_ret
    exact ⟨rfl, below_drewN (bt (bt hb1 hb2) hS3.2) m⟩
  obtain ⟨b, o, rfl, hb, hc⟩ := hv.resolve_left (fun e => h0 (by rw [hnn, e]; rfl))
  have HC : Hid (∀ j (hj : j < n), w.cell? ⟨b, o + j, none⟩ = some (.string (str (ls[j]'(HN.out ▸ hj))))) := fun j hj => hc j (HN.out ▸ hj)
  have HL := Lib.hid hl
  clear hc hv hnn h0 hl
  go_enter Tryd.func5, Tryd.ntmps5
  go_wp2_with fail
  refine (awake_w w).mono ?_
  rintro e w1 ⟨rfl, hb1⟩
  have hv1 := hv0.later hb1
  have HC1 : Hid (∀ j (hj : j < n), w1.cell? ⟨b, o + j, none⟩ = some (.string (str (ls[j]'(HN.out ▸ hj))))) := fun j hj => by rw [hb1.cell (p := ⟨b, o + j, none⟩) hb]; exact HC.out j hj
  have HV1 := Lib.hid hv1
  clear hv0 hv1
  go_wp2_with fail
  go_loop [3] (fun i => ∃ k : Nat, k ≤ n ∧ i = .int .i64 k ∧ Hid (∀ j (hj : j < ls.length), j < k → ls[j].length ≤ 1000)) (fun i => n - (intOf i).toNat)
  case atStart => exact ⟨0, by omega, rfl, fun j _ h => by omega⟩
  case round =>
    obtain ⟨k, hk, rfl, HA⟩ := hrel
    by_cases hlt : k < n
    · have hkl : k < ls.length := by have := HN.out; omega
      have hcell := HC1.out k hlt
      have hsz : (str ls[k]).size = ls[k].length := str_size _
      have hml : ls[k].length ≤ 9223372036854775807 := HL.out _ (List.getElem_mem hkl)
      by_cases hg : 1000 < ls[k].length
      · have hg' : (1000 : Int) < (str ls[k]).size := by omega
        clear hsz hg
        go_wp2_with fail
        go_ret
        exact ⟨rfl, hb1⟩
      · have hg' : ((str ls[k]).size : Int) ≤ 1000 := by omega
        have HA' : Hid (∀ j (hj : j < ls.length), j < k + 1 → ls[j].length ≤ 1000) := fun j hj h => by
          by_cases e : j = k
          · subst e; omega
          · exact HA.out j hj (by omega)
        clear hsz hg
        go_wp2_with fail
        go_round
        case rel => exact ⟨k + 1, by omega, by go_num, HA'⟩
        case measure => simp [intOf]; omega
    · have HM : Hid (∀ l ∈ ls, l.length ≤ 1000000) := all_len (fun j hj => HA.out j hj (by have := HN.out; omega)) (by decide)
      have HW : Hid ((Oct.splitAll ls).length ≤ 100000000000) := by
        have h1 := Oct.splitAll_len ls HM.out
        have h2 := HN.out
        show _ ≤ _
        omega
      go_wp2_with fail
      refine (Split_s _ ls w1 HV1.out (by have := HN.out; omega) HM.out).mono ?_
      rintro e w2 ⟨v2, rfl, hown, hb2⟩
      have hs2 := SIn.of_row hown
      have hv2 := HV1.out.later hb2
      clear hown
      go_wp2_with fail
      refine (rSplit_s _ ls w2 hv2 (by have := HN.out; omega) HM.out).mono ?_
      rintro e w3 ⟨v3, rfl, hS3⟩
      have hs3 := hs2.later hS3.2
      go_wp2_with fail
      refine (Same_w _ _ _ _ w3 hs3 hS3.sin HW.out HW.out).mono ?_
      rw [sameL_self]
      rintro e w4 ⟨rfl, m, rfl⟩
      go_wp2_with fail
      go_ret
      exact ⟨rfl, below_drewN (bt (bt hb1 hb2) hS3.2) m⟩

end Go.Proofs.YtljpidpddlgkpaaDoor
