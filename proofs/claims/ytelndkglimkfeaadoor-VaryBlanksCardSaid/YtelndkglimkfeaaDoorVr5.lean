/- Layer 9's document: few, short, less, Part. -/
import Derived.Test.YtelndkglimkfeaaDoorVr4
namespace Go.Proofs.YtelndkglimkfeaaDoor
open Go.RowKit

/-- Few names, none of them long. -/
def fewS (ls : List (List UInt8)) : Bool := decide (ls.length ≤ 20) && ls.all fun l => decide (l.length ≤ 500)
theorem fewS_spec {ls : List (List UInt8)} (h : fewS ls = true) : ls.length ≤ 20 ∧ ∀ l ∈ ls, l.length ≤ 500 := by
  unfold fewS at h
  simp only [Bool.and_eq_true, decide_eq_true_eq, List.all_eq_true] at h
  exact h
theorem fewS_many {ls : List (List UInt8)} (h : 20 < ls.length) : false = fewS ls := by unfold fewS; rw [decide_eq_false (by omega)]; rfl
theorem fewS_long {ls : List (List UInt8)} {k : Nat} (hk : k < ls.length) (h : 500 < ls[k].length) : false = fewS ls := by
  have h2 : (ls.all fun l => decide (l.length ≤ 500)) = false := by
    rw [List.all_eq_false]
    exact ⟨ls[k], List.getElem_mem hk, by rw [decide_eq_true_eq]; omega⟩
  unfold fewS; rw [h2, Bool.and_false]
theorem fewS_all {ls : List (List UInt8)} (hm : ls.length ≤ 20) (h : ∀ j (hj : j < ls.length), ls[j].length ≤ 500) : true = fewS ls := by
  have h2 : (ls.all fun l => decide (l.length ≤ 500)) = true := by
    rw [List.all_eq_true]
    intro f hf
    obtain ⟨j, hj, rfl⟩ := List.getElem_of_mem hf
    rw [decide_eq_true (h j hj)]
  unfold fewS; rw [h2, decide_eq_true hm]; rfl

set_option maxHeartbeats 800000 in
set_option maxRecDepth 100000 in
theorem few_w (va : Value) (xs : List (List UInt8)) (w : World) (ha : SIn w va xs) (hla : xs.length ≤ 9223372036854775807) (hsz : ∀ l ∈ xs, l.length ≤ 9223372036854775807) :
    Calls Tryd.prog 9 #[va] w fun e w' => e = .returned (.bool (fewS xs)) ∧ w = w' := by
  by_cases hl : xs.length ≤ 20
  case neg =>
    obtain ⟨aa, ca, rfl, ha⟩ := ha
    have HR := Lib.hid (fewS_many (ls := xs) (by omega))
    have b1 : (20 : Int) < (xs.length : Int) := by omega
    clear hl ha hsz
    go_enter Tryd.func9, Tryd.ntmps9
    go_wp2_with fail
    go_ret
    exact ⟨ret_bool' HR.out, rfl⟩
  have b1 : ¬ (20 : Int) < (xs.length : Int) := by omega
  have HL := Lib.hid hl
  obtain ⟨n, hn⟩ : ∃ n, n = xs.length := ⟨_, rfl⟩
  have hn9 : n ≤ 20 := by omega
  have HN := Lib.hid hn
  have HZ := Lib.hid hsz
  by_cases h0 : xs = []
  · have HR : Hid (true = fewS xs) := by subst h0; rfl
    obtain ⟨aa, ca, rfl, ha⟩ := ha
    have e0 : xs.length = 0 := by rw [h0]; rfl
    rw [e0]
    clear hn ha hla hsz hl h0 e0 b1
    go_enter Tryd.func9, Tryd.ntmps9
    go_wp2_with fail
    refine wp_loop_rounds 1 ?_
    rw [rounds_succ]
    go_wp2_with fail
    go_ret
    exact ⟨ret_bool' HR.out, rfl⟩
  obtain ⟨b, o, c, rfl, hc⟩ := ha.at_ h0
  rw [← hn] at b1 ⊢
  have HC := Lib.hid (hc w (Below.refl _ _))
  clear ha hc hn h0 hla hsz hl
  go_enter Tryd.func9, Tryd.ntmps9
  go_wp2_with fail
  go_loop [3] (fun i => ∃ k : Nat, k ≤ n ∧ i = .int .i64 k ∧ Hid (∀ j (hj : j < xs.length), j < k → xs[j].length ≤ 500)) (fun i => n - (intOf i).toNat)
  case atStart => exact ⟨0, by omega, rfl, Lib.hid (fun j _ h => absurd h (by omega))⟩
  case round =>
    obtain ⟨k, hk, rfl, HT⟩ := hrel
    by_cases hlt : k < n
    · have ka : k < xs.length := by have := HN.out; omega
      have c1 := HC.out k ka
      have z1 : (str xs[k]).size ≤ 9223372036854775807 := by rw [str_size]; exact HZ.out _ (List.getElem_mem ka)
      by_cases g1 : 500 < xs[k].length
      · have HR := Lib.hid (fewS_long ka g1)
        have g1' : (500 : Int) < ((str xs[k]).size : Int) := by rw [str_size]; omega
        generalize str xs[k] = x at c1 g1' z1
        clear g1
        go_wp2_with fail
        go_ret
        exact ⟨ret_bool' HR.out, rfl⟩
      · have g1' : ¬ (500 : Int) < ((str xs[k]).size : Int) := by rw [str_size]; omega
        have HS : Hid (∀ j (hj : j < xs.length), j < k + 1 → xs[j].length ≤ 500) := Lib.hid (fun j hj h => by
          by_cases e : j = k
          · subst e; omega
          · exact HT.out j hj (by omega))
        generalize str xs[k] = x at c1 g1' z1
        clear g1
        go_wp2_with fail
        go_round
        case rel => exact ⟨k + 1, by omega, by go_num, HS⟩
        case measure => simp [intOf]; omega
    · have HR : Hid (true = fewS xs) := Lib.hid (fewS_all HL.out (fun j hj => HT.out j hj (by have := HN.out; omega)))
      go_wp2_with fail
      go_ret
      exact ⟨ret_bool' HR.out, rfl⟩

/-- Few fields, none of them long. -/
def shortS (fs : List Fld.F) : Bool := decide (fs.length ≤ 30) && fs.all fun f => decide (f.1.length ≤ 300) && decide (f.2.length ≤ 500)
theorem shortS_spec {fs : List Fld.F} (h : shortS fs = true) : fs.length ≤ 30 ∧ ∀ f ∈ fs, f.1.length ≤ 300 ∧ f.2.length ≤ 500 := by
  unfold shortS at h
  simp only [Bool.and_eq_true, decide_eq_true_eq, List.all_eq_true] at h
  exact h
theorem shortS_many {fs : List Fld.F} (h : 30 < fs.length) : false = shortS fs := by unfold shortS; rw [decide_eq_false (by omega)]; rfl
theorem shortS_long {fs : List Fld.F} {k : Nat} (hk : k < fs.length) (h : 300 < fs[k].1.length ∨ 500 < fs[k].2.length) : false = shortS fs := by
  have h2 : (fs.all fun f => decide (f.1.length ≤ 300) && decide (f.2.length ≤ 500)) = false := by
    rw [List.all_eq_false]
    refine ⟨fs[k], List.getElem_mem hk, ?_⟩
    rw [Bool.and_eq_true, decide_eq_true_eq, decide_eq_true_eq]; omega
  unfold shortS; rw [h2, Bool.and_false]
theorem shortS_all {fs : List Fld.F} (hm : fs.length ≤ 30) (h : ∀ j (hj : j < fs.length), fs[j].1.length ≤ 300 ∧ fs[j].2.length ≤ 500) : true = shortS fs := by
  have h2 : (fs.all fun f => decide (f.1.length ≤ 300) && decide (f.2.length ≤ 500)) = true := by
    rw [List.all_eq_true]
    intro f hf
    obtain ⟨j, hj, rfl⟩ := List.getElem_of_mem hf
    rw [decide_eq_true (h j hj).1, decide_eq_true (h j hj).2]; rfl
  unfold shortS; rw [h2, decide_eq_true hm]; rfl
theorem shortS_fits {fs : List Fld.F} (h : shortS fs = true) : Fits fs := by
  obtain ⟨h1, h2⟩ := shortS_spec h
  exact ⟨⟨by omega, fun f hf => by have := h2 f hf; omega⟩, by omega, fun f hf => by have := h2 f hf; omega⟩
theorem shortS_joined {fs : List Fld.F} (h : shortS fs = true) (n : List UInt8) : (Vr.joined n fs).length ≤ 100000 := by
  obtain ⟨h1, h2⟩ := shortS_spec h
  have h3 := Vr.joined_length n fs 500 (fun f hf => (h2 f hf).2)
  have h4 := Nat.mul_le_mul_right (2 * 500 + 1) h1
  omega

set_option maxHeartbeats 800000 in
set_option maxRecDepth 100000 in
theorem short_w (va : Value) (xs : List Fld.F) (w : World) (ha : FIn w va xs) (hla : xs.length ≤ 9223372036854775807) (hsz : ∀ f ∈ xs, f.1.length ≤ 9223372036854775807 ∧ f.2.length ≤ 9223372036854775807) :
    Calls Tryd.prog 13 #[va] w fun e w' => e = .returned (.bool (shortS xs)) ∧ w = w' := by
  obtain ⟨aa, ca, rfl, ha⟩ := ha
  by_cases hl : xs.length ≤ 30
  case neg =>
    have HR := Lib.hid (shortS_many (fs := xs) (by omega))
    have b1 : (30 : Int) < (xs.length : Int) := by omega
    clear hl ha hsz
    go_enter Tryd.func13, Tryd.ntmps13
    go_wp2_with fail
    go_ret
    exact ⟨ret_bool' HR.out, rfl⟩
  have b1 : ¬ (30 : Int) < (xs.length : Int) := by omega
  have HL := Lib.hid hl
  obtain ⟨n, hn⟩ : ∃ n, n = xs.length := ⟨_, rfl⟩
  rw [← hn] at b1 ⊢
  have hn9 : n ≤ 30 := by omega
  have HN := Lib.hid hn
  have HZ : Hid (∀ j (hj : j < n), (str (xs[j]'(HN.out ▸ hj)).1).size ≤ 9223372036854775807 ∧ (str (xs[j]'(HN.out ▸ hj)).2).size ≤ 9223372036854775807) := fun j hj => by
    rw [str_size, str_size]; exact hsz _ (List.getElem_mem _)
  by_cases h0 : n = 0
  · subst h0
    have HR : Hid (true = shortS xs) := shortS_all HL.out (fun j hj => by have := HN.out; omega)
    clear hn ha hla hsz hl
    go_enter Tryd.func13, Tryd.ntmps13
    go_wp2_with fail
    refine wp_loop_rounds 1 ?_
    rw [rounds_succ]
    go_wp2_with fail
    go_ret
    exact ⟨ret_bool' HR.out, rfl⟩
  obtain ⟨ba, oa, rfl, _, hca⟩ := ha.resolve_left (fun e => h0 (by rw [hn, e]; rfl))
  have HCA : Hid (∀ j (hj : j < n), w.cell? ⟨ba, oa + j * 2, none⟩ = some (.string (str (xs[j]'(HN.out ▸ hj)).1)) ∧ w.cell? ⟨ba, oa + j * 2 + 1, none⟩ = some (.string (str (xs[j]'(HN.out ▸ hj)).2))) := fun j hj => hca j (by omega)
  clear ha hca hn h0 hla hsz hl
  go_enter Tryd.func13, Tryd.ntmps13
  go_wp2_with fail
  go_loop [3] (fun i => ∃ k : Nat, k ≤ n ∧ i = .int .i64 k ∧ Hid (∀ j (hj : j < xs.length), j < k → xs[j].1.length ≤ 300 ∧ xs[j].2.length ≤ 500)) (fun i => n - (intOf i).toNat)
  case atStart => exact ⟨0, by omega, rfl, Lib.hid (fun j _ h => absurd h (by omega))⟩
  case round =>
    obtain ⟨k, hk, rfl, HT⟩ := hrel
    by_cases hlt : k < n
    · have ka : k < xs.length := by have := HN.out; omega
      obtain ⟨c1, c1'⟩ := HCA.out k hlt
      obtain ⟨z1, z2⟩ := HZ.out k hlt
      by_cases g1 : 300 < xs[k].1.length
      · have HR := Lib.hid (shortS_long ka (.inl g1))
        have g1' : (300 : Int) < ((str xs[k].1).size : Int) := by rw [str_size]; omega
        generalize str xs[k].1 = x at c1 g1' z1
        clear g1
        go_wp2_with fail
        go_ret
        exact ⟨ret_bool' HR.out, rfl⟩
      · have g1' : ¬ (300 : Int) < ((str xs[k].1).size : Int) := by rw [str_size]; omega
        by_cases g2 : 500 < xs[k].2.length
        · have HR := Lib.hid (shortS_long ka (.inr g2))
          have g2' : (500 : Int) < ((str xs[k].2).size : Int) := by rw [str_size]; omega
          generalize str xs[k].1 = x at c1 g1' z1
          generalize str xs[k].2 = y at c1' g2' z2
          clear g1 g2
          go_wp2_with fail
          go_ret
          exact ⟨ret_bool' HR.out, rfl⟩
        · have g2' : ¬ (500 : Int) < ((str xs[k].2).size : Int) := by rw [str_size]; omega
          have HS : Hid (∀ j (hj : j < xs.length), j < k + 1 → xs[j].1.length ≤ 300 ∧ xs[j].2.length ≤ 500) := Lib.hid (fun j hj h => by
            by_cases e : j = k
            · subst e; omega
            · exact HT.out j hj (by omega))
          generalize str xs[k].1 = x at c1 g1' z1
          generalize str xs[k].2 = y at c1' g2' z2
          clear g1 g2
          go_wp2_with fail
          go_round
          case rel => exact ⟨k + 1, by omega, by go_num, HS⟩
          case measure => simp [intOf]; omega
    · have HR : Hid (true = shortS xs) := Lib.hid (shortS_all HL.out (fun j hj => HT.out j hj (by have := HN.out; omega)))
      go_wp2_with fail
      go_ret
      exact ⟨ret_bool' HR.out, rfl⟩
end Go.Proofs.YtelndkglimkfeaaDoor
