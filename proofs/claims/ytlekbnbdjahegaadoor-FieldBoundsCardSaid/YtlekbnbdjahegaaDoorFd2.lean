/- Package field: two lists of fields, held against each other; short lists. -/
import Derived.Test.YtlekbnbdjahegaaDoorFd1
import Derived.BigQuiet
import Derived.Deep.QuietTactic
namespace Go.Proofs.YtlekbnbdjahegaaDoor
open Go.RowKit

theorem bdrewN (w : World) (n : Nat) : Below w.heap.size w (w.drewN n) := ⟨rfl, rfl, rfl, Nat.le_refl _, fun _ _ => rfl⟩
theorem bdrew2 (w : World) (m n : Nat) : Below w.heap.size w ((w.drewN m).drewN n) := ⟨rfl, rfl, rfl, Nat.le_refl _, fun _ _ => rfl⟩

def sameF (xs ys : List Fld.F) : Bool := decide (xs = ys)
theorem sameF_self (xs : List Fld.F) : sameF xs xs = true := by simp [sameF]
theorem sameF_len {xs ys : List Fld.F} (h : ¬ xs.length = ys.length) : false = sameF xs ys := by
  unfold sameF; rw [decide_eq_false]; intro e; rw [e] at h; exact h rfl
theorem sameF_at {xs ys : List Fld.F} {k : Nat} (h1 : k < xs.length) (h2 : k < ys.length) (h : ¬ xs[k] = ys[k]) : false = sameF xs ys := by
  unfold sameF; rw [decide_eq_false]; intro e; subst e; exact h rfl
theorem sameF_step {xs ys : List Fld.F} {k : Nat} (h1 : k < xs.length) (h2 : k < ys.length) (h : xs.take k = ys.take k) (he : xs[k] = ys[k]) : xs.take (k + 1) = ys.take (k + 1) := by
  rw [List.take_succ_eq_append_getElem h1, List.take_succ_eq_append_getElem h2, h, he]
theorem sameF_all {xs ys : List Fld.F} {k : Nat} (hk : xs.length ≤ k) (h1 : xs.length = ys.length) (h : xs.take k = ys.take k) : true = sameF xs ys := by
  rw [List.take_of_length_le hk, List.take_of_length_le (by omega)] at h
  unfold sameF; rw [decide_eq_true h]

set_option maxHeartbeats 800000 in
set_option maxRecDepth 100000 in
theorem SameF_w (va vb : Value) (xs ys : List Fld.F) (w : World) (ha : FIn w va xs) (hb : FIn w vb ys) (hla : xs.length ≤ 1000000000) :
    Calls Tryd.prog 11 #[va, vb] w fun e w' => e = .returned (.bool (sameF xs ys)) ∧ Below w.heap.size w w' := by
  obtain ⟨aa, ca, rfl, ha⟩ := ha
  obtain ⟨ab, cb, rfl, hb⟩ := hb
  by_cases hl : xs.length = ys.length
  case neg =>
    have HR := Lib.hid (sameF_len hl)
    have b1 : ((xs.length : Int) != (ys.length : Int)) = true := by rw [bne, beq_eq_false_iff_ne.2 (by omega)]; rfl
    clear hl ha hb
    go_enter Tryd.func11, Tryd.ntmps11
    go_wp2_with fail
    go_ret
    exact ⟨ret_bool' HR.out, Below.refl _ _⟩
  have HL := Lib.hid hl
  have b1 : ((xs.length : Int) != (ys.length : Int)) = false := by rw [hl, bne, beq_self_eq_true]; rfl
  obtain ⟨n, hn⟩ : ∃ n, n = xs.length := ⟨_, rfl⟩
  have hn2 := hn.trans hl
  rw [← hn, ← hn2] at b1 ⊢
  rw [← hn] at hla
  clear hl
  have HN := Lib.hid hn
  have HM := Lib.hid hn2
  by_cases h0 : n = 0
  · subst h0
    have HR : Hid (true = sameF xs ys) := sameF_all (k := 0) (by rw [← HN.out]; exact Nat.le_refl 0) HL.out rfl
    clear hn hn2 ha hb b1 hla
    go_enter Tryd.func11, Tryd.ntmps11
    go_wp2_with fail
    refine wp_loop_rounds 1 ?_
    rw [rounds_succ]
    go_wp2_with fail
    go_ret
    exact ⟨ret_bool' HR.out, Below.refl _ _⟩
  obtain ⟨ba, oa, rfl, _, hca⟩ := ha.resolve_left (fun e => h0 (by rw [hn, e]; rfl))
  obtain ⟨bb, ob, rfl, _, hcb⟩ := hb.resolve_left (fun e => h0 (by rw [hn2, e]; rfl))
  have HCA : Hid (∀ j (hj : j < n), w.cell? ⟨ba, oa + j * 2, none⟩ = some (.string (str (xs[j]'(HN.out ▸ hj)).1)) ∧ w.cell? ⟨ba, oa + j * 2 + 1, none⟩ = some (.string (str (xs[j]'(HN.out ▸ hj)).2))) := fun j hj => hca j (by omega)
  have HCB : Hid (∀ j (hj : j < n), w.cell? ⟨bb, ob + j * 2, none⟩ = some (.string (str (ys[j]'(HM.out ▸ hj)).1)) ∧ w.cell? ⟨bb, ob + j * 2 + 1, none⟩ = some (.string (str (ys[j]'(HM.out ▸ hj)).2))) := fun j hj => hcb j (by omega)
  clear ha hb hca hcb hn hn2 h0
  go_enter Tryd.func11, Tryd.ntmps11
  go_wp2_with fail
  go_loopw [5] (fun i wr => ∃ k m : Nat, k ≤ n ∧ i = .int .i64 k ∧ wr = w.drewN m ∧ Hid (xs.take k = ys.take k)) (fun i _ => n - (intOf i).toNat)
  case atStart => exact ⟨0, 0, by omega, rfl, rfl, Lib.hid rfl⟩
  case round =>
    obtain ⟨k, m, hk, rfl, rfl, HT⟩ := hrel
    by_cases hlt : k < n
    · have ka : k < xs.length := by have := HN.out; omega
      have kb : k < ys.length := by have := HM.out; omega
      obtain ⟨c1, c1'⟩ := HCA.out k hlt
      obtain ⟨c2, c2'⟩ := HCB.out k hlt
      by_cases he : xs[k] = ys[k]
      · have HS := Lib.hid (sameF_step ka kb HT.out he)
        rw [← he] at c2 c2'
        generalize str xs[k].1 = x at c1 c2
        generalize str xs[k].2 = x' at c1' c2'
        clear he
        go_wp2_with fail
        go_quiet (fail)
        go_wp2_with fail
        go_roundw
        case rel => exact ⟨k + 1, _, by omega, by go_num, rfl, HS⟩
        case measure => simp [intOf]; omega
      · have HR := Lib.hid (sameF_at ka kb he)
        by_cases hn1 : xs[k].1 = ys[k].1
        · have hx : ((str xs[k].2).toList == (str ys[k].2).toList) = false := by
            rw [str_toList, str_toList, beq_eq_false_iff_ne.2 (fun e => he (Prod.ext hn1 e))]
          rw [← hn1] at c2
          generalize str xs[k].1 = x at c1 c2
          generalize str xs[k].2 = x' at c1' hx
          generalize str ys[k].2 = y' at c2' hx
          clear he hn1
          go_wp2_with fail
          go_quiet (fail)
          go_wp2_with fail
          go_ret
          exact ⟨ret_bool' HR.out, bdrew2 _ _ _⟩
        · have hx : ((str xs[k].1).toList == (str ys[k].1).toList) = false := by
            rw [str_toList, str_toList, beq_eq_false_iff_ne.2 hn1]
          generalize str xs[k].1 = x at c1 hx
          generalize str ys[k].1 = y at c2 hx
          generalize str xs[k].2 = x' at c1'
          generalize str ys[k].2 = y' at c2'
          clear he hn1
          go_wp2_with fail
          go_quiet (fail)
          go_wp2_with fail
          go_ret
          exact ⟨ret_bool' HR.out, bdrew2 _ _ _⟩
    · have HR : Hid (true = sameF xs ys) := sameF_all (by have := HN.out; omega) HL.out HT.out
      go_wp2_with fail
      go_ret
      exact ⟨ret_bool' HR.out, bdrewN _ _⟩

/-- Few fields, none of them long. -/
def shortF (fs : List Fld.F) (most : Nat) : Bool := decide (fs.length ≤ most) && fs.all fun f => decide (f.1.length ≤ 500) && decide (f.2.length ≤ 2000)
theorem shortF_spec {fs : List Fld.F} {most : Nat} (h : shortF fs most = true) : fs.length ≤ most ∧ ∀ f ∈ fs, f.1.length ≤ 500 ∧ f.2.length ≤ 2000 := by
  unfold shortF at h
  simp only [Bool.and_eq_true, decide_eq_true_eq, List.all_eq_true] at h
  exact h
theorem shortF_many {fs : List Fld.F} {most : Nat} (h : most < fs.length) : false = shortF fs most := by
  unfold shortF; rw [decide_eq_false (by omega)]; rfl
theorem shortF_long {fs : List Fld.F} {most : Nat} {k : Nat} (hk : k < fs.length) (h : 500 < fs[k].1.length ∨ 2000 < fs[k].2.length) : false = shortF fs most := by
  have h2 : (fs.all fun f => decide (f.1.length ≤ 500) && decide (f.2.length ≤ 2000)) = false := by
    rw [List.all_eq_false]
    refine ⟨fs[k], List.getElem_mem hk, ?_⟩
    rw [Bool.and_eq_true, decide_eq_true_eq, decide_eq_true_eq]; omega
  unfold shortF; rw [h2, Bool.and_false]
theorem shortF_all {fs : List Fld.F} {most : Nat} (hm : fs.length ≤ most) (h : ∀ j (hj : j < fs.length), fs[j].1.length ≤ 500 ∧ fs[j].2.length ≤ 2000) : true = shortF fs most := by
  have h2 : (fs.all fun f => decide (f.1.length ≤ 500) && decide (f.2.length ≤ 2000)) = true := by
    rw [List.all_eq_true]
    intro f hf
    obtain ⟨j, hj, rfl⟩ := List.getElem_of_mem hf
    rw [decide_eq_true (h j hj).1, decide_eq_true (h j hj).2]; rfl
  unfold shortF; rw [h2, decide_eq_true hm]; rfl

set_option maxHeartbeats 800000 in
set_option maxRecDepth 100000 in
theorem short_w (va : Value) (xs : List Fld.F) (most : Nat) (w : World) (ha : FIn w va xs) (hm : most ≤ 1000000) (hla : xs.length ≤ 9223372036854775807) (hsz : ∀ f ∈ xs, f.1.length ≤ 9223372036854775807 ∧ f.2.length ≤ 9223372036854775807) :
    Calls Tryd.prog 12 #[va, .int .i64 most] w fun e w' => e = .returned (.bool (shortF xs most)) ∧ w = w' := by
  obtain ⟨aa, ca, rfl, ha⟩ := ha
  by_cases hl : xs.length ≤ most
  case neg =>
    have HR := Lib.hid (shortF_many (fs := xs) (most := most) (by omega))
    have b1 : (most : Int) < (xs.length : Int) := by omega
    clear hl ha hsz
    go_enter Tryd.func12, Tryd.ntmps12
    go_wp2_with fail
    go_ret
    exact ⟨ret_bool' HR.out, rfl⟩
  have b1 : ¬ (most : Int) < (xs.length : Int) := by omega
  have HL := Lib.hid hl
  obtain ⟨n, hn⟩ : ∃ n, n = xs.length := ⟨_, rfl⟩
  rw [← hn] at b1 ⊢
  have hn9 : n ≤ 1000000 := by omega
  have HN := Lib.hid hn
  have HZ : Hid (∀ j (hj : j < n), (str (xs[j]'(HN.out ▸ hj)).1).size ≤ 9223372036854775807 ∧ (str (xs[j]'(HN.out ▸ hj)).2).size ≤ 9223372036854775807) := fun j hj => by
    rw [str_size, str_size]; exact hsz _ (List.getElem_mem _)
  by_cases h0 : n = 0
  · subst h0
    have HR : Hid (true = shortF xs most) := shortF_all HL.out (fun j hj => by have := HN.out; omega)
    clear hn ha hla hsz hl
    go_enter Tryd.func12, Tryd.ntmps12
    go_wp2_with fail
    refine wp_loop_rounds 1 ?_
    rw [rounds_succ]
    go_wp2_with fail
    go_ret
    exact ⟨ret_bool' HR.out, rfl⟩
  obtain ⟨ba, oa, rfl, _, hca⟩ := ha.resolve_left (fun e => h0 (by rw [hn, e]; rfl))
  have HCA : Hid (∀ j (hj : j < n), w.cell? ⟨ba, oa + j * 2, none⟩ = some (.string (str (xs[j]'(HN.out ▸ hj)).1)) ∧ w.cell? ⟨ba, oa + j * 2 + 1, none⟩ = some (.string (str (xs[j]'(HN.out ▸ hj)).2))) := fun j hj => hca j (by omega)
  clear ha hca hn h0 hla hsz hl
  go_enter Tryd.func12, Tryd.ntmps12
  go_wp2_with fail
  go_loop [5] (fun i => ∃ k : Nat, k ≤ n ∧ i = .int .i64 k ∧ Hid (∀ j (hj : j < xs.length), j < k → xs[j].1.length ≤ 500 ∧ xs[j].2.length ≤ 2000)) (fun i => n - (intOf i).toNat)
  case atStart => exact ⟨0, by omega, rfl, Lib.hid (fun j _ h => absurd h (by omega))⟩
  case round =>
    obtain ⟨k, hk, rfl, HT⟩ := hrel
    by_cases hlt : k < n
    · have ka : k < xs.length := by have := HN.out; omega
      obtain ⟨c1, c1'⟩ := HCA.out k hlt
      obtain ⟨z1, z2⟩ := HZ.out k hlt
      by_cases g1 : 500 < xs[k].1.length
      · have HR := Lib.hid (shortF_long (most := most) ka (.inl g1))
        have g1' : (500 : Int) < ((str xs[k].1).size : Int) := by rw [str_size]; omega
        generalize str xs[k].1 = x at c1 g1' z1
        clear g1
        go_wp2_with fail
        go_ret
        exact ⟨ret_bool' HR.out, rfl⟩
      · have g1' : ¬ (500 : Int) < ((str xs[k].1).size : Int) := by rw [str_size]; omega
        by_cases g2 : 2000 < xs[k].2.length
        · have HR := Lib.hid (shortF_long (most := most) ka (.inr g2))
          have g2' : (2000 : Int) < ((str xs[k].2).size : Int) := by rw [str_size]; omega
          generalize str xs[k].1 = x at c1 g1' z1
          generalize str xs[k].2 = y at c1' g2' z2
          clear g1 g2
          go_wp2_with fail
          go_ret
          exact ⟨ret_bool' HR.out, rfl⟩
        · have g2' : ¬ (2000 : Int) < ((str xs[k].2).size : Int) := by rw [str_size]; omega
          have HS : Hid (∀ j (hj : j < xs.length), j < k + 1 → xs[j].1.length ≤ 500 ∧ xs[j].2.length ≤ 2000) := fun j hj hjk => by
            rcases Nat.lt_or_ge j k with h | h
            · exact HT.out j hj h
            · obtain rfl : j = k := by omega
              exact ⟨by omega, by omega⟩
          generalize str xs[k].1 = x at c1 g1' z1
          generalize str xs[k].2 = y at c1' g2' z2
          clear g1 g2
          go_wp2_with fail
          go_round
          case rel => exact ⟨k + 1, by omega, by go_num, HS⟩
          case measure => simp [intOf]; omega
    · have HR : Hid (true = shortF xs most) := shortF_all HL.out (fun j hj => HT.out j hj (by have := HN.out; omega))
      go_wp2_with fail
      go_ret
      exact ⟨ret_bool' HR.out, rfl⟩

end Go.Proofs.YtlekbnbdjahegaaDoor
