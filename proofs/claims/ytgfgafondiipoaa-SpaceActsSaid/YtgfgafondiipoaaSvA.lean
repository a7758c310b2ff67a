/- The program's map in memory; its small functions: free, taken, waits, into; count. -/
import Derived.Test.YtgfgafondiipoaaSpD3
namespace Go.Proofs.Ytgfgafondiipoaa
open Go.RowKit

/-- A sector's three cells. -/
def sc (c : Sp.Cell) : List Value := [.bool (decide (c.1 ≠ 0)), .bool (decide (c.1 = 2)), .bool c.2]
def pcs (m : Sp.M) : List Value := m.flatMap sc
/-- The map at block q, its row at b. -/
structure PD (w : World) (q b : Nat) (m : Sp.M) : Prop where
  blk : w.heap[q]? = some (.cells #[rowv b m.length] 51 (0, 0))
  st : w.heap[b]? = some (.cells (pcs m).toArray 62 (0, 0))
  len : m.length ≤ 65536
  inv : ∀ c ∈ m, c.1 ≤ 2 ∧ (c.1 = 0 → c.2 = false)
def PF (q b : Nat) (k : Nat) : Prop := k = q ∨ k = b
theorem pcs_length : ∀ m : Sp.M, (pcs m).length = m.length * 3
  | [] => rfl
  | c :: t => by show (sc c ++ pcs t).length = _; rw [List.length_append, pcs_length t, List.length_cons]; simp [sc]; omega
theorem pcs_at : ∀ (m : Sp.M) (k : Nat) (h : k < m.length), (pcs m)[k * 3]? = some (.bool (decide (m[k].1 ≠ 0))) ∧ (pcs m)[k * 3 + 1]? = some (.bool (decide (m[k].1 = 2))) ∧ (pcs m)[k * 3 + 2]? = some (.bool m[k].2)
  | c :: t, 0, _ => ⟨rfl, rfl, rfl⟩
  | c :: t, k + 1, h => by
    have := pcs_at t k (by simpa using h)
    rw [show (k + 1) * 3 = k * 3 + 3 from by omega]
    exact this
theorem pcs_set : ∀ (m : Sp.M) (j : Nat) (x : Sp.Cell), (((pcs m).set (j * 3) (.bool (decide (x.1 ≠ 0)))).set (j * 3 + 1) (.bool (decide (x.1 = 2)))).set (j * 3 + 2) (.bool x.2) = pcs (m.set j x)
  | [], _, _ => rfl
  | e :: t, 0, x => rfl
  | e :: t, j + 1, x => by
    have := pcs_set t j x
    rw [show (j + 1) * 3 = j * 3 + 3 from by omega]
    show sc e ++ ((((pcs t).set (j * 3) _).set (j * 3 + 1) _).set (j * 3 + 2) _) = sc e ++ pcs (t.set j x)
    rw [this]
section
variable {w w' : World} {q b : Nat} {m : Sp.M}
theorem PD.keep (h : PD w q b m) (hk : ∀ k, PF q b k → w'.heap[k]? = w.heap[k]?) : PD w' q b m :=
  ⟨by rw [hk q (.inl rfl)]; exact h.blk, by rw [hk b (.inr rfl)]; exact h.st, h.len, h.inv⟩
theorem PD.lt (h : PD w q b m) : ∀ k, PF q b k → k < w.heap.size := fun k hk => by
  rcases hk with rfl | rfl
  · exact lt_of_block h.blk
  · exact lt_of_block h.st
theorem PD.later (h : PD w q b m) (hb : Below w.heap.size w w') : PD w' q b m := h.keep (fun k hk => hb.block k (h.lt k hk))
theorem PD.c0 (h : PD w q b m) : w.cell? ⟨q, 0, none⟩ = some (.slice (some ⟨b, 0, none⟩) m.length m.length) := (blk_cell h.blk 0 _ rfl).1
theorem PD.s (h : PD w q b m) (k : Nat) (hk : k < m.length) : w.cell? ⟨b, k * 3, none⟩ = some (.bool (decide (m[k].1 ≠ 0))) ∧ w.cell? ⟨b, k * 3 + 1, none⟩ = some (.bool (decide (m[k].1 = 2))) ∧ w.cell? ⟨b, k * 3 + 2, none⟩ = some (.bool m[k].2) := by
  obtain ⟨h1, h2, h3⟩ := pcs_at m k hk
  exact ⟨(blk_cell h.st _ _ (by simpa using h1)).1, (blk_cell h.st _ _ (by simpa using h2)).1, (blk_cell h.st _ _ (by simpa using h3)).1⟩
theorem PD.fz (h : PD w q b m) (j : Nat) : w.frozen? ⟨b, j, none⟩ = false := by
  simp only [World.frozen?, h.st]; simp
theorem PD.ne (h : PD w q b m) : q ≠ b := ne_block h.blk h.st (by decide)
/-- A sector stored. -/
theorem PD.put (h : PD w q b m) (k : Nat) (x : Sp.Cell) (hx : x.1 ≤ 2 ∧ (x.1 = 0 → x.2 = false)) :
    PD (((w.setCell ⟨b, k * 3, none⟩ (.bool (decide (x.1 ≠ 0)))).setCell ⟨b, k * 3 + 1, none⟩ (.bool (decide (x.1 = 2)))).setCell ⟨b, k * 3 + 2, none⟩ (.bool x.2)) q b (m.set k x) := by
  refine ⟨?_, ?_, by rw [List.length_set]; exact h.len, fun c hc => ?_⟩
  · rw [heap_setCell_other _ ⟨b, k * 3 + 2, none⟩ q _ h.ne, heap_setCell_other _ ⟨b, k * 3 + 1, none⟩ q _ h.ne, heap_setCell_other _ ⟨b, k * 3, none⟩ q _ h.ne, List.length_set]; exact h.blk
  · rw [heap_set (heap_set (heap_set h.st))]
    rw [← pcs_set]
    simp
  · rcases List.mem_or_eq_of_mem_set hc with hc | hc
    · exact h.inv c hc
    · rw [hc]; exact hx
theorem PD.facts {n k s : Nat} {x : Bool} (h : PD w q b m) (hn : m.length = n) (hk : k < n) (he : m[k]? = some (s, x)) :
    w.cell? ⟨q, 0, none⟩ = some (.slice (some ⟨b, 0, none⟩) n n) ∧ w.cell? ⟨b, k * 3, none⟩ = some (.bool (decide (s ≠ 0))) ∧ w.cell? ⟨b, k * 3 + 1, none⟩ = some (.bool (decide (s = 2))) ∧ w.cell? ⟨b, k * 3 + 2, none⟩ = some (.bool x) := by
  subst hn
  obtain ⟨h1, h2⟩ := List.getElem?_eq_some_iff.1 he
  have a := h.s k hk
  rw [h2] at a
  exact ⟨h.c0, a⟩
theorem PD.t3 {w : World} {q b j1 j2 j3 : Nat} {v1 v2 v3 : Value} : Touch (PF q b) w (((w.setCell ⟨b, j1, none⟩ v1).setCell ⟨b, j2, none⟩ v2).setCell ⟨b, j3, none⟩ v3) :=
  ((Touch.cell (.inr rfl) _ _).trans (Touch.cell (.inr rfl) _ _)).trans (Touch.cell (.inr rfl) _ _)
end

/-! ### the small functions -/
set_option maxRecDepth 100000 in
theorem free_c (x y z : Bool) (w : World) : Calls Try.prog 30 #[.agg #[.bool x, .bool y, .bool z]] w fun e w' => e = .returned (.bool !x) ∧ Below w.heap.size w w' := by
  have hb : Below w.heap.size w (w.alloc (.cells #[.bool x, .bool y, .bool z] 62)) := (Below.refl _ w).alloc (Nat.le_refl _) _
  go_enter Try.func30, Try.ntmps30
  go_wp2_with fail
  go_ret
  exact ⟨rfl, hb⟩
set_option maxRecDepth 100000 in
theorem waits_c (x y z : Bool) (w : World) : Calls Try.prog 40 #[.agg #[.bool x, .bool y, .bool z]] w fun e w' => e = .returned (.bool z) ∧ Below w.heap.size w w' := by
  have hb : Below w.heap.size w (w.alloc (.cells #[.bool x, .bool y, .bool z] 62)) := (Below.refl _ w).alloc (Nat.le_refl _) _
  go_enter Try.func40, Try.ntmps40
  go_wp2_with fail
  go_ret
  exact ⟨rfl, hb⟩
set_option maxRecDepth 100000 in
theorem anew_c (x y z : Bool) (w : World) : Calls Try.prog 41 #[.agg #[.bool x, .bool y, .bool z]] w fun e w' => e = .returned (.bool y) ∧ Below w.heap.size w w' := by
  have hb : Below w.heap.size w (w.alloc (.cells #[.bool x, .bool y, .bool z] 62)) := (Below.refl _ w).alloc (Nat.le_refl _) _
  go_enter Try.func41, Try.ntmps41
  go_wp2_with fail
  go_ret
  exact ⟨rfl, hb⟩
set_option maxRecDepth 100000 in
theorem taken_c (x y z : Bool) (w : World) : Calls Try.prog 37 #[.agg #[.bool x, .bool y, .bool z]] w fun e w' => e = .returned (.bool (x && !z)) ∧ Below w.heap.size w w' := by
  have hb : Below w.heap.size w (w.alloc (.cells #[.bool x, .bool y, .bool z] 62)) := (Below.refl _ w).alloc (Nat.le_refl _) _
  cases x
  all_goals
    go_enter Try.func37, Try.ntmps37
    go_wp2_with fail
    go_ret
    exact ⟨rfl, hb⟩
set_option maxRecDepth 100000 in
theorem notfree_c (x y z : Bool) (w : World) : Calls Try.prog 51 #[.agg #[.bool x, .bool y, .bool z]] w fun e w' => e = .returned (.bool x) ∧ Below w.heap.size w w' := by
  have hb : Below w.heap.size w (w.alloc (.cells #[.bool x, .bool y, .bool z] 62)) := (Below.refl _ w).alloc (Nat.le_refl _) _
  go_enter Try.func51, Try.ntmps51
  go_wp2_with fail
  refine (free_c _ _ _ _).mono ?_
  rintro e w2 ⟨rfl, hb2⟩
  have HB := Lib.hid (bt5 hb hb2)
  clear hb hb2
  go_wp2_with fail
  go_ret
  exact ⟨by simp, HB.out⟩
end Go.Proofs.Ytgfgafondiipoaa
