/- A row of the call's own, each of whose elements is octets in a block of the call's own: what sectors are laid in (the document's, the program's). -/
import Derived.Test.YtlipgphmhkjnpaaDoorPgR2
namespace Go.Proofs.YtlipgphmhkjnpaaDoor
open Go.RowKit

def Fresh (W : World) : Nat → Prop := fun k => W.heap.size ≤ k
structure SecRow (W w : World) (v : Value) (ls : List (List UInt8)) : Prop where
  row : ∃ us : List Value, us.length = ls.length ∧ w.ownsRow W.heap.size 23 1 v us.length us ∧ ∀ i (h1 : i < us.length) (h2 : i < ls.length), OIn (Fresh W) w us[i] ls[i]
  below : Below W.heap.size W w
theorem SecRow.nil (W : World) : SecRow W W (.slice none 0 0) [] := ⟨⟨[], rfl, World.ownsRow_nil _ _ _ _, fun i h1 _ => by cases h1⟩, Below.refl _ _⟩
theorem SecRow.nil_of {W w : World} (h : Below W.heap.size W w) : SecRow W w (.slice none 0 0) [] := ⟨⟨[], rfl, World.ownsRow_nil _ _ _ _, fun i h1 _ => by cases h1⟩, h⟩
theorem SecRow.later {W w w' : World} {v : Value} {ls : List (List UInt8)} (h : SecRow W w v ls) (hb : Below w.heap.size w w') : SecRow W w' v ls := by
  obtain ⟨⟨us, h1, h2, h3⟩, h4⟩ := h
  exact ⟨⟨us, h1, ownsRow_keep h2 (fun k hk => hb.block k (World.ownsRow.lt h2 k hk).2), fun i i1 i2 => (h3 i i1 i2).keep (fun _ hf => hf) (fun k _ _ _ hk => hb.block k (lt_of_block hk))⟩, bt5 h4 hb⟩
/-- One more. -/
theorem SecRow.more {W w : World} {v y : Value} {ls : List (List UInt8)} {l : List UInt8} (h : SecRow W w v ls) (hy : OIn (Fresh W) w y l) (hl : ls.length ≤ 1000000) (r : Nat) (hr : w.cell? ⟨r, 0, none⟩ = some y) :
    ∃ v' w', (Builtin.append_ #[22, 22] 22 #[v, .slice (some ⟨r, 0, none⟩) 1 1]).run Tryd.prog w = .ok v' w' ∧ SecRow W w' v' (ls ++ [l]) := by
  obtain ⟨⟨us, h1, h2, h3⟩, h4⟩ := h
  obtain ⟨i0, hi0, hz0, hz1, hz2⟩ := info_parts slices_info
  obtain ⟨yb, yo, yc, yC, yf, hye, hyr⟩ := id hy
  have hone : y.oneCell' = true := by rw [hye]; rfl
  obtain ⟨v', w', hrun, ho, hg, _⟩ := run_append_own (P := Tryd.prog) (w := w) W.heap.size 22 22 23 i0 (.slice none 0 0) 1 24 Tryd.underlying22 hi0 hz0 hz1 hz2 rfl (by decide) v us.length us h2 ⟨r, 0, none⟩ 1 1 [y] rfl (fun j u hj => by
    match j, hj with
    | 0, hj =>
      simp only [List.getElem?_cons_zero, Option.some.injEq] at hj
      subst hj
      rw [Addr.add_lit, Nat.zero_add]
      exact hr) (fun u hu => by rw [List.mem_singleton.1 hu]; exact hone) (by unfold maxLen; omega) (by omega) h4.size
  have hk : ∀ (k : Nat) (C : Array Value) (fr : Nat × Nat), w.heap[k]? = some (.cells C 5 fr) → w'.heap[k]? = w.heap[k]? := fun k C fr hb => hg.block k (lt_of_block hb) (fun e => by
    obtain ⟨C2, hC2⟩ := row_type h2 e.symm
    exact ne_block hb hC2 (by decide) rfl)
  refine ⟨v', w', hrun, ⟨us ++ [y], by rw [List.length_append, List.length_append, h1]; rfl, by rw [List.length_append]; exact ho, fun i i1 i2 => ?_⟩, ?_⟩
  · by_cases hi : i < us.length
    · rw [List.getElem_append_left hi, List.getElem_append_left (by omega)]
      exact (h3 i hi (by omega)).keep (fun _ hf => hf) (fun k C fr _ hb => hk k C fr hb)
    · have e1 : i = us.length := by simp at i1; omega
      subst e1
      rw [List.getElem_append_right (Nat.le_refl _), List.getElem_append_right (by omega)]
      simp only [Nat.sub_self, h1, List.getElem_singleton]
      exact hy.keep (fun _ hf => hf) (fun k C fr _ hb => hk k C fr hb)
  · exact h4.trans ⟨hg.os, hg.tape, hg.output, hg.size, fun k hk9 => hg.block k (Nat.lt_of_lt_of_le hk9 h4.size) (fun e => by
      have := (World.ownsRow.lt h2 k e.symm).1
      omega)⟩
/-- As a list of octets handed on: none of its blocks was there when the call began. -/
theorem SecRow.out {W w : World} {v : Value} {ls : List (List UInt8)} (h : SecRow W w v ls) : BsOut (fun k => k < W.heap.size) w v ls := by
  obtain ⟨⟨us, h1, h2, h3⟩, h4⟩ := h
  rcases h2.2 with ⟨hv, h0⟩ | ⟨g, cap, cur, hv, hbase, hb, hle, hm, hsz, htk⟩
  · have e : ls = [] := List.eq_nil_of_length_eq_zero (by omega)
    subst e
    exact ⟨none, 0, by rw [hv]; rfl, Nat.le_refl _, by decide, .inl rfl⟩
  · refine ⟨_, cap, by rw [hv, h1], by omega, by unfold maxLen at hm; omega, .inr ⟨g, 0, rfl, lt_of_block hb, by omega, fun j hj => ?_⟩⟩
    have hj1 : j < us.length := by omega
    refine ⟨us[j], ?_, ?_⟩
    · rw [Nat.zero_add]
      simp only [World.cell?, hb]
      obtain ⟨x, hx⟩ : ∃ x, x = us[j] := ⟨_, rfl⟩
      have h9 : us[j]? = some x := by rw [hx]; exact List.getElem?_eq_getElem hj1
      rw [← hx, ← htk, List.getElem?_take_of_lt (by omega)] at *
      simpa using h9
    · have h9 := h3 j hj1 hj
      refine ⟨h9.bin.1, h9.bin.2, fun ad n c e _ hf => ?_⟩
      obtain ⟨b, o, c9, C, fr, e9, _, _, hF, _⟩ := h9
      rw [e9] at e
      cases e
      exact absurd hf (by show ¬ b < W.heap.size; have : W.heap.size ≤ b := hF; omega)
end Go.Proofs.YtlipgphmhkjnpaaDoor
