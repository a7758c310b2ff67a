/- A text's octets, and octets appended to them: 'append([]byte(s), b..)'. -/
import Derived.Test.YtlbjjeonchcgbaaGreatDoorMs6
import Derived.ArgAppend
import Derived.Laws.IdiomCopy
import Derived.Lib.EndianMore
namespace Go.Proofs.YtlbjjeonchcgbaaGreatDoor
open Go.RowKit

/-- A row of the call's own, as a conversion of a text makes it: its room behind the octets may be written. -/
def TxAt (w : World) (g c : Nat) (l : List UInt8) : Prop :=
  ∃ C, w.heap[g]? = some (.cells C 5 (c, c + 1)) ∧ C.size = c ∧ l.length ≤ c ∧ c ≤ 9223372036854775807 ∧ C.toList.take l.length = Lib.byteCells l
theorem TxAt.cell {w : World} {g c : Nat} {l : List UInt8} (h : TxAt w g c l) (j : Nat) (hj : j < l.length) : w.cell? ⟨g, j, none⟩ = some (.int .u8 (l[j].toNat : Int)) := by
  obtain ⟨C, h1, h2, h3, h4, h5⟩ := h
  rw [cell_of_row w g j C _ _ h1, ← Array.getElem?_toList]
  have h6 : (C.toList.take l.length)[j]? = (Lib.byteCells l)[j]? := by rw [h5]
  rw [List.getElem?_take_of_lt hj] at h6
  rw [h6]
  simp [Lib.byteCells, hj]
theorem TxAt.spare {w : World} {g c : Nat} {l : List UInt8} (h : TxAt w g c l) (j : Nat) (hj : j < c) : (w.cell? ⟨g, j, none⟩).isSome = true ∧ w.frozen? ⟨g, j, none⟩ = false := by
  obtain ⟨C, h1, h2, h3, h4, h5⟩ := h
  constructor
  · rw [cell_of_row w g j C _ _ h1, Array.getElem?_eq_getElem (by omega)]; rfl
  · simp only [World.frozen?, h1, Bool.and_eq_false_iff, decide_eq_false_iff_not]
    left; omega
theorem sz_setCells (b : Nat) : ∀ (vs : List Value) (o : Nat) (w : World), (w.setCells b o vs).heap.size = w.heap.size
  | [], _, _ => rfl
  | v :: r, o, w => by rw [World.setCells, sz_setCells b r (o + 1) _]; simp
theorem octets_tx (s : ByteArray) (w : World) (hs : s.size ≤ 1000000) : ∃ c w', (convert 9 22 (.string s)).run Tryz.prog w = .ok (.slice (some ⟨w.heap.size, 0, none⟩) s.size c) w' ∧ TxAt w' w.heap.size c s.data.toList ∧ Below w.heap.size w w' := by
  have hcv := run_bytes_of_string (P := Tryz.prog) w 9 22 5 s Tryz.underlying9 Tryz.underlying22 Tryz.underlying5
  have hge : s.size ≤ grownCap w s.size 0 5 := grownCap_ge w _ _ _
  have hle : grownCap w s.size 0 5 ≤ maxLen := grownCap_le_maxLen w s.size 0 5 (by unfold maxLen; omega)
  have hb1 : Below w.heap.size w ((w.drew.alloc (.cells (bytesRow s (grownCap w s.size 0 5)) 5 ((bytesRow s (grownCap w s.size 0 5)).size, (bytesRow s (grownCap w s.size 0 5)).size + 1)))) := (Below.refl _ w).drew.alloc (Nat.le_refl _) _
  have hz : s.data.toList.length = s.size := Oct.length_size s
  have hsz : (bytesRow s (grownCap w s.size 0 5)).size = grownCap w s.size 0 5 := by
    simp only [bytesRow, Array.size_append, Array.size_replicate]
    simp
    omega
  have hN := heap_alloc_new w.drew (.cells (bytesRow s (grownCap w s.size 0 5)) 5 ((bytesRow s (grownCap w s.size 0 5)).size, (bytesRow s (grownCap w s.size 0 5)).size + 1))
  refine ⟨_, _, hcv, ⟨bytesRow s (grownCap w s.size 0 5), by rw [hsz] at hN ⊢; exact hN, hsz, by rw [hz]; exact hge, by unfold maxLen at hle; exact hle, ?_⟩, hb1⟩
  simp [bytesRow, Lib.byteCells]
theorem appTx {ops : Array Oper} {rest : List Oper} {o : Oper} {a : Act} {Q : Exit → Act → World → Prop} {W w : World} {g c : Nat} {u : Value} {l m : List UInt8} (h : TxAt w g c l) (hW : Below W.heap.size W w) (hgW : W.heap.size ≤ g) (hu : BIn W u m) (hnil : NilOk u) (hlen : l.length + m.length ≤ 1000000000)
    (hgd : o.guard = none) (s x : Operand) (ho : o.op = .call { callee := .builtin .append, args := #[s, x], argTypes := #[22, 22] })
    (hs : a.eval s = .slice (some ⟨g, 0, none⟩) l.length c) (hx : a.eval x = u)
    (hK : ∀ v' w', BIn w' v' (l ++ m) → NilOk v' → Below W.heap.size W w' → wpList Tryz.prog ops Q rest (a.put o.dst v') w') : wpList Tryz.prog ops Q (o :: rest) a w := by
  obtain ⟨i0, hi, hz0, hz1, hz2⟩ := info_parts bytes_info
  obtain ⟨ao, cap, rfl, hlc, _, hg⟩ := hu
  have hgl : g < w.heap.size := by obtain ⟨C, h1, _⟩ := h; exact (Array.getElem?_eq_some_iff.1 h1).1
  have hc9 : l.length ≤ c ∧ c ≤ 9223372036854775807 := by obtain ⟨C, _, _, h3, h4, _⟩ := h; exact ⟨h3, h4⟩
  have hbl : (Lib.byteCells m).length = m.length := Lib.byteCells_length m
  have hbll : (Lib.byteCells l).length = l.length := Lib.byteCells_length l
  cases ao with
  | none =>
    have h0 : m = [] := by
      rcases hg with h | ⟨b, o, h, _⟩
      · exact h
      · cases h
    subst h0
    obtain rfl : cap = 0 := hnil cap rfl
    refine wpList_plain hgd fun K hK2 => ?_
    unfold Oper.wp
    have hrun : (Builtin.append_ #[22, 22] o.type #[.slice (some ⟨g, 0, none⟩) l.length c, .slice none 0 0]).run Tryz.prog w = .ok (.slice (some ⟨g, 0, none⟩) l.length c) w := by
      simp [Builtin.append_, run_underlying Tryz.underlying22, sizeOf, typeInfo, hi, Builtin.lenOf, hc9.1, Builtin.firstCells, storeCells]
    simp [execOp, ho, resolve, invoke, builtin, hs, hx, hrun, Result.andThen]
    exact hK2 _ _ (hK _ _ (by rw [List.append_nil]; exact ⟨_, _, rfl, hc9.1, hc9.2, .inr ⟨g, 0, rfl, hgl, fun j hj => by rw [Nat.zero_add]; exact h.cell j hj⟩⟩) (nil_ok _ _ _) hW)
  | some ad =>
    refine wpList_append_arg w hgd s x _ ho 5 i0 _ 1 1 Tryz.underlying22 hi hz0 hz1 hz2 rfl (by decide) g 0 l.length c (Lib.byteCells l) hs (by omega) ?_ ad m.length cap (Lib.byteCells m) hx (by omega) ?_ ?_ ?_ (by unfold maxLen; omega) (by omega) ?_ ?_
    · intro j v hj
      have hjl : j < l.length := by have := (List.getElem?_eq_some_iff.1 hj).1; omega
      rw [Nat.zero_add, h.cell j hjl, ← hj]; simp [Lib.byteCells, hjl]
    · intro j v hj
      have hjl : j < m.length := by have := (List.getElem?_eq_some_iff.1 hj).1; omega
      rcases hg with h' | ⟨b, o, h', hb, hc⟩
      · subst h'; simp at hjl
      · cases h'
        rw [Addr.add_lit, hW.cell (p := ⟨b, o + j, none⟩) hb, hc j hjl, ← hj]; simp [Lib.byteCells, hjl]
    · intro v hv
      unfold Lib.byteCells at hv
      obtain ⟨d, _, rfl⟩ := List.mem_map.1 hv
      rfl
    · intro hr j hj
      have := h.spare (0 + l.length * 1 + j) (by omega)
      exact this
    · intro hr
      have hb2 := Lib.below_setCells_w hgW (Lib.byteCells m) (0 + l.length * 1) w
      have hall : ∀ j, j < (Lib.byteCells m).length → (w.cell? ⟨g, 0 + l.length * 1 + j, none⟩).isSome = true := fun j hj => (h.spare _ (by omega)).1
      have hin := World.cell?_setCells_in g (Lib.byteCells m) (0 + l.length * 1) w hall
      have hsz2 : (w.setCells g (0 + l.length * 1) (Lib.byteCells m)).heap.size = w.heap.size := sz_setCells _ _ _ _
      refine hK _ _ ⟨_, _, by rw [List.length_append], by rw [List.length_append]; omega, hc9.2, .inr ⟨g, 0, rfl, by rw [hsz2]; exact hgl, fun j hj => ?_⟩⟩ (nil_ok _ _ _) (hW.trans hb2)
      rw [List.length_append] at hj
      rw [Nat.zero_add j]
      by_cases hjl : j < l.length
      · rw [World.cell?_setCells_out g _ _ w _ (fun _ _ => .inl (by simp; omega)), h.cell j hjl, List.getElem_append_left hjl]
      · have hj2 : j - l.length < (Lib.byteCells m).length := by omega
        have := hin (j - l.length) hj2
        have e : 0 + l.length * 1 + (j - l.length) = j := by omega
        rw [e] at this
        rw [this, List.getElem_append_right (by omega)]
        simp [Lib.byteCells]
    · intro _ v' w' h1 h2
      have e : Lib.byteCells (l ++ m) = Lib.byteCells l ++ Lib.byteCells m := by simp [Lib.byteCells]
      have hbw : Below w.heap.size w w' := (Below.refl _ w).grown h2 (Nat.le_refl _) (fun k hk => by cases hk)
      have hB : Buf w w' v' (l ++ m) := ⟨by rw [e, List.length_append]; exact h1, hbw⟩
      exact hK v' w' hB.in_.1 hB.in_.2 (bt5 hW hbw)
end Go.Proofs.YtlbjjeonchcgbaaGreatDoor
