/- Package octet: lists: what Split's two closures do. -/
import Derived.Test.YtljpidpddlgkpaaDoorOct3
import Derived.Test.YtljpidpddlgkpaaDoorOctS
import Derived.Test.YtljpidpddlgkpaaDoorOctMathE
namespace Go.Proofs.YtljpidpddlgkpaaDoor
open Go.RowKit

/-- Blocks of bools are as they were. -/
def Bools (w w' : World) : Prop := ∀ (k : Nat) (cs : Array Value) (fz : Nat × Nat), w.heap[k]? = some (.cells cs 4 fz) → w'.heap[k]? = some (.cells cs 4 fz)
theorem Bools.refl (w : World) : Bools w w := fun _ _ _ h => h
theorem Bools.trans {a b c : World} (h : Bools a b) (h' : Bools b c) : Bools a c := fun k cs fz hk => h' k cs fz (h k cs fz hk)
theorem Bools.below {w w' : World} (h : Below w.heap.size w w') : Bools w w' := fun k cs fz hk => by rw [h.block k (lt_of_block hk)]; exact hk

/-- The captured list of pieces: the variable lies in the block that the call made first. -/
def PiecesAt (W w : World) (v : Value) (ls : List (List UInt8)) : Prop := w.heap[W.heap.size]? = some (.cells #[v] 35 (0, 0)) ∧ w.ownsRow (W.heap.size + 1) 9 1 v ls.length (strCells ls) ∧ Below W.heap.size W w
def Pieces (W w : World) (ls : List (List UInt8)) : Prop := ∃ v, PiecesAt W w v ls
theorem Pieces.start (W : World) : Pieces W (W.alloc (.cells #[.slice none 0 0] 35)) [] := ⟨_, heap_alloc_new W _, World.ownsRow_nil _ _ _ _, (Below.refl _ W).alloc (Nat.le_refl _) _⟩
theorem ownsRow_after {w w' : World} {base e n : Nat} {v : Value} {xs : List Value} (h : w.ownsRow base e 1 v n xs) (hb : ∀ (g : Nat) (cur : Array Value), w.heap[g]? = some (Obj.cells cur e (0, 0)) → w'.heap[g]? = some (Obj.cells cur e (0, 0))) : w'.ownsRow base e 1 v n xs := by
  refine ⟨h.1, ?_⟩
  rcases h.2 with h0 | ⟨g, cap, cur, hv, hg, hh, rest⟩
  · exact .inl h0
  · exact .inr ⟨g, cap, cur, hv, hg, hb g cur hh, rest⟩
theorem PiecesAt.after {W w w' : World} {v : Value} {ls : List (List UInt8)} (h : PiecesAt W w v ls) (hb : Below w.heap.size w w') : PiecesAt W w' v ls :=
  ⟨by rw [hb.block _ (lt_of_block h.1)]; exact h.1, ownsRow_after h.2.1 (fun g cur hg => by rw [hb.block g (lt_of_block hg)]; exact hg), h.2.2.trans (hb.mono h.2.2.size)⟩
theorem Pieces.after {W w w' : World} {ls : List (List UInt8)} (h : Pieces W w ls) (hb : Below w.heap.size w w') : Pieces W w' ls := by
  obtain ⟨v, h⟩ := h; exact ⟨v, h.after hb⟩
theorem Pieces.lt {W w : World} {ls : List (List UInt8)} (h : Pieces W w ls) : W.heap.size < w.heap.size := by obtain ⟨v, h⟩ := h; exact lt_of_block h.1

/-- 'pieces = append(pieces, s)', up to the store. -/
theorem appP {ops : Array Oper} {rest : List Oper} {o : Oper} {a : Act} {Q : Exit → Act → World → Prop} {W w : World} {v : Value} {ls : List (List UInt8)} (h : PiecesAt W w v ls) (l : List UInt8) (hlen : ls.length ≤ 100000000000)
    (hgd : o.guard = none) (s x : Operand) (ho : o.op = .call { callee := .builtin .append, args := #[s, x], argTypes := #[35, 35] })
    (t : ByteArray) (ht : t = str l) (hs : a.eval s = v) (hx : a.eval x = .slice (some ⟨w.heap.size, 0, none⟩) 1 1)
    (hK : ∀ g cap w', PiecesAt W (w'.setCell ⟨W.heap.size, 0, none⟩ (.slice (some ⟨g, 0, none⟩) (ls.length + 1) cap)) (.slice (some ⟨g, 0, none⟩) (ls.length + 1) cap) (ls ++ [l]) → Bools w (w'.setCell ⟨W.heap.size, 0, none⟩ (.slice (some ⟨g, 0, none⟩) (ls.length + 1) cap)) →
      w'.cell? ⟨W.heap.size, 0, none⟩ = some v → w'.frozen? ⟨W.heap.size, 0, none⟩ = false → wpList Tryd.prog ops Q rest (a.put o.dst (.slice (some ⟨g, 0, none⟩) (ls.length + 1) cap)) w') : wpList Tryd.prog ops Q (o :: rest) a (w.alloc (.cells #[.string t] 9)) := by
  obtain ⟨i0, hi, hz0, hz1, hz2⟩ := info_parts strs_info
  have hA := h.after ((Below.refl _ w).alloc (Nat.le_refl _) (.cells #[.string t] 9))
  refine wpList_append_own _ hgd s x _ ho (W.heap.size + 1) 9 i0 (.string ⟨#[]⟩) 1 16 Tryd.underlying35 hi hz0 hz1 hz2 rfl (by decide) v ls.length (strCells ls) hs hA.2.1 ⟨w.heap.size, 0, none⟩ 1 1 [.string t] hx rfl ?_ ?_ (by unfold maxLen; omega) (by omega) (by have := lt_of_block hA.1; omega) (fun v' w' h1 h2 h3 => ?_)
  · intro j u hj
    match j, hj with
    | 0, hj =>
      simp at hj; subst hj
      show (w.alloc (.cells #[.string t] 9)).cell? ⟨w.heap.size, 0 + 0, none⟩ = _
      rw [World.cell?_alloc_at _ _ _ _ rfl]; rfl
  · intro u hu; simp at hu; subst hu; rfl
  · have hrow : ∀ k, v.ownBlock = some k → W.heap.size + 1 ≤ k := fun k hk => (hA.2.1.lt k hk).1
    have hG : w'.heap[W.heap.size]? = some (.cells #[v] 35 (0, 0)) := by
      rw [h2.block _ (lt_of_block hA.1) (fun e => by have := hrow _ e.symm; omega)]; exact hA.1
    have hB : Below W.heap.size W w' := hA.2.2.grown h2 hA.2.2.size (fun k hk => by have := hrow k hk; omega)
    rcases h1.2 with ⟨_, h0⟩ | ⟨g, cap, cur, rfl, hg, hh, h4⟩
    · exact absurd h0 (by omega)
    have hown : w'.ownsRow (W.heap.size + 1) 9 1 (.slice (some ⟨g, 0, none⟩) (ls.length + 1) cap) (ls.length + 1) (strCells (ls ++ [l])) := by
      rw [strCells_snoc, ← ht]; exact h1
    refine hK g cap w' ⟨one_setCell hG, ?_, hB.setCell (Nat.le_refl _) _⟩ ?_ (cell_of_one hG) (free_of_one hG)
    · rw [List.length_append]; exact ownsRow_setCell_below hown (Nat.lt_succ_self _) _
    · intro k cs fz hk
      have hk1 : (w.alloc (.cells #[.string t] 9)).heap[k]? = some (.cells cs 4 fz) := by rw [Below.heap_alloc _ _ _ (lt_of_block hk)]; exact hk
      have hne : k ≠ W.heap.size := fun e => by
        subst e; rw [hA.1] at hk1; simp at hk1
      have hnr : some k ≠ v.ownBlock := by
        rcases hA.2.1.2 with ⟨hv, _⟩ | ⟨g', cap', cur', hv, _, hh', _⟩
        · rw [hv]; simp [Value.ownBlock]
        · rw [hv]; intro e
          have e' : k = g' := by simpa [Value.ownBlock] using e
          subst e'; rw [hh'] at hk1; simp at hk1
      rw [Below.heap_setCell _ _ _ _ (by simpa using hne), h2.block k (lt_of_block hk1) hnr]; exact hk1

set_option maxHeartbeats 800000 in
set_option maxRecDepth 100000 in
theorem add_s (W : World) (s : ByteArray) (ls : List (List UInt8)) (w : World) (hs : s.size ≤ 1000000) (hlen : ls.length ≤ 100000000000) (hP : Pieces W w ls) :
    Calls Tryd.prog 38 #[.string s, .pointer (some ⟨W.heap.size, 0, none⟩)] w fun e w' => e = .returned (.tuple #[]) ∧ Pieces W w' (ls ++ Oct.emit s.data.toList) ∧ Bools w w' := by
  by_cases he : Oct.trim s.data.toList = []
  · have HE := Lib.hid (Oct.emit_no he)
    go_enter Tryd.func38, Tryd.ntmps38
    go_wp2_with fail
    refine (Trim_s s w hs).mono ?_
    rw [he]
    rintro e w1 ⟨rfl, hb⟩
    have hx : (str ([] : List UInt8)) = ⟨#[]⟩ := rfl
    rw [hx]
    clear hx
    go_wp2_with fail
    go_end0
    exact ⟨rfl, by rw [HE.out, List.append_nil]; exact hP.after hb, Bools.below hb⟩
  · have HE := Lib.hid (Oct.emit_yes he)
    have hx1 : (str (Oct.trim s.data.toList)).toList.isEmpty = false := by
      rw [str_toList]; cases h : Oct.trim s.data.toList with
      | nil => exact absurd h he
      | cons _ _ => rfl
    have hx2 : ¬ (str (Oct.trim s.data.toList)).toList = [] := by rw [str_toList]; exact he
    obtain ⟨t, ht⟩ : ∃ t, t = str (Oct.trim s.data.toList) := ⟨_, rfl⟩
    rw [← ht] at hx1 hx2
    have HT := Lib.hid ht
    clear he ht
    go_enter Tryd.func38, Tryd.ntmps38
    go_wp2_with fail
    refine (Trim_s s w hs).mono ?_
    rw [← HT.out]
    rintro e w1 ⟨rfl, hb⟩
    obtain ⟨v, hP1⟩ := hP.after hb
    have hB1 := Bools.below hb
    obtain ⟨ao, n, cp, rfl⟩ : ∃ ao n cp, v = .slice ao n cp := by
      rcases hP1.2.1.2 with ⟨hv, _⟩ | ⟨g, cap, cur, hv, _⟩
      · exact ⟨_, _, _, hv⟩
      · exact ⟨_, _, _, hv⟩
    have hc0 := cell_of_one hP1.1
    have hf0 := free_of_one hP1.1
    go_wp2_with (at_builtin; refine appP hP1 (Oct.trim s.data.toList) hlen rfl _ _ rfl t HT.out rfl rfl ?_; intro g cap w2 hP2 hB2 hc2 hf2)
    go_end0
    exact ⟨rfl, ⟨_, by rw [HE.out]; exact hP2⟩, hB1.trans hB2⟩

/-- The two captured variables of a text's marks. -/
def Marks (w : World) (E Q : Nat) (q e : Bool) : Prop := w.heap[E]? = some (.cells #[.bool e] 4 (0, 0)) ∧ w.heap[Q]? = some (.cells #[.bool q] 4 (0, 0)) ∧ E ≠ Q
theorem Marks.later {w w' : World} {E Q : Nat} {q e : Bool} (h : Marks w E Q q e) (hb : Bools w w') : Marks w' E Q q e := ⟨hb _ _ _ h.1, hb _ _ _ h.2.1, h.2.2⟩
theorem Marks.start (w : World) : Marks ((w.alloc (.cells #[.bool false] 4)).alloc (.cells #[.bool false] 4)) (w.heap.size + 1) w.heap.size false false := by
  refine ⟨?_, ?_, by omega⟩
  · have := heap_alloc_new (w.alloc (.cells #[.bool false] 4)) (.cells #[.bool false] 4)
    simpa using this
  · rw [Below.heap_alloc _ _ _ (by simp)]; exact heap_alloc_new w _
theorem Marks.setE {w : World} {E Q : Nat} {q e : Bool} (h : Marks w E Q q e) (e' : Bool) : Marks (w.setCell ⟨E, 0, none⟩ (.bool e')) E Q q e' :=
  ⟨one_setCell h.1, by rw [Below.heap_setCell _ _ _ _ (fun x => h.2.2 x.symm)]; exact h.2.1, h.2.2⟩
theorem Marks.setQ {w : World} {E Q : Nat} {q e : Bool} (h : Marks w E Q q e) (q' : Bool) : Marks (w.setCell ⟨Q, 0, none⟩ (.bool q')) E Q q' e :=
  ⟨by rw [Below.heap_setCell _ _ _ _ h.2.2]; exact h.1, one_setCell h.2.1, h.2.2⟩
/-- Only the two have turned. -/
def Apart (w w' : World) (E Q : Nat) : Prop := w'.os = w.os ∧ w'.tape = w.tape ∧ w'.output = w.output ∧ w'.heap.size = w.heap.size ∧ ∀ k, k ≠ E → k ≠ Q → w'.heap[k]? = w.heap[k]?
theorem Apart.refl (w : World) (E Q : Nat) : Apart w w E Q := ⟨rfl, rfl, rfl, rfl, fun _ _ _ => rfl⟩
theorem Apart.set {w w' : World} {E Q : Nat} (h : Apart w w' E Q) (b : Nat) (hb : b = E ∨ b = Q) (v : Value) : Apart w (w'.setCell ⟨b, 0, none⟩ v) E Q := by
  refine ⟨h.1, h.2.1, h.2.2.1, by simp [h.2.2.2.1], fun k h1 h2 => ?_⟩
  rw [Below.heap_setCell _ _ _ _ (by rcases hb with rfl | rfl <;> simpa using ‹_›)]
  exact h.2.2.2.2 k h1 h2
theorem Apart.pieces {W w w' : World} {E Q : Nat} {q e : Bool} {ls : List (List UInt8)} (h : Apart w w' E Q) (hM : Marks w E Q q e) (hP : Pieces W w ls) (hE : W.heap.size ≤ E) (hQ : W.heap.size ≤ Q) : Pieces W w' ls := by
  obtain ⟨v, h1, h2, h3⟩ := hP
  have ne : ∀ (k : Nat) (c : Array Value) (t : TypeId), w.heap[k]? = some (Obj.cells c t (0, 0)) → t ≠ 4 → w'.heap[k]? = some (Obj.cells c t (0, 0)) := fun k c t hk ht => by
    rw [h.2.2.2.2 k (fun e => by subst e; rw [hM.1] at hk; simp at hk; exact ht hk.2.symm) (fun e => by subst e; rw [hM.2.1] at hk; simp at hk; exact ht hk.2.symm)]
    exact hk
  refine ⟨v, ne _ _ _ h1 (by decide), ownsRow_after h2 (fun g cur hg => ne g cur _ hg (by decide)), ?_⟩
  exact h3.trans ⟨h.1, h.2.1, h.2.2.1, by rw [h.2.2.2.1]; exact Nat.le_refl _, fun k hk => h.2.2.2.2 k (by omega) (by omega)⟩

set_option maxHeartbeats 400000 in
theorem outside_w (w : World) :
    Calls Tryd.prog 39 #[] w fun e w' => e = .returned (.func (.func 52) #[] #[.pointer (some ⟨w.heap.size + 1, 0, none⟩), .pointer (some ⟨w.heap.size, 0, none⟩)]) ∧ w' = (w.alloc (.cells #[.bool false] 4)).alloc (.cells #[.bool false] 4) := by
  have hmf : ∀ (fn : Fn) (first cap : Array Value) (w : World), (Instr.makeFunc fn first cap).run Tryd.prog w = .ok (.func fn first cap) w := fun _ _ _ _ => rfl
  go_enter Tryd.func39, Tryd.ntmps39
  go_wp2
  go_ret
  exact ⟨rfl, rfl⟩

set_option maxHeartbeats 800000 in
theorem outside_c (c : UInt8) (E Q : Nat) (q e : Bool) (w : World) (hM : Marks w E Q q e) :
    Calls Tryd.prog 52 #[.int .u8 c.toNat, .pointer (some ⟨E, 0, none⟩), .pointer (some ⟨Q, 0, none⟩)] w fun r w' => r = .returned (.bool (!(Oct.nq q e c).1)) ∧ Marks w' E Q (Oct.nq q e c).1 (Oct.nq q e c).2 ∧ Apart w w' E Q := by
  have hc := c.toNat_lt
  have e1 := cell_of_one hM.1
  have e2 := free_of_one hM.1
  have q1 := cell_of_one hM.2.1
  have q2 := free_of_one hM.2.1
  have hEQ : ¬ E = Q := hM.2.2
  have hQE : ¬ Q = E := fun h => hM.2.2 h.symm
  cases e with
  | true =>
    have HN := Lib.hid (Oct.nq_esc q c)
    go_enter Tryd.func52, Tryd.ntmps52
    go_wp2
    go_ret
    rw [HN.out]
    exact ⟨rfl, hM.setE _, (Apart.refl w E Q).set E (.inl rfl) _⟩
  | false =>
    by_cases h34 : (c.toNat : Int) = 34
    · have HN := Lib.hid (Oct.nq_quote q c h34)
      cases q with
      | true =>
        have b1 : (c.toNat : Int) ≠ 92 := by omega
        go_enter Tryd.func52, Tryd.ntmps52
        go_wp2
        go_ret
        rw [HN.out]
        exact ⟨rfl, hM.setQ _, (Apart.refl w E Q).set Q (.inr rfl) _⟩
      | false =>
        have b1 : (c.toNat : Int) ≠ 92 := by omega
        go_enter Tryd.func52, Tryd.ntmps52
        go_wp2
        go_ret
        rw [HN.out]
        exact ⟨rfl, hM.setQ _, (Apart.refl w E Q).set Q (.inr rfl) _⟩
    have b34 : ((c.toNat : Int) == 34) = false := beq_eq_false_iff_ne.2 h34
    by_cases h92 : (c.toNat : Int) = 92
    · cases q with
      | true =>
        have HN := Lib.hid (Oct.nq_mark c h92)
        clear h34 b34
        have b1 : (c.toNat : Int) ≠ 34 := by omega
        go_enter Tryd.func52, Tryd.ntmps52
        go_wp2
        go_ret
        rw [HN.out]
        exact ⟨rfl, hM.setE _, (Apart.refl w E Q).set E (.inl rfl) _⟩
      | false =>
        have HN := Lib.hid (Oct.nq_out c h34)
        clear h34
        have b1 : (c.toNat : Int) ≠ 34 := by omega
        go_enter Tryd.func52, Tryd.ntmps52
        go_wp2
        go_ret
        rw [HN.out]
        exact ⟨rfl, hM, Apart.refl w E Q⟩
    have b92 : ((c.toNat : Int) == 92) = false := beq_eq_false_iff_ne.2 h92
    have HN := Lib.hid (Oct.nq_else q c h34 h92)
    clear h34 h92
    cases q with
    | true =>
      have b1 : True := trivial
      go_enter Tryd.func52, Tryd.ntmps52
      go_wp2
      go_ret
      rw [HN.out]
      exact ⟨rfl, hM, Apart.refl w E Q⟩
    | false =>
      have b1 : True := trivial
      go_enter Tryd.func52, Tryd.ntmps52
      go_wp2
      go_ret
      rw [HN.out]
      exact ⟨rfl, hM, Apart.refl w E Q⟩

end Go.Proofs.YtljpidpddlgkpaaDoor
