/- The program's package page: Sectors. -/
import Derived.Test.YtlipgphmhkjnpaaDoorPgW4
import Derived.Test.YtlipgphmhkjnpaaDoorPgS
namespace Go.Proofs.YtlipgphmhkjnpaaDoor
open Go.RowKit Go.Shelf
attribute [local go_sem] Oper.semAt_some

/-- A row of the loop's own, each of whose elements is octets in a block of the loop's own. -/
def SRow (n₀ : Nat) (W : World) (u : Value) (ls : List (List UInt8)) : Prop := ∃ us : List Value, us.length = ls.length ∧ W.ownsRow n₀ 23 1 u us.length us ∧ ∀ i (h1 : i < us.length) (h2 : i < ls.length), OIn (fun k => n₀ ≤ k) W us[i] ls[i]
theorem SRow.nil (n₀ : Nat) (W : World) : SRow n₀ W (.slice none 0 0) [] := ⟨[], rfl, World.ownsRow_nil _ _ _ _, fun i h1 _ => by cases h1⟩
theorem SRow.grown {n₀ : Nat} {A B : World} {u : Value} {ls : List (List UInt8)} {row : Option Nat} (h : SRow n₀ A u ls) (hg : A.grownBy B row) (hr : ∀ r, row = some r → ∃ o : Obj, A.heap[r]? = some o ∧ o.isCells = false) : SRow n₀ B u ls := by
  obtain ⟨us, h1, h2, h3⟩ := h
  have hk : ∀ (k : Nat) (C : Array Value) (t : TypeId) (fr : Nat × Nat), A.heap[k]? = some (.cells C t fr) → B.heap[k]? = A.heap[k]? := fun k C t fr hb => hg.block k (lt_of_block hb) (fun e => by
    obtain ⟨o, ho, hc⟩ := hr k e.symm
    rw [hb] at ho; cases ho; cases hc)
  exact ⟨us, h1, ownsRow_keep h2 (fun k hv => by
    obtain ⟨C, hC⟩ := row_type h2 hv
    exact hk k C _ _ hC), fun i i1 i2 => (h3 i i1 i2).keep (fun _ hf => hf) (fun k C fr _ hb => hk k C _ fr hb)⟩
theorem SRow.sec {w W : World} {n₀ : Nat} {u : Value} {ls : List (List UInt8)} (h : SRow n₀ W u ls) (hn : w.heap.size ≤ n₀) (hb : Below w.heap.size w W) : SecRow w W u ls := by
  obtain ⟨us, h1, h2, h3⟩ := h
  refine ⟨⟨us, h1, ⟨h2.1, ?_⟩, fun i i1 i2 => (h3 i i1 i2).keep (fun k hk => Nat.le_trans hn hk) (fun _ _ _ _ _ => rfl)⟩, hb⟩
  rcases h2.2 with h | ⟨g, cap, cur, hv, hg, rest⟩
  · exact .inl h
  · exact .inr ⟨g, cap, cur, hv, Nat.le_trans hn hg, rest⟩
/-- One more: all that the loop's body owes. -/
theorem SRow.more {n₀ B : Nat} {W : World} {u y : Value} {ls : List (List UInt8)} {x : List UInt8} (h : SRow n₀ W u ls) (hv : Boxed W B 22 u) (hBn : B < n₀) (hn : n₀ ≤ W.heap.size) (hy : OIn (fun k => n₀ ≤ k) W y x) (hl : ls.length ≤ 1000000) :
    ∃ v' w', (Builtin.append_ #[22, 22] 22 #[u, .slice (some ⟨W.heap.size, 0, none⟩) 1 1]).run Tryd.prog (W.alloc (.cells #[y] 23)) = .ok v' w' ∧ (∃ g k c, v' = .slice (some ⟨g, 0, none⟩) k c) ∧ w'.cell? ⟨B, 0, none⟩ = some u ∧ w'.frozen? ⟨B, 0, none⟩ = false ∧
      Boxed (w'.setCell ⟨B, 0, none⟩ v') B 22 v' ∧ SRow n₀ (w'.setCell ⟨B, 0, none⟩ v') v' (ls ++ [x]) ∧ KeepsOthers W (w'.setCell ⟨B, 0, none⟩ v') ∧ (∀ n, n ≤ B → Below n W (w'.setCell ⟨B, 0, none⟩ v')) ∧ (∀ k, k < n₀ → k ≠ B → (w'.setCell ⟨B, 0, none⟩ v').heap[k]? = W.heap[k]?) := by
  obtain ⟨us, h1, h2, h3⟩ := h
  obtain ⟨i0, hi0, hz0, hz1, hz2⟩ := info_parts slices_info
  obtain ⟨yb, yo, yc, yC, yf, hye, _⟩ := id hy
  have hone : y.oneCell' = true := by rw [hye]; rfl
  have hb0 : Below W.heap.size W (W.alloc (.cells #[y] 23)) := (Below.refl _ W).alloc (Nat.le_refl _) _
  have h2a := h2.alloc (.cells #[y] 23)
  obtain ⟨v', w', hrun, ho, hg, _⟩ := run_append_own (P := Tryd.prog) (w := W.alloc (.cells #[y] 23)) n₀ 22 22 23 i0 (.slice none 0 0) 1 24 Tryd.underlying22 hi0 hz0 hz1 hz2 rfl (by decide) u us.length us h2a ⟨W.heap.size, 0, none⟩ 1 1 [y] rfl (fun j v hj => by
    match j, hj with
    | 0, hj =>
      simp only [List.getElem?_cons_zero, Option.some.injEq] at hj
      subst hj
      exact (cell_one_new _ _ _) 0 _ rfl) (fun v hv => by rw [List.mem_singleton.1 hv]; exact hone) (by unfold maxLen; omega) (by omega) (by simp; omega)
  obtain ⟨g', cap', hv'⟩ := ownsRow_succ ho
  have hbd : ∀ (n : Nat), n ≤ n₀ → W.ownsRow n 23 1 u us.length us ∧ w'.ownsRow n 23 1 v' (us.length + 1) (us ++ [y]) := fun n hnn => by
    refine ⟨⟨h2.1, ?_⟩, ⟨ho.1, ?_⟩⟩
    · rcases h2.2 with h | ⟨g, cap, cur, hv, hg, rest⟩
      · exact .inl h
      · exact .inr ⟨g, cap, cur, hv, Nat.le_trans hnn hg, rest⟩
    · rcases ho.2 with h | ⟨g, cap, cur, hv, hg, rest⟩
      · exact .inl h
      · exact .inr ⟨g, cap, cur, hv, Nat.le_trans hnn hg, rest⟩
  obtain ⟨a1, a2, a3, a4, _⟩ := hv.appended (by decide) (hbd B (by omega)).1 (by omega) (Nat.le_refl _) (hbd B (by omega)).2 hg
  have hrow : ∀ k, u.ownBlock = some k → n₀ ≤ k := fun k hk => (World.ownsRow.lt h2 k hk).1
  have hset : ∀ k, k ≠ B → (w'.setCell ⟨B, 0, none⟩ v').heap[k]? = w'.heap[k]? := fun k hk => Below.heap_setCell _ _ _ k (fun e => hk e)
  have hk : ∀ (k : Nat) (C : Array Value) (fr : Nat × Nat), W.heap[k]? = some (.cells C 5 fr) → (w'.setCell ⟨B, 0, none⟩ v').heap[k]? = W.heap[k]? := fun k C fr hb => by
    rw [hset k (fun e => by
      subst e
      exact ne_block hb (show W.heap[k]? = some (.cells #[u] 22 (0, 0)) from hv) (by decide) rfl), hg.block k (by simp; have := lt_of_block hb; omega) (fun e => by
        obtain ⟨C2, hC2⟩ := row_type h2 e.symm
        exact ne_block hb hC2 (by decide) rfl)]
    exact hb0.block k (lt_of_block hb)
  refine ⟨v', w', hrun, ⟨g', _, cap', hv'⟩, a1.cell, a1.frozen, a2, ⟨us ++ [y], by rw [List.length_append, List.length_append, h1]; rfl, ?_, fun i i1 i2 => ?_⟩, a4, fun n hnB => ?_, fun k hkn hkB => ?_⟩
  · rw [List.length_append]
    refine ownsRow_keep ho (fun k hvk => hset k (fun e => ?_))
    have := (World.ownsRow.lt ho k hvk).1
    omega
  · by_cases hi : i < us.length
    · rw [List.getElem_append_left hi, List.getElem_append_left (by omega)]
      exact (h3 i hi (by omega)).keep (fun _ hf => hf) (fun k C fr _ hb => hk k C fr hb)
    · have e1 : i = us.length := by simp at i1; omega
      subst e1
      rw [List.getElem_append_right (Nat.le_refl _), List.getElem_append_right (by omega)]
      simp only [Nat.sub_self, h1, List.getElem_singleton]
      exact hy.keep (fun _ hf => hf) (fun k C fr _ hb => hk k C fr hb)
  · exact (hv.appended (by decide) (hbd n (by omega)).1 (by omega) hnB (hbd n (by omega)).2 hg).2.2.2.2
  · rw [hset k hkB, hg.block k (by simp; omega) (fun e => by have := hrow k e.symm; omega)]
    exact hb0.block k (by omega)
theorem SRow.later {n₀ : Nat} {A B : World} {u : Value} {ls : List (List UInt8)} (h : SRow n₀ A u ls) (hb : Below A.heap.size A B) : SRow n₀ B u ls := by
  obtain ⟨us, h1, h2, h3⟩ := h
  exact ⟨us, h1, ownsRow_keep h2 (fun k hv => hb.block k (World.ownsRow.lt h2 k hv).2), fun i i1 i2 => (h3 i i1 i2).keep (fun _ hf => hf) (fun k C fr _ hk => hb.block k (lt_of_block hk))⟩
theorem pad_put (x : List UInt8) : (List.replicate 64 (0 : UInt8)).take 0 ++ (x ++ (List.replicate 64 (0 : UInt8)).drop (0 + x.length)) = Pg.pad x := by
  unfold Pg.pad
  rw [List.take_zero, List.nil_append, Nat.zero_add, List.drop_replicate]
/-- A round of Sectors' loop behind its copy. -/
theorem sec_step {n₀ B : Nat} {w W w2 : World} {u : Value} {ls : List (List UInt8)} {x : List UInt8} (hv : Boxed W B 22 u) (hR : SRow n₀ W u ls) (hB : Below w.heap.size w W) (hBn : B + 2 < n₀) (hn : n₀ ≤ W.heap.size) (hwB : w.heap.size ≤ B) (hx : x.length ≤ 64) (hl : ls.length ≤ 1000000)
    (HB : Hid (Blk w2 W.heap.size ((List.replicate 64 (0 : UInt8)).take 0 ++ (x ++ (List.replicate 64 (0 : UInt8)).drop (0 + x.length)))))
    (HK : Hid ((∀ (n : Nat) (a : World), Below n a (W.alloc (.cells (madeCells #[.int .u8 0] 64) 5)) → n ≤ W.heap.size → Below n a w2) ∧ (∀ k, k ≠ W.heap.size → w2.heap[k]? = (W.alloc (.cells (madeCells #[.int .u8 0] 64) 5)).heap[k]?) ∧ w2.heap.size = (W.alloc (.cells (madeCells #[.int .u8 0] 64) 5)).heap.size)) :
    w2.cell? ⟨B, 0, none⟩ = some u ∧ ∃ v' w', (Builtin.append_ #[22, 22] 22 #[u, .slice (some ⟨w2.heap.size, 0, none⟩) 1 1]).run Tryd.prog (w2.alloc (.cells #[.slice (some ⟨W.heap.size, 0, none⟩) 64 64] 23)) = .ok v' w' ∧ (∃ g k c, v' = .slice (some ⟨g, 0, none⟩) k c) ∧ w'.cell? ⟨B, 0, none⟩ = some u ∧ w'.frozen? ⟨B, 0, none⟩ = false ∧
      Hid (KeepsFrom n₀ W (w'.setCell ⟨B, 0, none⟩ v') ∧ KP w.heap.size (B + 1) (B + 1 + 1) W (w'.setCell ⟨B, 0, none⟩ v') ∧ (∃ u, Boxed (w'.setCell ⟨B, 0, none⟩ v') B 22 u ∧ SRow n₀ (w'.setCell ⟨B, 0, none⟩ v') u (ls ++ [Pg.pad x])) ∧ Below w.heap.size w (w'.setCell ⟨B, 0, none⟩ v')) := by
  have hb1 : Below W.heap.size W (W.alloc (.cells (madeCells #[.int .u8 0] 64) 5)) := (Below.refl _ W).alloc (Nat.le_refl _) _
  have hb2 := HK.out.1 _ _ hb1 (Nat.le_refl _)
  have hb := HB.out
  rw [pad_put] at hb
  have hv2 : Boxed w2 B 22 u := (hb2.block B hv.lt).trans hv
  have hpl : (Pg.pad x).length = 64 := Pg.pad_length hx
  have hy := hb.oin (F := fun k => n₀ ≤ k) (n := 64) (cap := 64) hn hpl.symm (Nat.le_refl _) (by decide)
  obtain ⟨v', w', hrun, hsh, hc, hf, q1, q2, q3, q4, q5⟩ := (hR.later hb2).more hv2 (by omega) (Nat.le_trans hn hb2.size) hy hl
  have hko : KeepsOthers W w2 := ⟨hb2.size, fun k o hk _ => (hb2.block k (Array.getElem?_eq_some_iff.1 hk).1).trans hk⟩
  refine ⟨hv2.cell, v', w', hrun, hsh, hc, hf, Lib.hid ⟨(hko.trans q3).from _, ⟨(hb2.mono hB.size).trans (q4 _ hwB), ?_, ?_⟩, ⟨_, q1, q2⟩, hB.trans ((hb2.mono hB.size).trans (q4 _ hwB))⟩⟩
  · rw [q5 _ (by omega) (by omega)]; exact hb2.block _ (by omega)
  · rw [q5 _ (by omega) (by omega)]; exact hb2.block _ (by omega)
theorem wpListIn_append_go {F : Fence} {n : Nat} {ops : Array Oper} {rest : List Oper} {o : Oper} {a : Act} {w : World} {Q : Exit → Act → World → Prop} (hgd : o.guard = none) (s x : Operand)
    (ho : o.op = .call { callee := .builtin .append, args := #[s, x], argTypes := #[22, 22] }) (hty : o.type = 22) {u v : Value} (hd : a.eval s = v) (hs : a.eval x = u) {y : Value} {w' : World}
    (hrun : (Builtin.append_ #[22, 22] 22 #[v, u]).run Tryd.prog w = .ok y w') (h : wpListIn F n Tryd.prog ops Q rest (a.put o.dst y) w') : wpListIn F n Tryd.prog ops Q (o :: rest) a w := by
  refine wpListIn_plain hgd fun K hK => ?_
  unfold Oper.wpIn
  refine ⟨?_, ?_⟩
  · simp [Oper.about, ho, resolve, Target.leads, Sem.run_pure]
  · rw [Oper.semAt_plain F _ _ (by rw [ho]; intro c hc'; cases hc')]
    simp [execOp, ho, resolve, invoke, builtin, hd, hs, hrun, hty, Result.andThen]
    exact hK _ _ h
end Go.Proofs.YtlipgphmhkjnpaaDoor
