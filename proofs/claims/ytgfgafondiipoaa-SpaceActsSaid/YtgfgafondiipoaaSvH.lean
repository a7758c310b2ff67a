/- The program's map in memory: Runs: a row of extents that a range over a method collects. -/
import Derived.Test.YtgfgafondiipoaaSvG
import Derived.Maps.AppendAt
namespace Go.Proofs.Ytgfgafondiipoaa
open Go.RowKit Go.Shelf
attribute [local go_sem] Oper.semAt_some

theorem row_cells {w : World} {base : Nat} {e : TypeId} {size n : Nat} {v : Value} {xs : List Value} (h : w.ownsRow base e size v n xs) {k : Nat} (hk : v.ownBlock = some k) : ∃ C f, w.heap[k]? = some (.cells C e f) := by
  rcases h.2 with ⟨hv, _⟩ | ⟨g, cap, cur, hv, _, hh, _⟩
  · rw [hv] at hk; cases hk
  · rw [hv] at hk; cases hk; exact ⟨_, _, hh⟩
theorem ERow.grown {n₀ : Nat} {F : Nat → Prop} {A B : World} {u : Value} {es : List Sp.Ext} {row : Option Nat} (h : ERow n₀ F A u es) (hg : A.grownBy B row) (hr : ∀ r, row = some r → ∃ o : Obj, A.heap[r]? = some o ∧ o.isCells = false) : ERow n₀ F B u es :=
  ⟨ownsRow_keep h.row (fun k hk => hg.block k (h.lt k hk) (fun e => by
    obtain ⟨o, ho, hc⟩ := hr k e.symm
    obtain ⟨C, f, hC⟩ := row_cells h.row hk
    rw [hC] at ho; cases ho; cases hc)), h.own⟩
theorem boxed_grown {A B : World} {b : Nat} {t : TypeId} {u : Value} {row : Option Nat} (h : Boxed A b t u) (hg : A.grownBy B row) (hr : ∀ r, row = some r → ∃ o : Obj, A.heap[r]? = some o ∧ o.isCells = false) : Boxed B b t u :=
  h.kept hg (fun e => by
    obtain ⟨o, ho, hc⟩ := hr b e.symm
    rw [show A.heap[b]? = _ from h] at ho; cases ho; cases hc)
/-- One extent more: all that a round owes. -/
theorem ERow.more {n₀ B : Nat} {W : World} {u : Value} {es : List Sp.Ext} {a n : Int} (h : ERow n₀ (fun k => k = B) W u es) (hv : Boxed W B 31 u) (hn : n₀ ≤ W.heap.size) (hl : es.length ≤ 1000000) :
    ∃ v' w', (Builtin.append_ #[31, 31] 31 #[u, .slice (some ⟨W.heap.size, 0, none⟩) 1 1]).run Try.prog (W.alloc (.cells #[.int .i64 a, .int .i64 n] 35)) = .ok v' w' ∧ (∃ g k c, v' = .slice (some ⟨g, 0, none⟩) k c) ∧ w'.cell? ⟨B, 0, none⟩ = some u ∧ w'.frozen? ⟨B, 0, none⟩ = false ∧
      Boxed (w'.setCell ⟨B, 0, none⟩ v') B 31 v' ∧ ERow n₀ (fun k => k = B) (w'.setCell ⟨B, 0, none⟩ v') v' (es ++ [(a, n)]) ∧ KeepsOthers W (w'.setCell ⟨B, 0, none⟩ v') ∧ Touch (fun k => k = B ∨ u.ownBlock = some k) W (w'.setCell ⟨B, 0, none⟩ v') := by
  obtain ⟨i0, hi, hz0, hz1, hz2⟩ := info_parts exts_info
  have hb0 : Below W.heap.size W (W.alloc (.cells #[.int .i64 a, .int .i64 n] 35)) := (Below.refl _ W).alloc (Nat.le_refl _) _
  have hx := heap_alloc_new W (.cells #[.int .i64 a, .int .i64 n] 35)
  have h1 := h.later hb0
  have hv1 : Boxed (W.alloc (.cells #[.int .i64 a, .int .i64 n] 35)) B 31 u := hv.alloc _
  have hBl := hv.lt
  obtain ⟨v', w', hr, h2, h3, h4⟩ := run_append_whose (P := Try.prog) (W.alloc (.cells #[.int .i64 a, .int .i64 n] 35)) 31 31 35 i0 _ 2 16 Try.underlying31 hi hz0 hz1 hz2 rfl (by decide) u es.length (ecs es) h1.row ⟨W.heap.size, 0, none⟩ 1 1 (ecells (a, n)) rfl (fun j y hj => by
    match j, hj with
    | 0, hj => simp [ecells] at hj; subst hj; exact (blk_cell hx 0 _ rfl).1
    | 1, hj => simp [ecells] at hj; subst hj; exact (blk_cell hx 1 _ rfl).1
    | j + 2, hj => simp [ecells] at hj) (fun y hy => by simp [ecells] at hy; rcases hy with rfl | rfl <;> rfl) (by unfold maxLen; omega) (by omega)
  obtain ⟨g', cap', hv'⟩ := ownsRow_succ h2
  have hne : ∀ k, v'.ownBlock = some k → k ≠ B ∧ n₀ ≤ k := fun k hk => by
    rcases h4 k hk with h5 | h5
    · exact ⟨(h.own k h5).2, (h.own k h5).1⟩
    · rw [World.size_alloc] at h5; exact ⟨by omega, by omega⟩
  have hw' : w'.heap[B]? = some (.cells #[u] 31 (0, 0)) := (h3.block B hv1.lt (fun e => (h.own B e.symm).2 rfl)).trans hv1
  refine ⟨v', w', hr, ⟨g', _, cap', hv'⟩, (blk_cell hw' 0 _ rfl).1, (blk_cell hw' 0 _ rfl).2, heap_set hw', ⟨?_, fun k hk => ⟨(hne k hk).2, (hne k hk).1⟩⟩, ?_, ?_⟩
  · rw [ecs_append, List.length_append]
    exact ownsRow_keep h2 (fun k hk => heap_setCell_other w' ⟨B, 0, none⟩ k v' (hne k hk).1)
  · exact ((KeepsOthers.alloc W _).trans (KeepsOthers.of_grownBy h3 (fun j o ej hj => by
      obtain ⟨C, f, hC⟩ := row_cells h1.row ej
      rw [hC] at hj; cases hj; rfl))).trans (KeepsOthers.setCell w' ⟨B, 0, none⟩ v')
  · exact ((Touch.of hb0).trans (Touch.grown h3 (fun k hk => .inr hk))).trans (Touch.cell (.inl rfl) 0 v')
theorem wpListIn_append_es {F : Fence} {n : Nat} {ops : Array Oper} {rest : List Oper} {o : Oper} {a : Act} {w : World} {Q : Exit → Act → World → Prop} (hgd : o.guard = none) (s x : Operand)
    (ho : o.op = .call { callee := .builtin .append, args := #[s, x], argTypes := #[31, 31] }) (hty : o.type = 31) {u v : Value} (hd : a.eval s = v) (hs : a.eval x = u) {y : Value} {w' : World}
    (hrun : (Builtin.append_ #[31, 31] 31 #[v, u]).run Try.prog w = .ok y w') (h : wpListIn F n Try.prog ops Q rest (a.put o.dst y) w') : wpListIn F n Try.prog ops Q (o :: rest) a w := by
  refine wpListIn_plain hgd fun K hK => ?_
  unfold Oper.wpIn
  refine ⟨?_, ?_⟩
  · simp [Oper.about, ho, resolve, Target.leads, Sem.run_pure]
  · rw [Oper.semAt_plain F _ _ (by rw [ho]; intro c hc'; cases hc')]
    simp [execOp, ho, resolve, invoke, builtin, hd, hs, hrun, hty, Result.andThen]
    exact hK _ _ h
/-- Below what lay ahead of the call, whatever of its own a step turns. -/
theorem Touch.low {G : Nat → Prop} {n₀ : Nat} {A B : World} (h : Touch G A B) (hG : ∀ k, G k → n₀ ≤ k) (hn : n₀ ≤ A.heap.size) : Below n₀ A B :=
  ⟨h.os, h.tape, h.output, h.size, fun k hk => h.block k (by omega) (fun hg => by have := hG k hg; omega)⟩
/-- The runs, to a loop over them: all that it owes is said by Below of the world ahead. -/
theorem runs_m (F : Fence) (n : Nat) (h31 : F.fn 31) (h42 : F.fn 42) (hro : F.round = none) (hn : 1 ≤ n) (q b : Nat) (m : Sp.M) (w : World) (h : PD w q b m)
    (hcl : ∀ (X : World) (k : Nat), PD X q b m → k < m.length → CallsIn F (n - 1) Try.prog 42 #[.pointer (some ⟨q, 0, none⟩), .int .i64 (k : Int)] X fun e Y => e = .returned (.int .i64 (fl m k : Int)) ∧ Below X.heap.size X Y) :
    SeqM F n Try.prog 31 (.pointer (some ⟨q, 0, none⟩)) (fun x : RunIn m => #[ext (Sp.ie x.1)]) (Below w.heap.size) (fun xs => rns xs = Sp.runs 0 m) (fun pre => rns pre <+: Sp.runs 0 m) m.length w := fun l J Jx W hW hJ _ hY h0 =>
  runs_c F n h31 h42 hro hn l q b m w h J Jx hcl (fun pre A B hj hb => hJ pre A B none hj (grown_of hb) (fun r e => by cases e)) hY W hW h0

set_option maxHeartbeats 4000000 in
set_option maxRecDepth 100000 in
theorem runsAll_in (F : Fence) (n : Nat) (h27 : F.fn 27) (h31 : F.fn 31) (h42 : F.fn 42) (hro : F.round = none) (hn : 3 ≤ n) (q b : Nat) (m : Sp.M) (w : World) (h : PD w q b m)
    (hcl : ∀ (X : World) (k : Nat), PD X q b m → k < m.length → CallsIn F (n - 1 - 1) Try.prog 42 #[.pointer (some ⟨q, 0, none⟩), .int .i64 (k : Int)] X fun e Y => e = .returned (.int .i64 (fl m k : Int)) ∧ Below X.heap.size X Y) :
    CallsIn F n Try.prog 27 #[.pointer (some ⟨q, 0, none⟩)] w fun e w' => ∃ v, e = .returned v ∧ Below w.heap.size w w' ∧ ERow w.heap.size (fun k => k = w.heap.size) w' v ((Sp.runs 0 m).map Sp.ie) := by
  have h1 : 1 ≤ n := by omega
  have hlen := h.len
  refine callsIn_of_wp_marks Try.func27 rfl h27 ?_ hro
  simp only [Try.ntmps27, List.size_toArray, List.length_cons, List.length_nil, Nat.reduceAdd, Nat.reduceSub, Array.replicate_succ, Array.replicate_zero, List.push_toArray, List.append_toArray, List.nil_append, List.cons_append]
  gi_wp2
  obtain ⟨W0, hW0⟩ : ∃ W0, w.alloc (.cells #[.slice none 0 0] 31) = W0 := ⟨_, rfl⟩
  have bO : Boxed W0 w.heap.size 31 (.slice none 0 0) := by rw [← hW0]; exact Boxed.new w _ _
  have hB0 : Below w.heap.size w W0 := by rw [← hW0]; exact (Below.refl _ w).alloc (Nat.le_refl _) _
  have hs0 : W0.heap.size = w.heap.size + 1 := by rw [← hW0]; simp
  rw [hW0]
  clear hW0
  obtain ⟨B0, hB0e⟩ : ∃ B, B = w.heap.size := ⟨_, rfl⟩
  rw [← hB0e] at bO hs0 ⊢
  have HBE := Lib.hid hB0e
  have hBw : w.heap.size ≤ B0 := by omega
  have hBw2 : B0 ≤ w.heap.size := by omega
  clear hB0e
  refine RM.wpIn_range hro h1 rfl h31 (enters_of Try.func31 (by kernel_rfl) rfl) (runs_m F (n - 1) h31 h42 hro (by omega) q b m w h hcl) belowK_t (belowK_b hB0.size) hB0 (fun _ => rfl)
    (fun pre W => (∃ u, Boxed W B0 31 u ∧ ERow B0 (fun k => k = B0) W u ((rns pre).map Sp.ie)) ∧ Below w.heap.size w W ∧ W0.heap.size ≤ W.heap.size)
    (fun _ _ _ => False)
    (OwnFrom.and (fun s A B row hs hg hr => by
      obtain ⟨u, hv, hR⟩ := hs
      exact ⟨u, boxed_grown hv hg (fun r e => (hr r e).2), hR.grown hg (fun r e => (hr r e).2)⟩) (OwnFrom.and (ownFrom_below (Nat.le_refl _) hB0.size) (fun s A B row hs hg hr => Nat.le_trans hs hg.size)))
    (fun _ _ _ _ _ hs _ _ => hs)
    ⟨⟨_, bO, ERow.empty _ _ _⟩, hB0, Nat.le_refl _⟩
    (fun x a' W => ∃ Bx, B0 < Bx ∧ W.heap[Bx]? = some (.cells #[.int .i64 (x.1.1 : Int), .int .i64 (x.1.2 : Int)] 35 (0, 0)) ∧ a' = { tmps := #[.pointer (some ⟨q, 0, none⟩), undef, .slice none 0 0, .pointer (some ⟨B0, 0, none⟩), .pointer (some ⟨Bx, 0, none⟩), .pointer (some ⟨q, 0, none⟩), .func (.func 31) #[.pointer (some ⟨q, 0, none⟩)] #[], .agg #[.int .i64 (x.1.1 : Int), .int .i64 (x.1.2 : Int)], undef, undef, undef, undef, undef], defers := [] })
    (fun x a' _ A B row hs hg hr => by
      obtain ⟨Bx, q1, q2, q3⟩ := hs
      refine ⟨Bx, q1, (hg.block Bx (lt_of_block q2) (fun e => ?_)).trans q2, q3⟩
      obtain ⟨o, ho, hc⟩ := (hr Bx e.symm).2
      rw [q2] at ho; cases ho; cases hc) ?assign ?body ?done ?stop
  case assign =>
    rintro l pre ⟨⟨a, z⟩, hx⟩ W K ⟨⟨u, hv, hR⟩, hB, hn0W⟩ hK
    have hK' := hK _ (W.alloc (.cells #[.int .i64 (a : Int), .int .i64 (z : Int)] 35)) ((KeepsOthers.alloc _ _).from _) ((Below.refl _ W).alloc hB.size _) ⟨⟨u, hv.alloc _, hR.later ((Below.refl _ W).alloc (Nat.le_refl _) _)⟩, hB.alloc hB.size _, by simp; omega⟩ ⟨W.heap.size, by omega, heap_alloc_new W _, rfl⟩
    clear hK hv hR hB hn0W h hcl bO hB0
    unfold ext Sp.ie
    gi_wp2
    exact hK'
  case body =>
    rintro l pre ⟨⟨a, z⟩, hx⟩ a' W hl ⟨⟨u, hv, hR⟩, hB, hn0W⟩ ⟨Bx, hBx, hbx, rfl⟩ hlt
    simp only at hbx
    have hpl : ((rns pre).map Sp.ie).length ≤ 1000000 := by unfold rns; rw [List.length_map, List.length_map]; omega
    have b1 := hv.cell
    have b2 := (blk_cell hbx 0 _ rfl).1
    have b3 := (blk_cell hbx 1 _ rfl).1
    obtain ⟨v', w', hrun, ⟨g9, k9, c9, rfl⟩, hc9, hf9, hbx9, hR9, hko, ht9⟩ := hR.more (a := (a : Int)) (n := (z : Int)) hv (by omega) hpl
    have hlow : Below w.heap.size W (w'.setCell ⟨B0, 0, none⟩ (.slice (some ⟨g9, 0, none⟩) k9 c9)) := ht9.low (fun k hk => by
      rcases hk with rfl | hk
      · exact hBw
      · have := (hR.own k hk).1; omega) hB.size
    have HEND := Lib.hid (And.intro (hko.from W0.heap.size) (And.intro hlow (And.intro (show ∃ u, Boxed (w'.setCell ⟨B0, 0, none⟩ (.slice (some ⟨g9, 0, none⟩) k9 c9)) B0 31 u ∧ ERow B0 (fun k => k = B0) (w'.setCell ⟨B0, 0, none⟩ (.slice (some ⟨g9, 0, none⟩) k9 c9)) u ((rns (pre ++ [⟨(a, z), hx⟩])).map Sp.ie) from ⟨_, hbx9, by rw [rns_snoc, List.map_append]; exact hR9⟩) (And.intro (hB.trans hlow) (Nat.le_trans hn0W hko.size)))))
    clear hbx hbx9 hR9 hko ht9 hlow hv hR hB hn0W hpl h hcl bO hB0
    gi_wp2_with (gi_at_builtin; refine wpListIn_append_es rfl (.tmp 8) (.tmp 10) rfl rfl rfl rfl hrun ?_)
    exact ⟨HEND.out.1, HEND.out.2.1, HEND.out.2.2⟩
  case done =>
    rintro D ys W hD hS ⟨⟨u, hv, hR⟩, hB, _⟩ hK
    have hc := hv.cell
    gi_wp2
    refine ⟨by simp, .inl ⟨_, _, rfl, run_takeDeferred hK, ?_⟩⟩
    rw [hS] at hR
    have hR9 := hR.grown (grownBy_putObj' W D (.deferred none)) (fun r e => by cases e; exact ⟨_, hK, rfl⟩)
    exact ⟨_, results_tmp rfl _ _ _, u, rfl, hB.trans (belowK_b (w := w) (Nat.le_refl _) W D _ _ (Nat.le_trans hB0.size hD) hK rfl rfl), by rw [← HBE.out]; exact hR9⟩
  case stop =>
    rintro D c pre W _ _ h _
    exact h.elim
theorem pRuns_w (q b : Nat) (m : Sp.M) (w : World) (h : PD w q b m) :
    Calls Try.prog 27 #[.pointer (some ⟨q, 0, none⟩)] w fun e w' => ∃ v, e = .returned v ∧ Below w.heap.size w w' ∧ ERow w.heap.size (fun k => k = w.heap.size) w' v ((Sp.runs 0 m).map Sp.ie) :=
  callsIn_wide.1 (runsAll_in Fence.wide 6 trivial trivial trivial rfl (by decide) q b m w h (fun X k hX hk => callsIn_wide.2 (length_w X q b m k hX hk)))
end Go.Proofs.Ytgfgafondiipoaa
