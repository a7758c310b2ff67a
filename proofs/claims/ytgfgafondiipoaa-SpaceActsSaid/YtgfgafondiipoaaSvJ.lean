/- The program's map in memory: Pieces. -/
import Derived.Test.YtgfgafondiipoaaSvI
namespace Go.Proofs.Ytgfgafondiipoaa
open Go.RowKit Go.Shelf
attribute [local go_sem] Oper.semAt_some

theorem cut_append : ∀ (a b : List Sp.Run) (n : Nat), Sp.cut n (a ++ b) = Sp.cut n a ++ Sp.cut (n - Sp.size a) b
  | [], b, n => by simp [Sp.cut, Sp.size]
  | e :: t, b, n => by
    have IH := cut_append t b (n - e.2)
    have hs : Sp.size (e :: t) = e.2 + Sp.size t := by simp [Sp.size]
    rw [List.cons_append]
    by_cases h : n = 0
    · subst h; rw [cut_zero, cut_zero, Nat.zero_sub, cut_zero]; rfl
    · have e1 : ∀ l, Sp.cut n (e :: l) = (e.1, min e.2 n) :: Sp.cut (n - e.2) l := fun l => by simp [Sp.cut, h]
      rw [e1, e1, IH, hs, Nat.sub_add_eq]; rfl
theorem cut_snoc (a : List Sp.Run) (x : Sp.Run) (n : Nat) (h : n - Sp.size a ≠ 0) : Sp.cut n (a ++ [x]) = Sp.cut n a ++ [(x.1, min x.2 (n - Sp.size a))] := by
  rw [cut_append]; simp [Sp.cut, h]
theorem size_snoc (a : List Sp.Run) (x : Sp.Run) : Sp.size (a ++ [x]) = Sp.size a + x.2 := by simp [Sp.size]
/-- Behind the loop, when all runs have come. -/
theorem pieces_all {m : Sp.M} {n most : Int} (h1 : 1 ≤ n) (hM : Sp.runs 0 m = [] ∨ ((Sp.cut n.toNat (Sp.runs 0 m)).length : Int) ≤ most) :
    (0 < n.toNat - Sp.size (Sp.runs 0 m) → Sp.pieces n most m = (m, [], false)) ∧ (n.toNat - Sp.size (Sp.runs 0 m) = 0 → Sp.cut n.toNat (Sp.runs 0 m) = Sp.cut n.toNat (Sp.runs 0 m) ∧ Sp.pieces n most m = (Sp.puts Sp.anew (Sp.cut n.toNat (Sp.runs 0 m)) m, Sp.cut n.toNat (Sp.runs 0 m), true)) := by
  have hs := Sp.runs_size m 0
  refine ⟨fun h => ?_, fun h => ⟨rfl, ?_⟩⟩
  · unfold Sp.pieces; rw [if_pos (Or.inr (by omega))]
  · unfold Sp.pieces
    rw [if_neg (by omega), if_neg]
    rcases hM with h0 | h0
    · rw [h0] at h; simp [Sp.size] at h; omega
    · omega
/-- Behind the loop, when it was left ahead of a run. -/
theorem pieces_part {m : Sp.M} {n most : Int} {p0 : List Sp.Run} {x : Sp.Run} (h1 : 1 ≤ n) (hS : p0 ++ [x] <+: Sp.runs 0 m) (hM : p0 = [] ∨ ((Sp.cut n.toNat p0).length : Int) ≤ most) (hc : n.toNat - Sp.size p0 = 0 ∨ most ≤ ((Sp.cut n.toNat p0).length : Int)) :
    (0 < n.toNat - Sp.size p0 → Sp.pieces n most m = (m, [], false)) ∧ (n.toNat - Sp.size p0 = 0 → Sp.cut n.toNat p0 = Sp.cut n.toNat (Sp.runs 0 m) ∧ Sp.pieces n most m = (Sp.puts Sp.anew (Sp.cut n.toNat p0) m, Sp.cut n.toNat p0, true)) := by
  obtain ⟨t, ht⟩ := hS
  have hs := Sp.runs_size m 0
  have hL : Sp.runs 0 m = p0 ++ (x :: t) := by rw [← ht, List.append_assoc]; rfl
  have hcut := cut_append p0 (x :: t) n.toNat
  rw [← hL] at hcut
  have hsz : Sp.size (Sp.runs 0 m) = Sp.size p0 + Sp.size (x :: t) := by rw [hL]; exact Sp.size_append _ _
  refine ⟨fun h => ?_, fun h => ?_⟩
  · unfold Sp.pieces
    by_cases hf : (Sp.free m : Int) < n
    · rw [if_pos (Or.inr hf)]
    · rw [if_neg (by omega), if_pos]
      rw [hcut, List.length_append]
      have : 0 < (Sp.cut (n.toNat - Sp.size p0) (x :: t)).length := by
        unfold Sp.cut; rw [if_neg (by omega)]; simp
      omega
  · rw [h, cut_zero, List.append_nil] at hcut
    refine ⟨hcut.symm, ?_⟩
    unfold Sp.pieces
    rw [hcut, if_neg (by omega), if_neg]
    rcases hM with h0 | h0
    · subst h0; simp [Sp.size] at h; omega
    · omega
theorem cut_in {m : Sp.M} {N : Nat} : (∀ e ∈ (Sp.cut N (Sp.runs 0 m)).map Sp.ie, Sp.RightE m.length e) ∧ (∀ i, Sp.Cov (Sp.cut N (Sp.runs 0 m)) i → ∃ y, m[i]? = some (0, y)) := by
  have h1 : ∀ r ∈ Sp.runs 0 m, 1 ≤ r.2 := fun r hr => (Sp.runs_ge m 0 r hr).2.1
  constructor
  · intro e he
    obtain ⟨c, hc, rfl⟩ := List.mem_map.1 he
    obtain ⟨r, hr, e1, e2, e3⟩ := Sp.cut_mem _ _ h1 c hc
    have := (Sp.runs_ge m 0 r hr).2.2
    unfold Sp.RightE Sp.ie
    simp only
    omega
  · rintro i ⟨c, hc, hi1, hi2⟩
    obtain ⟨r, hr, e1, e2, e3⟩ := Sp.cut_mem _ _ h1 c hc
    have := Sp.runs_free m 0 r hr i (by omega) (by omega)
    rw [Nat.sub_zero] at this; exact this
theorem er_map (E : List Sp.Run) : (E.map Sp.ie).map Sp.er = E := by rw [List.map_map]; exact List.map_id E
theorem puts_const {m : Sp.M} {es : List Sp.Run} {X : Sp.Cell} {f : Sp.Cell → Sp.Cell} (hf : ∀ c, f (f c) = f c) (h : ∀ i c, Sp.Cov es i → m[i]? = some c → f c = X) : Sp.puts (fun _ => X) es m = Sp.puts f es m := by
  apply List.ext_getElem?
  intro i
  rw [Sp.puts_get (fun _ => X) (fun _ => rfl), Sp.puts_get f hf]
  by_cases hc : Sp.Cov es i
  · rw [if_pos hc, if_pos hc]
    cases hm : m[i]? with
    | none => rfl
    | some c => rw [Option.map_some, Option.map_some, h i c hc hm]
  · rw [if_neg hc, if_neg hc]
theorem puts_anew2 {m : Sp.M} {w : World} {q b : Nat} (h : PD w q b m) {es : List Sp.Run} (hf : ∀ i, Sp.Cov es i → ∃ y, m[i]? = some (0, y)) : Sp.puts (fun _ => (2, false)) es m = Sp.puts Sp.anew es m :=
  puts_const (fun _ => rfl) (fun i c hc hm => by
    obtain ⟨y, hy⟩ := hf i hc
    rw [hm] at hy; cases hy
    have := (h.inv _ (List.mem_of_getElem? hm)).2 rfl
    simp only at this; subst this; rfl)
theorem ERow.outF {n₀ : Nat} {F G : Nat → Prop} {w : World} {v : Value} {es : List Sp.Ext} (h : ERow n₀ F w v es) (hG : ∀ k, G k → k < n₀) : EsOut G w v es :=
  (ERow.out (F := G) (B := n₀) ⟨h.row, fun k hk => ⟨(h.own k hk).1, fun hg => by have := hG k hg; have := (h.own k hk).1; omega⟩⟩)
theorem EsOut.grown9 {F : Nat → Prop} {w w' : World} {v : Value} {es : List Sp.Ext} {row : Option Nat} (h : EsOut F w v es) (hg : w.grownBy w' row) (hr : ∀ r, row = some r → ∃ o : Obj, w.heap[r]? = some o ∧ o.isCells = false) : EsOut F w' v es := by
  obtain ⟨ao, cap, hv, h1, h2, h3⟩ := h
  refine ⟨ao, cap, hv, h1, h2, ?_⟩
  rcases h3 with h | ⟨b, o, e, hb, hF, hc⟩
  · exact .inl h
  · by_cases h0 : es = []
    · exact .inl h0
    · have hp : 0 < es.length := List.length_pos_iff.2 h0
      have hk : w'.heap[b]? = w.heap[b]? := hg.block b hb (fun er => by
        obtain ⟨ob, hob, hcc⟩ := hr b er.symm
        have c0 := (hc 0 hp).1
        simp only [World.cell?, hob] at c0
        cases ob <;> simp_all [Obj.isCells])
      refine .inr ⟨b, o, e, Nat.lt_of_lt_of_le hb hg.size, hF, fun k hk2 => ?_⟩
      rw [← (hc k hk2).1, ← (hc k hk2).2]
      exact ⟨World.cell?_of_block (a := ⟨b, o + k * 2, none⟩) hk, World.cell?_of_block (a := ⟨b, o + k * 2 + 1, none⟩) hk⟩
/-- Between two rounds of Pieces: what the row holds, and how many are still wanted. -/
structure PSt (n₀ g4 g8 N : Nat) (W : World) (l : List Sp.Run) (u : Value) : Prop where
  box : Boxed W g8 31 u
  row : ERow n₀ (fun k => k = g8) W u ((Sp.cut N l).map Sp.ie)
  left : W.heap[g4]? = some (.cells #[.int .i64 ((N - Sp.size l : Nat) : Int)] 3 (0, 0))
theorem PSt.grown {n₀ g4 g8 N : Nat} {A B : World} {l : List Sp.Run} {u : Value} {row : Option Nat} (h : PSt n₀ g4 g8 N A l u) (hg : A.grownBy B row) (hr : ∀ r, row = some r → ∃ o : Obj, A.heap[r]? = some o ∧ o.isCells = false) : PSt n₀ g4 g8 N B l u :=
  ⟨boxed_grown h.box hg hr, h.row.grown hg hr, block_grown h.left hg hr⟩
theorem ERow.low {n₀ n₁ : Nat} {F : Nat → Prop} {w : World} {v : Value} {es : List Sp.Ext} (h : ERow n₀ F w v es) (hn : n₁ ≤ n₀) : ERow n₁ F w v es := ⟨h.row, fun k hk => ⟨Nat.le_trans hn (h.own k hk).1, (h.own k hk).2⟩⟩
/-- A round that takes what it may of a run. -/
theorem PSt.step {n₀ g4 g8 N gx : Nat} {W : World} {l : List Sp.Run} {x : Sp.Run} {u : Value} (h : PSt n₀ g4 g8 N W l u) (h4 : g4 < n₀) (hn : n₀ ≤ W.heap.size) (h48 : g4 ≠ g8) (hx4 : gx ≠ g4) (hx8 : gx ≠ g8) (hxo : ∀ k, u.ownBlock = some k → k ≠ gx) (hl : (Sp.cut N l).length ≤ 100000) (r v : Nat) (hr : r = N - Sp.size l) (hr0 : r ≠ 0) (hv : v = min x.2 r) (vi rv : Int) (hvi : vi = v) (hrv : rv = ((r - v : Nat) : Int)) :
    ∃ v' w', (Builtin.append_ #[31, 31] 31 #[u, .slice (some ⟨W.heap.size, 0, none⟩) 1 1]).run Try.prog (((W.setCell ⟨gx, 1, none⟩ (.int .i64 vi)).setCell ⟨g4, 0, none⟩ (.int .i64 rv)).alloc (.cells #[.int .i64 (x.1 : Int), .int .i64 vi] 35)) = .ok v' w' ∧ (∃ g k c, v' = .slice (some ⟨g, 0, none⟩) k c) ∧ w'.cell? ⟨g8, 0, none⟩ = some u ∧ w'.frozen? ⟨g8, 0, none⟩ = false ∧
      PSt n₀ g4 g8 N (w'.setCell ⟨g8, 0, none⟩ v') (l ++ [x]) v' ∧ KeepsOthers W (w'.setCell ⟨g8, 0, none⟩ v') ∧ Touch (fun k => k = gx ∨ k = g4 ∨ k = g8 ∨ u.ownBlock = some k) W (w'.setCell ⟨g8, 0, none⟩ v') := by
  obtain ⟨W2, hW2⟩ : ∃ W2, W2 = (W.setCell ⟨gx, 1, none⟩ (.int .i64 vi)).setCell ⟨g4, 0, none⟩ (.int .i64 rv) := ⟨_, rfl⟩
  have hs2 : W2.heap.size = W.heap.size := by rw [hW2]; simp
  have hoth : ∀ k, k ≠ gx → k ≠ g4 → W2.heap[k]? = W.heap[k]? := fun k k1 k2 => by
    rw [hW2, heap_setCell_other _ ⟨g4, 0, none⟩ k _ k2, heap_setCell_other _ ⟨gx, 1, none⟩ k _ k1]
  have hleft : W2.heap[g4]? = some (.cells #[.int .i64 rv] 3 (0, 0)) := by
    rw [hW2]
    exact heap_set (k := 0) (v := .int .i64 rv) ((heap_setCell_other W ⟨gx, 1, none⟩ g4 (.int .i64 vi) (fun e => hx4 (show g4 = gx from e).symm)).trans h.left)
  have hbox : Boxed W2 g8 31 u := (hoth g8 (fun e => hx8 e.symm) (fun e => h48 e.symm)).trans h.box
  have hrow : ERow n₀ (fun k => k = g8) W2 u ((Sp.cut N l).map Sp.ie) := ⟨ownsRow_keep h.row.row (fun k hk => hoth k (hxo k hk) (fun e => by have := (h.row.own k hk).1; omega)), h.row.own⟩
  rw [← hW2]
  obtain ⟨v', w', r1, r2, r3, r4, r5, r6, r7, r8⟩ := hrow.more (a := (x.1 : Int)) (n := vi) hbox (by omega) (by rw [List.length_map]; omega)
  rw [hs2] at r1
  refine ⟨v', w', r1, r2, r3, r4, ⟨r5, ?_, ?_⟩, ?_, ?_⟩
  · rw [cut_snoc l x N (by omega), List.map_append, ← hr, ← hv]
    subst hvi
    exact r6
  · rw [size_snoc, Nat.sub_add_eq, ← hr, show r - x.2 = r - v from by omega, ← hrv, r8.block g4 (lt_of_block hleft) (fun e => by
      rcases e with e | e
      · exact h48 e
      · have := (h.row.own g4 e).1; omega)]
    exact hleft
  · have k1 : KeepsOthers W W2 := by rw [hW2]; exact (KeepsOthers.setCell W ⟨gx, 1, none⟩ _).trans (KeepsOthers.setCell _ ⟨g4, 0, none⟩ _)
    exact k1.trans r7
  · have k1 : Touch (fun k => k = gx ∨ k = g4 ∨ k = g8 ∨ u.ownBlock = some k) W W2 := by
      rw [hW2]
      exact (Touch.cell (F := fun k => k = gx ∨ k = g4 ∨ k = g8 ∨ u.ownBlock = some k) (g := gx) (.inl rfl) 1 _).trans (Touch.cell (F := fun k => k = gx ∨ k = g4 ∨ k = g8 ∨ u.ownBlock = some k) (g := g4) (.inr (.inl rfl)) 0 _)
    exact k1.trans (r8.mono (fun k _ hk => .inr (.inr hk)))
/-- Behind the loop. -/
def Aft (w : World) (g4 g8 : Nat) (n most : Int) (m : Sp.M) (W : World) : Prop :=
  ∃ (E : List Sp.Run) (r : Nat) (u : Value), r ≤ n.toNat ∧ Boxed W g8 31 u ∧ ERow w.heap.size (fun k => k = g8) W u (E.map Sp.ie) ∧ W.heap[g4]? = some (.cells #[.int .i64 (r : Int)] 3 (0, 0)) ∧
    (0 < r → Sp.pieces n most m = (m, [], false)) ∧ (r = 0 → E = Sp.cut n.toNat (Sp.runs 0 m) ∧ Sp.pieces n most m = (Sp.puts Sp.anew E m, E, true)) ∧ Below w.heap.size w W
theorem pieces_low {m : Sp.M} {n most : Int} (h : ¬ 1 ≤ n) : Sp.pieces n most m = (m, [], false) := by unfold Sp.pieces; rw [if_pos (Or.inl (by omega))]
set_option maxHeartbeats 8000000 in
set_option maxRecDepth 100000 in
theorem pieces_in (d : Nat) (hd : 3 ≤ d) (q b : Nat) (m : Sp.M) (n most : Int) (w : World) (h : PD w q b m) (hn : I64 n) :
    CallsIn Fence.wide d Try.prog 13 #[.pointer (some ⟨q, 0, none⟩), .int .i64 n, .int .i64 most] w fun e w' => ∃ v, e = .returned (.tuple #[v, .bool (Sp.pieces n most m).2.2]) ∧ PD w' q b (Sp.pieces n most m).1 ∧ Touch (PF q b) w w' ∧ EsOut (PF q b) w' v ((Sp.pieces n most m).2.1.map Sp.ie) ∧ ∀ k, v.ownBlock = some k → w.heap.size ≤ k := by
  have h1d : 1 ≤ d := by omega
  refine callsIn_of_wp_marks Try.func13 rfl trivial ?_ rfl
  simp only [Try.ntmps13, List.size_toArray, List.length_cons, List.length_nil, Nat.reduceAdd, Nat.reduceSub, Array.replicate_succ, Array.replicate_zero, List.push_toArray, List.append_toArray, List.nil_append, List.cons_append]
  have HPW := Lib.hid h
  clear h
  by_cases hz1 : 1 ≤ n
  · have hzi : ¬ n < 1 := by omega
    obtain ⟨W0, hW0⟩ : ∃ W0, ((w.alloc (.cells #[.int .i64 n] 3)).alloc (.cells #[.int .i64 most] 3)).alloc (.cells #[.slice none 0 0] 31) = W0 := ⟨_, rfl⟩
    have hA := three_at w (.cells #[.int .i64 n] 3) (.cells #[.int .i64 most] 3) (.cells #[.slice none 0 0] 31)
    rw [hW0] at hA
    have HA := Lib.hid hA
    have HB0 : Hid (Below w.heap.size w W0) := Lib.hid (by rw [← hW0]; exact (((Below.refl _ w).alloc (Nat.le_refl _) _).alloc (by simp) _).alloc (by simp; omega) _)
    have HS0 : Hid (W0.heap.size = w.heap.size + 3) := Lib.hid (by rw [← hW0]; simp)
    have HW0 := Lib.hid hW0
    clear hA hW0
    gi_wp2
    rw [HW0.out]
    obtain ⟨g8, e8⟩ : ∃ g, g = w.heap.size + 1 + 1 := ⟨_, rfl⟩
    rw [← e8] at HA ⊢
    obtain ⟨g5, e5⟩ : ∃ g, g = w.heap.size + 1 := ⟨_, rfl⟩
    rw [← e5] at HA ⊢
    obtain ⟨g4, e4⟩ : ∃ g, g = w.heap.size := ⟨_, rfl⟩
    rw [← e4] at HA ⊢
    have HE : Hid (g4 = w.heap.size ∧ g5 = w.heap.size + 1 ∧ g8 = w.heap.size + 2) := Lib.hid ⟨e4, e5, e8⟩
    clear e4 e5 e8 HW0
    refine RM.wpIn_range rfl h1d rfl trivial (enters_of Try.func31 (by kernel_rfl) rfl) (runs_m Fence.wide (d - 1) trivial trivial rfl (by omega) q b m w HPW.out (fun X k hX hk => callsIn_wide.2 (length_w X q b m k hX hk))) belowK_t (belowK_b HB0.out.size) HB0.out (fun _ => rfl)
      (fun pre W => (∃ u, PSt W0.heap.size g4 g8 n.toNat W (rns pre) u) ∧ W.heap[g5]? = some (.cells #[.int .i64 most] 3 (0, 0)) ∧ (rns pre = [] ∨ ((Sp.cut n.toNat (rns pre)).length : Int) ≤ most) ∧ Below w.heap.size w W ∧ W0.heap.size ≤ W.heap.size)
      (fun c pre W => c = .exit 0 ∧ ∃ (p0 : List (RunIn m)) (x : RunIn m), pre = p0 ++ [x] ∧ (∃ u, PSt W0.heap.size g4 g8 n.toNat W (rns p0) u) ∧ (rns p0 = [] ∨ ((Sp.cut n.toNat (rns p0)).length : Int) ≤ most) ∧ (n.toNat - Sp.size (rns p0) = 0 ∨ most ≤ ((Sp.cut n.toNat (rns p0)).length : Int)) ∧ Below w.heap.size w W)
      (OwnFrom.and (fun s A B row hs hg hr => by obtain ⟨u, hp⟩ := hs; exact ⟨u, hp.grown hg (fun r e => (hr r e).2)⟩) (OwnFrom.and (fun s A B row hs hg hr => block_grown hs hg (fun r e => (hr r e).2)) (OwnFrom.and (ownFrom_pure _ _) (OwnFrom.and (ownFrom_below (Nat.le_refl _) HB0.out.size) (fun s A B row hs hg hr => Nat.le_trans hs hg.size)))))
      (fun c pre A B row hs hg hr => by
        obtain ⟨h1, p0, x, h2, ⟨u, h3⟩, h4, h5, h6⟩ := hs
        exact ⟨h1, p0, x, h2, ⟨u, h3.grown hg (fun r e => (hr r e).2)⟩, h4, h5, h6.grown hg h6.size (fun k e => by have := (hr k e).1; have := HB0.out.size; omega)⟩)
      ⟨⟨_, ⟨HA.out.2.2, ERow.empty _ _ _, by have := HA.out.1; simpa [rns, Sp.size, Int.toNat_of_nonneg (show 0 ≤ n by omega)] using this⟩⟩, HA.out.2.1, .inl rfl, HB0.out, Nat.le_refl _⟩
      (fun x a' W => ∃ Bx u, g8 < Bx ∧ W.heap[Bx]? = some (.cells #[.int .i64 (x.1.1 : Int), .int .i64 (x.1.2 : Int)] 35 (0, 0)) ∧ Boxed W g8 31 u ∧ (∀ k, u.ownBlock = some k → k ≠ Bx) ∧ a' = { tmps := #[.pointer (some ⟨q, 0, none⟩), .int .i64 n, .int .i64 most, undef, .pointer (some ⟨g4, 0, none⟩), .pointer (some ⟨g5, 0, none⟩), .slice none 0 0, .bool false, .pointer (some ⟨g8, 0, none⟩), .pointer (some ⟨Bx, 0, none⟩), .int .i64 n, .bool false, .pointer (some ⟨q, 0, none⟩), .func (.func 31) #[.pointer (some ⟨q, 0, none⟩)] #[], .agg #[.int .i64 (x.1.1 : Int), .int .i64 (x.1.2 : Int)], undef, undef, undef, undef, undef, undef, undef, undef, undef, undef, undef, undef, undef, undef, undef, undef, undef, undef, undef, undef, undef, undef, undef, undef, undef, undef, undef, undef, undef], defers := [] })
      (fun x a' _ A B row hs hg hr => by
        obtain ⟨Bx, u, q1, q2, q3, q4, q5⟩ := hs
        exact ⟨Bx, u, q1, block_grown q2 hg (fun r e => (hr r e).2), boxed_grown q3 hg (fun r e => (hr r e).2), q4, q5⟩) ?assign ?body ?done ?stop
    case assign =>
      rintro l pre ⟨⟨a, zz⟩, hx⟩ W K ⟨⟨u, hp⟩, h5, hM, hB, hn0W⟩ hK
      have hb1 : Below W.heap.size W (W.alloc (.cells #[.int .i64 (a : Int), .int .i64 (zz : Int)] 35)) := (Below.refl _ W).alloc (Nat.le_refl _) _
      have hK' := hK _ (W.alloc (.cells #[.int .i64 (a : Int), .int .i64 (zz : Int)] 35)) ((KeepsOthers.alloc _ _).from _) (hb1.mono hB.size) ⟨⟨u, hp.box.alloc _, hp.row.later hb1, (hb1.block _ (lt_of_block hp.left)).trans hp.left⟩, (hb1.block _ (lt_of_block h5)).trans h5, hM, hB.trans (hb1.mono hB.size), Nat.le_trans hn0W hb1.size⟩ ⟨W.heap.size, u, by have := HS0.out; have := HE.out; omega, heap_alloc_new W _, hp.box.alloc _, fun k hk => by have := hp.row.lt k hk; omega, rfl⟩
      clear hK hp hB hz1 hzi h5 hM hn0W hb1
      unfold ext Sp.ie
      gi_wp2
      exact hK'
    case body =>
      rintro l pre ⟨⟨a, zz⟩, hx⟩ a' W hl ⟨⟨u, hp⟩, h5, hM, hB, hn0W⟩ ⟨gx, u9, hgx, hbx, hb9, hxo, rfl⟩ hlt
      simp only at hbx
      obtain rfl : u9 = u := by
        have e : some (Obj.cells #[u9] 31 (0, 0)) = some (Obj.cells #[u] 31 (0, 0)) := hb9.symm.trans hp.box
        simpa using e
      clear hb9
      obtain ⟨ua, uc, hu, hu1, hu2⟩ := own_shape hp.row.row
      subst hu
      have hcl := cut_le (rns pre) n.toNat
      have hcl2 : (rns pre).length = pre.length := by unfold rns; rw [List.length_map]
      obtain ⟨E, hE⟩ : ∃ E, E = Sp.cut n.toNat (rns pre) := ⟨_, rfl⟩
      obtain ⟨r, hr⟩ : ∃ r, r = n.toNat - Sp.size (rns pre) := ⟨_, rfl⟩
      have hlm := HPW.out.len
      have hEl : E.length ≤ 65536 := by rw [hE]; omega
      have hr9 : r ≤ n.toNat := by rw [hr]; omega
      have hn9 : (n.toNat : Int) ≤ 9223372036854775807 := by have := hn.2; omega
      obtain ⟨L, hL⟩ : ∃ L, L = E.length := ⟨_, rfl⟩
      have hul : ((Sp.cut n.toNat (rns pre)).map Sp.ie).length = L := by rw [List.length_map, ← hE, hL]
      rw [hul] at hu1 hp hxo
      have hbox := hp.box
      have hrow := hp.row
      have hleft := hp.left
      rw [← hr] at hleft
      rw [← hE] at hrow
      have c4 := (blk_cell hleft 0 _ rfl)
      have c5 := (blk_cell h5 0 _ rfl).1
      have c8 := hbox.cell
      have x0 := blk_cell hbx 0 _ rfl
      have x1 := blk_cell hbx 1 _ rfl
      simp only [List.getElem_toArray, List.getElem_cons_zero, List.getElem_cons_succ] at c4 c5 x0 x1
      have hstay := Lib.hid (And.intro (KeepsFrom.refl W0.heap.size W) (And.intro hp (And.intro hM hB)))
      have HR := Lib.hid hr
      have HEE := Lib.hid hE
      have HLL := Lib.hid hL
      by_cases hr0 : r = 0
      · have hri : (r : Int) = 0 := by omega
        clear hbox hrow hleft hbx hp hr hE hL hul hu1 hcl hcl2
        subst hr0
        gi_wp2
        exact ⟨hstay.out.1, rfl, pre, ⟨(a, zz), hx⟩, rfl, ⟨_, hstay.out.2.1⟩, hstay.out.2.2.1, .inl HR.out.symm, hstay.out.2.2.2⟩
      · have hri : ¬ (r : Int) = 0 := by omega
        by_cases hml : most ≤ (L : Int)
        · clear hbox hrow hleft hbx hp hr hE hL hul hu1 hcl hcl2
          gi_wp2
          exact ⟨hstay.out.1, rfl, pre, ⟨(a, zz), hx⟩, rfl, ⟨_, hstay.out.2.1⟩, hstay.out.2.2.1, .inr (by rw [← HEE.out, ← HLL.out]; exact hml), hstay.out.2.2.2⟩
        · have hgs := HE.out
          have hss := HS0.out
          by_cases hzr : zz ≤ r
          · obtain ⟨v', w', hrun, ⟨g9, k9, c9, rfl⟩, hc9, hf9, hst, hko, hto⟩ := hp.step (gx := gx) (x := (a, zz)) (by omega) hn0W (by omega) (by omega) (by omega) hxo (by omega) r zz hr hr0 (by simp only; omega) (zz : Int) ((r : Int) - zz) rfl (by omega)
            have hlow := hto.low (n₀ := w.heap.size) (fun k hk => by
              rcases hk with rfl | rfl | rfl | hk
              · omega
              · omega
              · omega
              · have := (hp.row.own k hk).1; omega) hB.size
            have hmn : min (zz : Int) (r : Int) = (zz : Int) := by omega
            have hle : (zz : Int) ≤ (r : Int) := by omega
            have HEND := Lib.hid (And.intro (hko.from W0.heap.size) (And.intro hlow (And.intro hst hto)))
            have H5 := Lib.hid (show (w'.setCell ⟨g8, 0, none⟩ (.slice (some ⟨g9, 0, none⟩) k9 c9)).heap[g5]? = some (.cells #[.int .i64 most] 3 (0, 0)) from by
              rw [hto.block g5 (lt_of_block h5) (fun e => by
                rcases e with e | e | e | e
                · omega
                · omega
                · omega
                · have := (hp.row.own g5 e).1; omega)]
              exact h5)
            have HM2 : Hid (rns (pre ++ [(⟨(a, zz), hx⟩ : RunIn m)]) = [] ∨ ((Sp.cut n.toNat (rns (pre ++ [(⟨(a, zz), hx⟩ : RunIn m)]))).length : Int) ≤ most) := Lib.hid (.inr (by
              rw [rns_snoc, cut_snoc _ _ _ (by rw [← hr]; exact hr0), List.length_append, ← hE, ← hL]
              simp only [List.length_singleton]
              omega))
            have HST := Lib.hid (show PSt W0.heap.size g4 g8 n.toNat (w'.setCell ⟨g8, 0, none⟩ (.slice (some ⟨g9, 0, none⟩) k9 c9)) (rns (pre ++ [(⟨(a, zz), hx⟩ : RunIn m)])) (.slice (some ⟨g9, 0, none⟩) k9 c9) from by rw [rns_snoc]; exact hst)
            have HBW := Lib.hid hB
            have HN0 := Lib.hid hn0W
            have n1 : ¬ gx = g4 := by omega
            have n2 : ¬ g4 = gx := by omega
            have n3 : ¬ gx = g8 := by omega
            have n4 : ¬ g8 = gx := by omega
            have n5 : ¬ g4 = g8 := by omega
            have n6 : ¬ g8 = g4 := by omega
            clear hbox hrow hleft hbx hp hr hE hL hul hu1 hcl hcl2 hst hko hto hlow hgs hss hB h5 hM hn0W hxo
            gi_wp2_with (gi_at_builtin; refine wpListIn_append_es rfl (.tmp 32) (.tmp 34) rfl rfl rfl rfl hrun ?_)
            exact ⟨HEND.out.1, HEND.out.2.1, ⟨_, HST.out⟩, H5.out, HM2.out, HBW.out.trans HEND.out.2.1, Nat.le_trans HN0.out HEND.out.1.size⟩
          · obtain ⟨v', w', hrun, ⟨g9, k9, c9, rfl⟩, hc9, hf9, hst, hko, hto⟩ := hp.step (gx := gx) (x := (a, zz)) (by omega) hn0W (by omega) (by omega) (by omega) hxo (by omega) r r hr hr0 (by simp only; omega) (r : Int) 0 rfl (by simp)
            have hlow := hto.low (n₀ := w.heap.size) (fun k hk => by
              rcases hk with rfl | rfl | rfl | hk
              · omega
              · omega
              · omega
              · have := (hp.row.own k hk).1; omega) hB.size
            have hmn : min (zz : Int) (r : Int) = (r : Int) := by omega
            have hle : ¬ (zz : Int) ≤ (r : Int) := by omega
            have HEND := Lib.hid (And.intro (hko.from W0.heap.size) (And.intro hlow (And.intro hst hto)))
            have H5 := Lib.hid (show (w'.setCell ⟨g8, 0, none⟩ (.slice (some ⟨g9, 0, none⟩) k9 c9)).heap[g5]? = some (.cells #[.int .i64 most] 3 (0, 0)) from by
              rw [hto.block g5 (lt_of_block h5) (fun e => by
                rcases e with e | e | e | e
                · omega
                · omega
                · omega
                · have := (hp.row.own g5 e).1; omega)]
              exact h5)
            have HM2 : Hid (rns (pre ++ [(⟨(a, zz), hx⟩ : RunIn m)]) = [] ∨ ((Sp.cut n.toNat (rns (pre ++ [(⟨(a, zz), hx⟩ : RunIn m)]))).length : Int) ≤ most) := Lib.hid (.inr (by
              rw [rns_snoc, cut_snoc _ _ _ (by rw [← hr]; exact hr0), List.length_append, ← hE, ← hL]
              simp only [List.length_singleton]
              omega))
            have HST := Lib.hid (show PSt W0.heap.size g4 g8 n.toNat (w'.setCell ⟨g8, 0, none⟩ (.slice (some ⟨g9, 0, none⟩) k9 c9)) (rns (pre ++ [(⟨(a, zz), hx⟩ : RunIn m)])) (.slice (some ⟨g9, 0, none⟩) k9 c9) from by rw [rns_snoc]; exact hst)
            have HBW := Lib.hid hB
            have HN0 := Lib.hid hn0W
            have n1 : ¬ gx = g4 := by omega
            have n2 : ¬ g4 = gx := by omega
            have n3 : ¬ gx = g8 := by omega
            have n4 : ¬ g8 = gx := by omega
            have n5 : ¬ g4 = g8 := by omega
            have n6 : ¬ g8 = g4 := by omega
            clear hbox hrow hleft hbx hp hr hE hL hul hu1 hcl hcl2 hst hko hto hlow hgs hss hB h5 hM hn0W hxo
            gi_wp2_with (gi_at_builtin; refine wpListIn_append_es rfl (.tmp 32) (.tmp 34) rfl rfl rfl rfl hrun ?_)
            exact ⟨HEND.out.1, HEND.out.2.1, ⟨_, HST.out⟩, H5.out, HM2.out, HBW.out.trans HEND.out.2.1, Nat.le_trans HN0.out HEND.out.1.size⟩
    case done =>
      rintro D ys W hD hS ⟨⟨u, hp⟩, h5, hM, hB, hn0W⟩ hK
      rw [hS] at hp hM
      have HAF : Hid (Aft w g4 g8 n most m W) := Lib.hid ⟨_, _, u, Nat.sub_le _ _, hp.box, hp.row.low HB0.out.size, hp.left, (pieces_all hz1 hM).1, (pieces_all hz1 hM).2, hB⟩
      clear hp h5 hM hB hS hn0W
      obtain ⟨E, r, u, hr9, hb8, hR, hb4, hpos, hzero, hB⟩ := HAF.out
      have HBW := Lib.hid hB
      obtain ⟨ua, uc, hu, hu1, hu2⟩ := own_shape hR.row
      subst hu
      obtain ⟨ul, hul⟩ : ∃ ul, ul = (E.map Sp.ie).length := ⟨_, rfl⟩
      rw [← hul] at hb8 hR hu1
      have HUL := Lib.hid hul
      clear hul
      have c4 := (blk_cell hb4 0 _ rfl).1
      have c8 := hb8.cell
      simp only [List.getElem_toArray, List.getElem_cons_zero] at c4
      by_cases hr0 : r = 0
      · subst hr0
        have HPC := Lib.hid (hzero rfl)
        have HU := Lib.hid (And.intro (show W.heap[g8]? = some (.cells #[.slice ua ul uc] 31 (0, 0)) from hb8) hR)
        have HPP := Lib.hid (HPW.out.later hB)
        have HIN := Lib.hid (cut_in (m := m) (N := n.toNat))
        have HFR : Hid (∀ i, Sp.Cov E i → ∃ y, m[i]? = some (0, y)) := Lib.hid (by rw [HPC.out.1]; exact HIN.out.2)
        have HRT : Hid (∀ e ∈ E.map Sp.ie, Sp.RightE m.length e) := Lib.hid (by rw [HPC.out.1]; exact HIN.out.1)
        clear hb8 hR hB hpos hzero
        gi_wp2
        refine wpIn_wide.2 ?_
        obtain ⟨N0, hN0⟩ : ∃ N0, N0 = W.heap.size := ⟨_, rfl⟩
        have HN := Lib.hid hN0
        clear hN0 c4 c8
        refine Rel.region_tail 4 (by kernel_rfl) [some 38, some 39, some 40, some 41, some 42] (by kernel_rfl) (by kernel_rfl) (by kernel_rfl) [.eq (.pointer (some ⟨q, 0, none⟩)), .eq (.agg #[.bool true, .bool true, .bool false]), ⟨fun v w => ∃ s, v = .func (.func 44) #[] #[.pointer (some ⟨s, 0, none⟩)] ∧ w.heap[s]? = some (.cells #[.bool true, .bool true, .bool false] 62 (0, 0)) ∧ N0 ≤ s, fun _ _ _ h hb => by obtain ⟨s, h1, h2, h3⟩ := h; exact ⟨s, h1, (hb.block s (lt_of_block h2)).trans h2, h3⟩⟩, .eq (.slice ua ul uc)] ⟨?_, ?_, ?_, ?_, trivial⟩ ?_
        · intro u w9 hb9 hd9
          clear hd9
          refine ⟨?_⟩
          simp only [Rel.canD, List.take_zero]
          go_wp2_with fail
          exact ⟨rfl, rfl, Below.refl _ _, rfl⟩
        · intro u w9 hb9 hd9
          clear hd9
          refine ⟨?_⟩
          simp only [Rel.canD, List.take_succ_cons, List.take_zero, Nat.reduceAdd]
          go_wp2_with fail
          exact ⟨rfl, rfl, Below.refl _ _, rfl⟩
        · intro u w9 hb9 hd9
          have e1 : u 1 = .agg #[.bool true, .bool true, .bool false] := hd9 1 (by kernel_rfl)
          clear hd9
          refine ⟨?_⟩
          simp only [Rel.canD, List.take_succ_cons, List.take_zero, Nat.reduceAdd]
          go_wp2_with fail
          refine (into_w true true false w9).mono ?_
          rintro e w8 ⟨rfl, hg8, hb8⟩
          go_wp2_with fail
          exact ⟨rfl, rfl, hb8, _, rfl, hg8, by have := hb9.size; have := HN.out; omega⟩
        · intro u w9 hb9 hd9
          clear hd9
          have q9 := (hb9.block g8 (lt_of_block HU.out.1)).trans HU.out.1
          have c9 := (blk_cell q9 0 _ rfl).1
          clear q9
          refine ⟨?_⟩
          simp only [Rel.canD, List.take_succ_cons, List.take_zero, Nat.reduceAdd]
          go_wp2_with fail
          exact ⟨rfl, rfl, Below.refl _ _, rfl⟩
        intro u w9 hb9 hR9
        simp only [Rel.canD, Nat.reduceAdd, List.take_succ_cons, List.take_zero, List.drop_succ_cons, List.drop_zero]
        obtain ⟨s2, h2, hg2, hn2⟩ := hR9 2 (by decide)
        have h0 : u 0 = .pointer (some ⟨q, 0, none⟩) := hR9 0 (by decide)
        have h3 : u 3 = .slice ua ul uc := hR9 3 (by decide)
        rw [h0, h2, h3]
        clear hR9 h0 h2 h3
        have hP9 := HPP.out.later hb9
        have cT := turnI_w w9 q b m (.slice ua ul uc) (E.map Sp.ie) hP9 ((HU.out.2.later hb9).outF (fun k hk => HPW.out.lt k hk)) HRT.out s2 (2, false) true true false rfl (by decide) hg2 (fun hf => by have := HPP.out.lt _ hf; have := HN.out; omega)
        have HB9 := Lib.hid hb9
        have HU9 := Lib.hid (HU.out.2.later hb9)
        have HG8 := Lib.hid ((hb9.block g8 (lt_of_block HU.out.1)).trans HU.out.1)
        clear hb9 hP9 hg2 hn2
        go_simp
        go_wp2_with fail
        refine cT.mono ?_
        rintro e w8 ⟨rfl, hP8, hT8⟩
        clear cT
        have HP8 := Lib.hid hP8
        have HT8 := Lib.hid hT8
        have HU8 := Lib.hid (HU9.out.outF (fun k hk => HPW.out.lt k hk))
        have q8 := (hT8.block g8 (lt_of_block HG8.out) (fun hf => by have := HPW.out.lt _ hf; have := HE.out; omega)).trans HG8.out
        have c8 := (blk_cell q8 0 _ rfl).1
        have hK8 := (keeps_touch hT8 (fun k o hk ho => (HPP.out.later HB9.out).cells_at hk ho)).same D _ ((keeps_below HB9.out).same D _ hK rfl) rfl
        clear hP8 hT8 q8
        go_wp2_with fail
        gi_wp2
        refine ⟨by simp, .inl ⟨_, _, rfl, run_takeDeferred hK8, ?_⟩⟩
        have hg := grownBy_putObj' w8 D (.deferred none)
        have hP9 := HP8.out.grown hg (fun r e => by cases e; exact ⟨_, hK8, rfl⟩)
        have hTT := ((Touch.of HBW.out).trans (Touch.of HB9.out)).trans HT8.out
        have hT9 := hTT.more_ hg (fun r e => by cases e; have := HB0.out.size; omega)
        refine ⟨_, results_tmp2 rfl _ _ _, ?_⟩
        rw [er_map] at hP9
        rw [(HPC.out).2, ← puts_anew2 HPW.out HFR.out]
        refine ⟨_, rfl, hP9, hT9, ?_, fun k hk => (HU9.out.own k hk).1⟩
        have hE8 := (HU8.out.touch HT8.out (fun _ h => .inl h))
        exact hE8.grown9 hg (fun r e => by cases e; exact ⟨_, hK8, rfl⟩)
      · have hri : (0 : Int) < r := by omega
        have hr1 : 0 < r := by omega
        have HPC := Lib.hid (hpos hr1)
        clear hb8 hR hB hpos hzero
        gi_wp2
        refine ⟨by simp, .inl ⟨_, _, rfl, run_takeDeferred hK, ?_⟩⟩
        have hl2 := HBW.out.trans (belowK_b (w := w) (Nat.le_refl _) W D _ (.deferred none) (by have := HB0.out.size; omega) hK rfl rfl)
        refine ⟨_, results_tmp2 rfl _ _ _, ?_⟩
        rw [HPC.out]
        exact ⟨_, rfl, HPW.out.later hl2, Touch.of hl2, EsOut.nil _ _, fun _ h => (by cases h)⟩
    case stop =>
      rintro D c pre W hD hS ⟨rfl, p0, x, rfl, ⟨u, hp⟩, hM, hc, hB⟩ hK
      rw [rns_snoc] at hS
      have HAF : Hid (Aft w g4 g8 n most m W) := Lib.hid ⟨_, _, u, Nat.sub_le _ _, hp.box, hp.row.low HB0.out.size, hp.left, (pieces_part hz1 hS hM hc).1, (pieces_part hz1 hS hM hc).2, hB⟩
      clear hp hM hB hS hc
      obtain ⟨E, r, u, hr9, hb8, hR, hb4, hpos, hzero, hB⟩ := HAF.out
      have HBW := Lib.hid hB
      obtain ⟨ua, uc, hu, hu1, hu2⟩ := own_shape hR.row
      subst hu
      obtain ⟨ul, hul⟩ : ∃ ul, ul = (E.map Sp.ie).length := ⟨_, rfl⟩
      rw [← hul] at hb8 hR hu1
      have HUL := Lib.hid hul
      clear hul
      have c4 := (blk_cell hb4 0 _ rfl).1
      have c8 := hb8.cell
      simp only [List.getElem_toArray, List.getElem_cons_zero] at c4
      by_cases hr0 : r = 0
      · subst hr0
        have HPC := Lib.hid (hzero rfl)
        have HU := Lib.hid (And.intro (show W.heap[g8]? = some (.cells #[.slice ua ul uc] 31 (0, 0)) from hb8) hR)
        have HPP := Lib.hid (HPW.out.later hB)
        have HIN := Lib.hid (cut_in (m := m) (N := n.toNat))
        have HFR : Hid (∀ i, Sp.Cov E i → ∃ y, m[i]? = some (0, y)) := Lib.hid (by rw [HPC.out.1]; exact HIN.out.2)
        have HRT : Hid (∀ e ∈ E.map Sp.ie, Sp.RightE m.length e) := Lib.hid (by rw [HPC.out.1]; exact HIN.out.1)
        clear hb8 hR hB hpos hzero
        gi_wp2
        refine wpIn_wide.2 ?_
        obtain ⟨N0, hN0⟩ : ∃ N0, N0 = W.heap.size := ⟨_, rfl⟩
        have HN := Lib.hid hN0
        clear hN0 c4 c8
        refine Rel.region_tail 4 (by kernel_rfl) [some 38, some 39, some 40, some 41, some 42] (by kernel_rfl) (by kernel_rfl) (by kernel_rfl) [.eq (.pointer (some ⟨q, 0, none⟩)), .eq (.agg #[.bool true, .bool true, .bool false]), ⟨fun v w => ∃ s, v = .func (.func 44) #[] #[.pointer (some ⟨s, 0, none⟩)] ∧ w.heap[s]? = some (.cells #[.bool true, .bool true, .bool false] 62 (0, 0)) ∧ N0 ≤ s, fun _ _ _ h hb => by obtain ⟨s, h1, h2, h3⟩ := h; exact ⟨s, h1, (hb.block s (lt_of_block h2)).trans h2, h3⟩⟩, .eq (.slice ua ul uc)] ⟨?_, ?_, ?_, ?_, trivial⟩ ?_
        · intro u w9 hb9 hd9
          clear hd9
          refine ⟨?_⟩
          simp only [Rel.canD, List.take_zero]
          go_wp2_with fail
          exact ⟨rfl, rfl, Below.refl _ _, rfl⟩
        · intro u w9 hb9 hd9
          clear hd9
          refine ⟨?_⟩
          simp only [Rel.canD, List.take_succ_cons, List.take_zero, Nat.reduceAdd]
          go_wp2_with fail
          exact ⟨rfl, rfl, Below.refl _ _, rfl⟩
        · intro u w9 hb9 hd9
          have e1 : u 1 = .agg #[.bool true, .bool true, .bool false] := hd9 1 (by kernel_rfl)
          clear hd9
          refine ⟨?_⟩
          simp only [Rel.canD, List.take_succ_cons, List.take_zero, Nat.reduceAdd]
          go_wp2_with fail
          refine (into_w true true false w9).mono ?_
          rintro e w8 ⟨rfl, hg8, hb8⟩
          go_wp2_with fail
          exact ⟨rfl, rfl, hb8, _, rfl, hg8, by have := hb9.size; have := HN.out; omega⟩
        · intro u w9 hb9 hd9
          clear hd9
          have q9 := (hb9.block g8 (lt_of_block HU.out.1)).trans HU.out.1
          have c9 := (blk_cell q9 0 _ rfl).1
          clear q9
          refine ⟨?_⟩
          simp only [Rel.canD, List.take_succ_cons, List.take_zero, Nat.reduceAdd]
          go_wp2_with fail
          exact ⟨rfl, rfl, Below.refl _ _, rfl⟩
        intro u w9 hb9 hR9
        simp only [Rel.canD, Nat.reduceAdd, List.take_succ_cons, List.take_zero, List.drop_succ_cons, List.drop_zero]
        obtain ⟨s2, h2, hg2, hn2⟩ := hR9 2 (by decide)
        have h0 : u 0 = .pointer (some ⟨q, 0, none⟩) := hR9 0 (by decide)
        have h3 : u 3 = .slice ua ul uc := hR9 3 (by decide)
        rw [h0, h2, h3]
        clear hR9 h0 h2 h3
        have hP9 := HPP.out.later hb9
        have cT := turnI_w w9 q b m (.slice ua ul uc) (E.map Sp.ie) hP9 ((HU.out.2.later hb9).outF (fun k hk => HPW.out.lt k hk)) HRT.out s2 (2, false) true true false rfl (by decide) hg2 (fun hf => by have := HPP.out.lt _ hf; have := HN.out; omega)
        have HB9 := Lib.hid hb9
        have HU9 := Lib.hid (HU.out.2.later hb9)
        have HG8 := Lib.hid ((hb9.block g8 (lt_of_block HU.out.1)).trans HU.out.1)
        clear hb9 hP9 hg2 hn2
        go_simp
        go_wp2_with fail
        refine cT.mono ?_
        rintro e w8 ⟨rfl, hP8, hT8⟩
        clear cT
        have HP8 := Lib.hid hP8
        have HT8 := Lib.hid hT8
        have HU8 := Lib.hid (HU9.out.outF (fun k hk => HPW.out.lt k hk))
        have q8 := (hT8.block g8 (lt_of_block HG8.out) (fun hf => by have := HPW.out.lt _ hf; have := HE.out; omega)).trans HG8.out
        have c8 := (blk_cell q8 0 _ rfl).1
        have hK8 := (keeps_touch hT8 (fun k o hk ho => (HPP.out.later HB9.out).cells_at hk ho)).same D _ ((keeps_below HB9.out).same D _ hK rfl) rfl
        clear hP8 hT8 q8
        go_wp2_with fail
        gi_wp2
        refine ⟨by simp, .inl ⟨_, _, rfl, run_takeDeferred hK8, ?_⟩⟩
        have hg := grownBy_putObj' w8 D (.deferred none)
        have hP9 := HP8.out.grown hg (fun r e => by cases e; exact ⟨_, hK8, rfl⟩)
        have hTT := ((Touch.of HBW.out).trans (Touch.of HB9.out)).trans HT8.out
        have hT9 := hTT.more_ hg (fun r e => by cases e; have := HB0.out.size; omega)
        refine ⟨_, results_tmp2 rfl _ _ _, ?_⟩
        rw [er_map] at hP9
        rw [(HPC.out).2, ← puts_anew2 HPW.out HFR.out]
        refine ⟨_, rfl, hP9, hT9, ?_, fun k hk => (HU9.out.own k hk).1⟩
        have hE8 := (HU8.out.touch HT8.out (fun _ h => .inl h))
        exact hE8.grown9 hg (fun r e => by cases e; exact ⟨_, hK8, rfl⟩)
      · have hri : (0 : Int) < r := by omega
        have hr1 : 0 < r := by omega
        have HPC := Lib.hid (hpos hr1)
        clear hb8 hR hB hpos hzero
        gi_wp2
        refine ⟨by simp, .inl ⟨_, _, rfl, run_takeDeferred hK, ?_⟩⟩
        have hl2 := HBW.out.trans (belowK_b (w := w) (Nat.le_refl _) W D _ (.deferred none) (by have := HB0.out.size; omega) hK rfl rfl)
        refine ⟨_, results_tmp2 rfl _ _ _, ?_⟩
        rw [HPC.out]
        exact ⟨_, rfl, HPW.out.later hl2, Touch.of hl2, EsOut.nil _ _, fun _ h => (by cases h)⟩
  · have hzi : n < 1 := by omega
    have HZ := Lib.hid hz1
    have HB : Hid (Below w.heap.size w ((w.alloc (.cells #[.int .i64 n] 3)).alloc (.cells #[.int .i64 most] 3))) := Lib.hid (((Below.refl _ w).alloc (Nat.le_refl _) _).alloc (by simp) _)
    clear hz1
    gi_wp2
    refine ⟨_, results_tmp2 rfl _ _ _, ?_⟩
    rw [pieces_low (by have := HZ.out; omega)]
    exact ⟨_, rfl, HPW.out.later HB.out, Touch.of HB.out, EsOut.nil _ _, fun _ h => (by cases h)⟩
end Go.Proofs.Ytgfgafondiipoaa
