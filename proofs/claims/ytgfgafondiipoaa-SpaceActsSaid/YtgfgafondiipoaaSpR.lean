/- Rows of extents: a list of the call's own, appended to. -/
import Derived.Test.YtgfgafondiipoaaSpP
import Derived.Laws.AppendOwnNone
import Derived.Deep.OwnRows
namespace Go.Proofs.Ytgfgafondiipoaa
open Go.RowKit

/-- An append's row lies where it lay, or in new memory. -/
theorem run_append_whose {P : Program} (w : World) (t ty e : TypeId) (i : TypeInfo) (z : Value) (size bytes : Nat) (ht : P.underlying t = some (.slice e)) (hi : P.info? e = some i) (hz : i.zero = some z)
    (hsize : i.size = size) (hby : i.bytes = bytes) (hzs : z.cells.size = size) (hsz : 0 < size)
    (v : Value) (n : Nat) (xs : List Value) (hown : w.ownsRow 0 e size v n xs)
    (a : Addr) (m c : Nat) (news : List Value) (hl : news.length = m * size) (hnews : ∀ j u, news[j]? = some u → w.cell? (a.add j) = some u) (h1 : ∀ u ∈ news, u.oneCell' = true)
    (h63 : n + m ≤ maxLen) (hbytes : (n + m) * bytes ≤ 140737488355328) :
    ∃ v' w', (Builtin.append_ #[t, t] ty #[v, .slice (some a) m c]).run P w = .ok v' w' ∧ w'.ownsRow 0 e size v' (n + m) (xs ++ news) ∧ w.grownBy w' v.ownBlock ∧ ∀ k, v'.ownBlock = some k → v.ownBlock = some k ∨ w.heap.size ≤ k := by
  obtain ⟨v', w', hr, h2, h3, _⟩ := run_append_own (P := P) w 0 t ty e i z size bytes ht hi hz hsize hby hzs hsz v n xs hown a m c news hl hnews h1 h63 hbytes (Nat.zero_le _)
  refine ⟨v', w', hr, h2, h3, fun k hk => ?_⟩
  rcases hown.2 with ⟨rfl, rfl⟩ | ⟨g, cap, cur, rfl, hbg, hg, hnc, hcm, hcs, htake⟩
  · obtain ⟨v2, w2, hr2, h4, _⟩ := run_append_own (P := P) w w.heap.size t ty e i z size bytes ht hi hz hsize hby hzs hsz _ 0 [] (World.ownsRow_nil w _ e size) a m c news hl hnews h1 h63 hbytes (Nat.le_refl _)
    rw [hr] at hr2
    injection hr2 with e1 e2
    subst e1 e2
    exact .inr (h4.lt k hk).1
  · subst hsize hby
    by_cases hroom : n + m ≤ cap
    · have hfit : n * i.size + news.length ≤ cur.size := by rw [hl, hcs, ← Nat.add_mul]; exact Nat.mul_le_mul_right _ hroom
      have hr2 := run_append_room (P := P) w t ty e i ht hi g n cap cur hg a m c news hl hnews h1 hroom hfit
      rw [hr] at hr2
      injection hr2 with e1 e2
      subst e1
      exact .inl hk
    · have holds : ∀ j u, xs[j]? = some u → w.cell? ((⟨g, 0, none⟩ : Addr).add j) = some u := hown.cells (g := g) rfl
      have hr2 := run_append_grow (P := P) w t ty e i z ht hi hz ⟨g, 0, none⟩ n cap xs hown.1 holds a m c news hl hnews (by omega) (by unfold maxLen at h63; omega) (growslice_fits (by omega) hbytes)
      rw [hr] at hr2
      injection hr2 with e1 e2
      subst e1
      cases hk
      exact .inr (Nat.le_refl _)
theorem wp_append_whose {P : Program} (w : World) {o : Oper} {a : Act} {K : Act → World → Prop} {Q : Exit → Act → World → Prop} (s x : Operand) (t : TypeId)
    (ho : o.op = .call { callee := .builtin .append, args := #[s, x], argTypes := #[t, t] })
    (e : TypeId) (i : TypeInfo) (z : Value) (size bytes : Nat) (ht : P.underlying t = some (.slice e)) (hi : P.info? e = some i) (hz : i.zero = some z)
    (hsize : i.size = size) (hby : i.bytes = bytes) (hzs : z.cells.size = size) (hsz : 0 < size)
    (v : Value) (n : Nat) (xs : List Value) (hs : a.eval s = v) (hown : w.ownsRow 0 e size v n xs)
    (ad : Addr) (m c : Nat) (news : List Value) (hx : a.eval x = .slice (some ad) m c) (hl : news.length = m * size) (hnews : ∀ j u, news[j]? = some u → w.cell? (ad.add j) = some u) (h1 : ∀ u ∈ news, u.oneCell' = true)
    (h63 : n + m ≤ maxLen) (hbytes : (n + m) * bytes ≤ 140737488355328)
    (h : ∀ v' w', w'.ownsRow 0 e size v' (n + m) (xs ++ news) → w.grownBy w' v.ownBlock → (∀ k, v'.ownBlock = some k → v.ownBlock = some k ∨ w.heap.size ≤ k) → K (a.put o.dst v') w') : o.wp P a w K Q := by
  obtain ⟨v', w', hr, h2, h3, h4⟩ := run_append_whose (P := P) w t o.type e i z size bytes ht hi hz hsize hby hzs hsz v n xs hown ad m c news hl hnews h1 h63 hbytes
  unfold Oper.wp execOp
  simp only [ho, resolve, invoke, builtin, Sem.run_bind, Sem.run_pure, Result.andThen_ok, List.map_toArray, List.map_cons, List.map_nil, hs, hx, hr]
  exact h v' w' h2 h3 h4

theorem exts_info : (Try.prog.info? 35).map (fun i => (i.zero, i.size, i.bytes)) = some (some (.agg #[.int .i64 0, .int .i64 0]), 2, 16) := by kernel_rfl
def ecs (es : List Sp.Ext) : List Value := es.flatMap ecells
theorem ecs_length : ∀ es : List Sp.Ext, (ecs es).length = es.length * 2
  | [] => rfl
  | e :: t => by show (ecells e ++ ecs t).length = _; rw [List.length_append, ecs_length t, List.length_cons]; simp [ecells]; omega
theorem ecs_at : ∀ (es : List Sp.Ext) (k : Nat) (h : k < es.length), (ecs es)[k * 2]? = some (.int .i64 es[k].1) ∧ (ecs es)[k * 2 + 1]? = some (.int .i64 es[k].2)
  | e :: t, 0, _ => ⟨rfl, rfl⟩
  | e :: t, k + 1, h => by
    have := ecs_at t k (by simpa using h)
    rw [show (k + 1) * 2 = k * 2 + 2 from by omega]
    exact this
theorem ecs_append (a b : List Sp.Ext) : ecs (a ++ b) = ecs a ++ ecs b := List.flatMap_append
theorem ecs_one (es : List Sp.Ext) : ∀ u ∈ ecs es, u.oneCell' = true := fun u hu => by
  obtain ⟨e, _, h⟩ := List.mem_flatMap.1 hu
  simp [ecells] at h
  rcases h with rfl | rfl <;> rfl
/-- v is a row of the call's own, in no block of F's. -/
structure ERow (B : Nat) (F : Nat → Prop) (w : World) (v : Value) (es : List Sp.Ext) : Prop where
  row : w.ownsRow 0 35 2 v es.length (ecs es)
  own : ∀ k, v.ownBlock = some k → B ≤ k ∧ ¬ F k
theorem ERow.empty (B : Nat) (F : Nat → Prop) (w : World) : ERow B F w (.slice none 0 0) [] := ⟨World.ownsRow_nil _ _ _ _, fun _ h => nomatch h⟩
theorem ERow.lt {B : Nat} {F : Nat → Prop} {w : World} {v : Value} {es : List Sp.Ext} (h : ERow B F w v es) : ∀ k, v.ownBlock = some k → k < w.heap.size := fun k hk => (World.ownsRow.lt h.row k hk).2
theorem ERow.touch {B : Nat} {F F' : Nat → Prop} {w w' : World} {v : Value} {es : List Sp.Ext} (h : ERow B F w v es) (ht : Touch F w w') (hm : More F F' w) : ERow B F' w' v es :=
  ⟨ownsRow_keep h.row (fun k hk => ht.block k (h.lt k hk) (h.own k hk).2), fun k hk => ⟨(h.own k hk).1, fun hf => (hm k hf).elim (h.own k hk).2 (fun h2 => absurd (h.lt k hk) (Nat.not_lt.2 h2))⟩⟩
theorem ERow.later {B : Nat} {F : Nat → Prop} {w w' : World} {v : Value} {es : List Sp.Ext} (h : ERow B F w v es) (hb : Below w.heap.size w w') : ERow B F w' v es := h.touch (Touch.of hb) (fun _ hk => .inl hk)
theorem ERow.cell {B : Nat} {F : Nat → Prop} {w : World} {ad : Addr} {n c : Nat} {es : List Sp.Ext} (h : ERow B F w (.slice (some ad) n c) es) (k : Nat) (hk : k < es.length) :
    ∃ g, ad = ⟨g, 0, none⟩ ∧ w.cell? ⟨g, k * 2, none⟩ = some (.int .i64 es[k].1) ∧ w.cell? ⟨g, k * 2 + 1, none⟩ = some (.int .i64 es[k].2) := by
  rcases h.row.2 with ⟨h0, _⟩ | ⟨g, cap, cur, hv, _, hh, h1, h2, h3, h4⟩
  · cases h0
  · cases hv
    refine ⟨g, rfl, ?_⟩
    have hl := ecs_length es
    have e := ecs_at es k hk
    have g1 : ∀ j, j < es.length * 2 → cur[j]? = (ecs es)[j]? := fun j hj => by
      rw [← h4, List.getElem?_take_of_lt hj]; simp
    simp only [World.cell?, hh]
    rw [g1 _ (by omega), g1 _ (by omega)]
    exact e
/-- Its shape, and that it reads as the extents. -/
theorem ERow.out {B : Nat} {F : Nat → Prop} {w : World} {v : Value} {es : List Sp.Ext} (h : ERow B F w v es) : EsOut F w v es := by
  obtain ⟨a, c, rfl, h1, h2⟩ := own_shape h.row
  refine ⟨a, c, rfl, h1, h2, ?_⟩
  by_cases h0 : es = []
  · exact .inl h0
  · have hp : 0 < es.length := List.length_pos_iff.2 h0
    cases a with
    | none =>
      rcases h.row.2 with ⟨hv, hn⟩ | ⟨g, cap, cur, hv, _⟩
      · omega
      · cases hv
    | some ad =>
      obtain ⟨g, rfl, _⟩ := h.cell 0 hp
      refine .inr ⟨g, 0, rfl, h.lt g rfl, (h.own g rfl).2, fun k hk => ?_⟩
      obtain ⟨g2, hg, hc⟩ := h.cell k hk
      cases hg
      rw [Nat.zero_add]; exact hc
/-- 'append(all, l...)'. -/
theorem appEs {ops : Array Oper} {rest : List Oper} {o : Oper} {a : Act} {Q : Exit → Act → World → Prop} {w : World} {B : Nat} {F G : Nat → Prop} {v : Value} {ad : Addr} {c nu : Nat} {es ms : List Sp.Ext} (h : ERow B F w v es) (hu : EsOut G w (.slice (some ad) nu c) ms) (hnu : nu = ms.length) (hlen : es.length + ms.length ≤ 1000000) (hB : B ≤ w.heap.size) (hF : ∀ k, F k → k < w.heap.size)
    (hgd : o.guard = none) (s x : Operand) (ho : o.op = .call { callee := .builtin .append, args := #[s, x], argTypes := #[31, 31] })
    (hs : a.eval s = v) (hx : a.eval x = .slice (some ad) nu c)
    (hK : ∀ v' w', ERow B F w' v' (es ++ ms) → Touch (fun k => v.ownBlock = some k) w w' → wpList Try.prog ops Q rest (a.put o.dst v') w') : wpList Try.prog ops Q (o :: rest) a w := by
  subst hnu
  obtain ⟨i0, hi, hz0, hz1, hz2⟩ := info_parts exts_info
  have hcells : ∀ j u, (ecs ms)[j]? = some u → w.cell? (ad.add j) = some u := fun j u hj => by
    have hjl : j < ms.length * 2 := by
      have := (List.getElem?_eq_some_iff.1 hj).1
      rw [ecs_length] at this; exact this
    obtain ⟨ao, cap, hv, _, _, hg⟩ := hu
    cases hv
    rcases hg with h0 | ⟨b, o1, h0, hb, _, hc⟩
    · subst h0; simp at hjl
    · cases h0
      have hk : j / 2 < ms.length := by omega
      obtain ⟨c1, c2⟩ := hc _ hk
      obtain ⟨e1, e2⟩ := ecs_at ms _ hk
      rw [Addr.add_lit]
      rcases (by omega : j = j / 2 * 2 ∨ j = j / 2 * 2 + 1) with hj2 | hj2
      · rw [hj2] at hj ⊢
        rw [e1] at hj
        cases hj
        exact c1
      · rw [hj2] at hj ⊢
        rw [e2] at hj
        cases hj
        exact c2
  refine wpList_plain hgd fun _ hK2 => wp_append_whose w s x 31 ho 35 i0 _ 2 16 Try.underlying31 hi hz0 hz1 hz2 rfl (by decide) v es.length (ecs es) hs h.row ad ms.length c (ecs ms) hx (ecs_length ms) hcells (ecs_one ms) (by unfold maxLen; omega) (by omega) fun v' w' h2 h3 h4 => hK2 _ _ (hK v' w' ⟨?_, fun k hk => ?_⟩ (Touch.grown h3 (fun k hk => hk)))
  · rw [ecs_append, List.length_append]; exact h2
  · rcases h4 k hk with h5 | h5
    · exact h.own k h5
    · exact ⟨Nat.le_trans hB h5, fun hf => absurd (hF k hf) (Nat.not_lt.2 h5)⟩
end Go.Proofs.Ytgfgafondiipoaa
