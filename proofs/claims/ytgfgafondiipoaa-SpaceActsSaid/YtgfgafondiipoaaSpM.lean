/- Both maps in one memory; acts as they come in. -/
import Derived.Test.YtgfgafondiipoaaSpR
import Derived.Test.YtgfgafondiipoaaSpDA
import Derived.Test.YtgfgafondiipoaaHeld
import Derived.Deep.CutBlock
namespace Go.Proofs.Ytgfgafondiipoaa
open Go.RowKit

structure Both (MD : World → Nat → Sp.M → (Nat → Prop) → Prop) (W w : World) (q q2 bs bw : Nat) (m n : Sp.M) (F : Nat → Prop) : Prop where
  pd : MD w q m F
  rd : RD w q2 bs bw n
  apart : ∀ k, F k → ¬ RF q2 bs bw k
  high : ∀ k, F k → W.heap.size ≤ k
  rhigh : ∀ k, RF q2 bs bw k → W.heap.size ≤ k
  below : Below W.heap.size W w
section
variable {Env : World → Prop} {MD : World → Nat → Sp.M → (Nat → Prop) → Prop} {W w w' : World} {q q2 bs bw t : Nat} {o : Obj} {m n m' n' : Sp.M} {F F' : Nat → Prop}
theorem Both.later (P : Prog16 Env MD) (h : Both MD W w q q2 bs bw m n F) (hb : Below w.heap.size w w') : Both MD W w' q q2 bs bw m n F :=
  ⟨P.keep h.pd hb.size (fun k hk => hb.block k (P.lt h.pd k hk)), h.rd.later hb, h.apart, h.high, h.rhigh, bt5 h.below hb⟩
theorem Both.left (h : Both MD W w q q2 bs bw m n F) (hd : MD w' q m' F') (ht : Touch F w w') (hm : More F F' w) : Both MD W w' q q2 bs bw m' n F' :=
  ⟨hd, h.rd.keep (fun k hk => ht.block k (h.rd.lt k hk) (fun hf => h.apart k hf hk)), fun k hk hr => by
    rcases hm k hk with h9 | h9
    · exact h.apart k h9 hr
    · have := h.rd.lt k hr; omega, hm.up h.high h.below.size, h.rhigh, ht.below h.high h.below h.below.size⟩
theorem Both.right (P : Prog16 Env MD) (h : Both MD W w q q2 bs bw m n F) (hd : RD w' q2 bs bw n') (ht : Touch (RF q2 bs bw) w w') : Both MD W w' q q2 bs bw m n' F :=
  ⟨P.keep h.pd ht.size (fun k hk => ht.block k (P.lt h.pd k hk) (h.apart k hk)), hd, h.apart, h.high, h.rhigh, ht.below h.rhigh h.below h.below.size⟩
/-- .. and a block beside them. -/
structure Duo (MD : World → Nat → Sp.M → (Nat → Prop) → Prop) (W w : World) (q q2 bs bw t : Nat) (o : Obj) (m n : Sp.M) (F : Nat → Prop) : Prop where
  both : Both MD W w q q2 bs bw m n F
  blk : w.heap[t]? = some o
  nF : ¬ F t
  nR : ¬ RF q2 bs bw t
theorem heap_lt {w : World} {t : Nat} {o : Obj} (h : w.heap[t]? = some o) : t < w.heap.size := by
  by_cases h9 : t < w.heap.size
  · exact h9
  · rw [Array.getElem?_eq_none (by omega)] at h; cases h
theorem Duo.later (P : Prog16 Env MD) (h : Duo MD W w q q2 bs bw t o m n F) (hb : Below w.heap.size w w') : Duo MD W w' q q2 bs bw t o m n F :=
  ⟨h.both.later P hb, by rw [hb.block t (heap_lt h.blk)]; exact h.blk, h.nF, h.nR⟩
theorem Duo.left (h : Duo MD W w q q2 bs bw t o m n F) (hd : MD w' q m' F') (ht : Touch F w w') (hm : More F F' w) : Duo MD W w' q q2 bs bw t o m' n F' :=
  ⟨h.both.left hd ht hm, by rw [ht.block t (heap_lt h.blk) h.nF]; exact h.blk, fun hf => by
    rcases hm t hf with h9 | h9
    · exact h.nF h9
    · have := heap_lt h.blk; omega, h.nR⟩
theorem Duo.right (P : Prog16 Env MD) (h : Duo MD W w q q2 bs bw t o m n F) (hd : RD w' q2 bs bw n') (ht : Touch (RF q2 bs bw) w w') : Duo MD W w' q q2 bs bw t o m n' F :=
  ⟨h.both.right P hd ht, by rw [ht.block t (heap_lt h.blk) h.nR]; exact h.blk, h.nF, h.nR⟩
/-- Whose blocks they are, all together. -/
def Own3 (F : Nat → Prop) (q2 bs bw t : Nat) (k : Nat) : Prop := F k ∨ RF q2 bs bw k ∨ k = t
theorem Duo.row (P : Prog16 Env MD) {g : Nat} (h : Duo MD W w q q2 bs bw t o m n F) (ht : Touch (fun k => k = g) w w') (hg : ¬ Own3 F q2 bs bw t g) (hW : W.heap.size ≤ g) : Duo MD W w' q q2 bs bw t o m n F := by
  have h1 : ¬ F g := fun h9 => hg (.inl h9)
  have h2 : ¬ RF q2 bs bw g := fun h9 => hg (.inr (.inl h9))
  have h3 : t ≠ g := fun h9 => hg (.inr (.inr h9.symm))
  exact ⟨⟨P.keep h.both.pd ht.size (fun k hk => ht.block k (P.lt h.both.pd k hk) (fun e => h1 (by rw [← e]; exact hk))), h.both.rd.keep (fun k hk => ht.block k (h.both.rd.lt k hk) (fun e => h2 (by rw [← e]; exact hk))), h.both.apart, h.both.high, h.both.rhigh, ht.below (fun k e => by rw [e]; exact hW) h.both.below h.both.below.size⟩, by rw [ht.block t (heap_lt h.blk) h3]; exact h.blk, h.nF, h.nR⟩
theorem Duo.lt3 (P : Prog16 Env MD) (h : Duo MD W w q q2 bs bw t o m n F) : ∀ k, Own3 F q2 bs bw t k → k < w.heap.size := fun k hk => by
  rcases hk with hk | hk | rfl
  · exact P.lt h.both.pd k hk
  · exact h.both.rd.lt k hk
  · exact heap_lt h.blk
theorem er_left {B : Nat} {v : Value} {es : List Sp.Ext} (h : ERow B (Own3 F q2 bs bw t) w v es) (ht : Touch F w w') (hm : More F F' w) : ERow B (Own3 F' q2 bs bw t) w' v es :=
  h.touch (ht.mono (fun _ _ hk => .inl hk)) (fun k hk => by
    rcases hk with hk | hk | hk
    · exact (hm k hk).elim (fun h => .inl (.inl h)) .inr
    · exact .inl (.inr (.inl hk))
    · exact .inl (.inr (.inr hk)))
theorem er_right {B : Nat} {v : Value} {es : List Sp.Ext} (h : ERow B (Own3 F q2 bs bw t) w v es) (ht : Touch (RF q2 bs bw) w w') : ERow B (Own3 F q2 bs bw t) w' v es :=
  h.touch (ht.mono (fun _ _ hk => .inr (.inl hk))) (fun _ hk => .inl hk)
theorem EsOut.anti {G : Nat → Prop} {v : Value} {es : List Sp.Ext} (h : EsOut F w v es) (hG : ∀ k, G k → F k) : EsOut G w v es := by
  obtain ⟨ao, cap, hv, h1, h2, h3⟩ := h
  exact ⟨ao, cap, hv, h1, h2, h3.imp id (fun ⟨b, o, e, hb, hF, hc⟩ => ⟨b, o, e, hb, fun hg => hF (hG b hg), hc⟩)⟩
end

/-! ### what came in -/
/-- Extents that came in. -/
def EsCame (W : World) (v : Value) (es : List Sp.Ext) : Prop := (∀ e ∈ es, I64 e.1 ∧ I64 e.2) ∧ ∃ ao cap, v = .slice ao es.length cap ∧ es.length ≤ cap ∧ cap ≤ 9223372036854775807 ∧
  ((ao = none ∧ es = [] ∧ cap = 0) ∨ ∃ a, ao = some a ∧ (es = [] ∨ ∃ b o, a = ⟨b, o, none⟩ ∧ b < W.heap.size ∧ ∀ k (hk : k < es.length), W.cell? ⟨b, o + k * 2, none⟩ = some (.int .i64 es[k].1) ∧ W.cell? ⟨b, o + k * 2 + 1, none⟩ = some (.int .i64 es[k].2)))
theorem EsCame.out {W w : World} {v : Value} {es : List Sp.Ext} {F : Nat → Prop} (h : EsCame W v es) (hF : ∀ k, F k → W.heap.size ≤ k) (hb : Below W.heap.size W w) : EsOut F w v es := by
  obtain ⟨_, ao, cap, hv, h1, h2, h3⟩ := h
  refine ⟨ao, cap, hv, h1, h2, ?_⟩
  rcases h3 with ⟨_, h3, _⟩ | ⟨a, e, h3 | ⟨b, o, e2, hbl, hc⟩⟩
  · exact .inl h3
  · exact .inl h3
  · exact .inr ⟨b, o, by rw [e, e2], Nat.lt_of_lt_of_le hbl hb.size, fun hf => by have := hF b hf; omega, fun k hk => ⟨cell_later hb (hc k hk).1, cell_later hb (hc k hk).2⟩⟩
structure ActV where
  kind : Int
  n : Int
  most : Int
  es : List Sp.Ext
  ve : Value
structure ActAt (W : World) (b o : Nat) (A : ActV) : Prop where
  c0 : W.cell? ⟨b, o, none⟩ = some (.int .i64 A.kind)
  c1 : W.cell? ⟨b, o + 1, none⟩ = some (.int .i64 A.n)
  c2 : W.cell? ⟨b, o + 2, none⟩ = some (.int .i64 A.most)
  c3 : W.cell? ⟨b, o + 3, none⟩ = some A.ve
  words : I64 A.n ∧ I64 A.most
  came : EsCame W A.ve A.es
def ActsIn (W : World) (v : Value) (l : List ActV) : Prop := ∃ ao cap, v = .slice ao l.length cap ∧ l.length ≤ cap ∧ cap ≤ 9223372036854775807 ∧ (l = [] ∨ ∃ b o, ao = some ⟨b, o, none⟩ ∧ b < W.heap.size ∧ ∀ j (hj : j < l.length), ActAt W b (o + j * 4) l[j])

/-! ### 'append([]api.Extent{}, es...)' as one operation of a region -/
theorem run_append_nothing {w : World} {ty : TypeId} {g c : Nat} : (Builtin.append_ #[31, 31] ty #[.slice (some ⟨g, 0, none⟩) 0 0, .slice none 0 c]).run Try.prog w = .ok (.slice (some ⟨g, 0, none⟩) 0 0) w := by
  go_simp
theorem appEsO {ops : Array Oper} {o : Oper} {a : Act} {i : Nat} {J : Act → World → Prop} {Q : Exit → Act → World → Prop} {W w : World} {B g : Nat} {F : Nat → Prop} {n : Nat} {ao : Option Addr} {c : Nat} {es : List Sp.Ext} (h : ERow B F w (.slice (some ⟨g, 0, none⟩) 0 0) []) (hu : EsCame W (.slice ao n c) es) (hb : Below W.heap.size W w) (hlen : es.length ≤ 1000) (hB : B ≤ w.heap.size) (hF : ∀ k, F k → k < w.heap.size)
    (ho : ops[i]? = some o) (hgd : o.guard = none) (s x : Operand) (hop : o.op = .call { callee := .builtin .append, args := #[s, x], argTypes := #[31, 31] })
    (hs : a.eval s = .slice (some ⟨g, 0, none⟩) 0 0) (hx : a.eval x = .slice ao n c)
    (hK : ∀ v' w', ERow B F w' v' es → Touch (fun k => k = g) w w' → J (a.put o.dst v') w') : wpOp Try.prog ops Q i J a w := by
  refine wpOp_plain ho hgd ?_
  have hu0 := hu.out (F := fun _ => False) (fun _ h => h.elim) hb
  obtain ⟨_, ao2, c2, hv, h1, h2, h3⟩ := hu
  injection hv with e1 e2 e3
  subst e1 e2 e3
  rcases h3 with ⟨rfl, rfl, rfl⟩ | ⟨ad, rfl, _⟩
  · unfold Oper.wp execOp
    simp only [hop, resolve, invoke, builtin, Sem.run_bind, Sem.run_pure, Result.andThen_ok, List.map_toArray, List.map_cons, List.map_nil, hs, hx, List.length_nil, run_append_nothing]
    exact hK _ _ h (Touch.refl _ _)
  · obtain ⟨i0, hi, hz0, hz1, hz2⟩ := info_parts exts_info
    have hcells : ∀ j u, (ecs es)[j]? = some u → w.cell? (ad.add j) = some u := fun j u hj => by
      have hjl : j < es.length * 2 := by
        have := (List.getElem?_eq_some_iff.1 hj).1
        rw [ecs_length] at this; exact this
      obtain ⟨ao, cap, hv, _, _, hg⟩ := hu0
      cases hv
      rcases hg with h0 | ⟨b, o1, h0, hb, _, hc⟩
      · subst h0; simp at hjl
      · cases h0
        have hk : j / 2 < es.length := by omega
        obtain ⟨c1, c2⟩ := hc _ hk
        obtain ⟨e1, e2⟩ := ecs_at es _ hk
        rw [Addr.add_lit]
        rcases (by omega : j = j / 2 * 2 ∨ j = j / 2 * 2 + 1) with hj2 | hj2
        · rw [hj2] at hj ⊢
          rw [e1] at hj
          cases hj
          exact c1
        · rw [hj2] at hj ⊢
          rw [e2] at hj
          cases hj
          exact c2
    refine wp_append_whose w s x 31 hop 35 i0 _ 2 16 Try.underlying31 hi hz0 hz1 hz2 rfl (by decide) _ 0 [] hs h.row _ es.length _ (ecs es) hx (ecs_length es) hcells (ecs_one es) (by unfold maxLen; omega) (by omega) fun v' w' h2 h3 h4 => hK v' w' ⟨?_, fun k hk => ?_⟩ (Touch.grown h3 (fun k hk => by cases hk; rfl))
    · rw [Nat.zero_add, List.nil_append] at h2; exact h2
    · rcases h4 k hk with h5 | h5
      · exact h.own k h5
      · exact ⟨Nat.le_trans hB h5, fun hf => absurd (hF k hf) (Nat.not_lt.2 h5)⟩
/-- A literal of no extents. -/
theorem ERow.made {B : Nat} {F : Nat → Prop} (w : World) (hB : B ≤ w.heap.size) (hF : ∀ k, F k → k < w.heap.size) : ERow B F (w.alloc (.cells #[] 35)) (.slice (some ⟨w.heap.size, 0, none⟩) 0 0) [] :=
  ⟨⟨rfl, .inr ⟨_, 0, _, rfl, Nat.zero_le _, heap_alloc_new w _, Nat.le_refl _, by decide, rfl, rfl⟩⟩, fun k hk => by cases hk; exact ⟨hB, fun hf => Nat.lt_irrefl _ (hF _ hf)⟩⟩
theorem wpOp_calls {P : Program} {ops : Array Oper} {Q : Exit → Act → World → Prop} {i : Nat} {o : Oper} {a : Act} {w : World} {J : Act → World → Prop} {f : FuncId} {args : Array Value} (ho : ops[i]? = some o) (hg : o.guard = none)
    (hr : (execOp a.eval o).run P w = .ok (.enter f args) w) (hc : Calls P f args w fun e w' => ∃ v, e = .returned v ∧ J (a.put o.dst v) w') : wpOp P ops Q i J a w := by
  refine wpOp_plain ho hg ?_
  unfold Oper.wp
  rw [hr]
  exact hc.mono fun e w' ⟨v, he, h⟩ => by subst he; exact h
end Go.Proofs.Ytgfgafondiipoaa
