/- What lies below, out of the texts of the layers under this one: Ck10, Ck11, Ck7, CkBut, CkP1, CkP2, CkP3, CkP4. -/
import Derived.Test.YtlbjjeonchcgbaaGreatDoorStPd
import Derived.Maps.AppendAt
import Derived.Test.YtlbjjeonchcgbaaGreatDoorQuiet
import Derived.Test.YtlbjjeonchcgbaaGreatDoorCkMathQ
import Derived.Lib.BytesEntry
namespace Go.Proofs.YtlbjjeonchcgbaaGreatDoor
open Go.RowKit

/-- Of what was there, block g alone may have changed. -/
structure But (g : Nat) (w w' : World) : Prop where
  os : w'.os = w.os
  tape : w'.tape = w.tape
  output : w'.output = w.output
  size : w.heap.size ≤ w'.heap.size
  block : ∀ k, k < w.heap.size → k ≠ g → w'.heap[k]? = w.heap[k]?
theorem But.below {B g : Nat} {a w w' : World} (h : Below B a w) (hb : But g w w') (hg : B ≤ g) (hB : B ≤ w.heap.size) : Below B a w' :=
  h.trans ⟨hb.os, hb.tape, hb.output, hb.size, fun k hk => hb.block k (by omega) (by omega)⟩
end Go.Proofs.YtlbjjeonchcgbaaGreatDoor

namespace Go.Proofs.YtlbjjeonchcgbaaGreatDoor
open Go.RowKit

theorem slices_info : (Tryz.prog.info? 22).map (fun i => (i.zero, i.size, i.bytes)) = some (some (.slice none 0 0), 1, 24) := by kernel_rfl
/-- v is a list of the call's own (the call began in W), and holds these. -/
def LBuf (W w : World) (v : Value) (vs : List Value) : Prop := w.ownsRow W.heap.size 22 1 v vs.length vs ∧ Below W.heap.size W w
theorem LBuf.nil_of {W w : World} (h : Below W.heap.size W w) : LBuf W w (.slice none 0 0) [] := ⟨World.ownsRow_nil _ _ _ _, h⟩
theorem LBuf.alloc {W w : World} {v : Value} {vs : List Value} (h : LBuf W w v vs) (o : Obj) : LBuf W (w.alloc o) v vs := ⟨h.1.alloc o, h.2.alloc h.2.size o⟩
/-- 'append(l, u)'. -/
theorem appL {ops : Array Oper} {rest : List Oper} {o : Oper} {a : Act} {Q : Exit → Act → World → Prop} {W w : World} {v u : Value} {vs : List Value} (h : LBuf W w v vs) (hlen : vs.length ≤ 100000000) (hu : u.oneCell' = true)
    (hgd : o.guard = none) (s x : Operand) (ho : o.op = .call { callee := .builtin .append, args := #[s, x], argTypes := #[83, 83] })
    (hs : a.eval s = v) (hx : a.eval x = .slice (some ⟨w.heap.size, 0, none⟩) 1 1)
    (hK : ∀ v' w', LBuf W w' v' (vs ++ [u]) → wpList Tryz.prog ops Q rest (a.put o.dst v') w') : wpList Tryz.prog ops Q (o :: rest) a (w.alloc (.cells #[u] 22)) := by
  obtain ⟨i0, hi, hz0, hz1, hz2⟩ := info_parts slices_info
  have hA := h.alloc (.cells #[u] 22)
  refine wpList_append_own _ hgd s x _ ho W.heap.size 22 i0 (.slice none 0 0) 1 24 Tryz.underlying83 hi hz0 hz1 hz2 rfl (by decide) v vs.length vs hs hA.1 ⟨w.heap.size, 0, none⟩ 1 1 [u] hx rfl ?_ ?_ (by unfold maxLen; omega) (by omega) hA.2.size (fun v' w' h1 h2 _ => ?_)
  · intro j z hj
    match j, hj with
    | 0, hj =>
      simp at hj; subst hj
      show (w.alloc (.cells #[u] 22)).cell? ⟨w.heap.size, 0 + 0, none⟩ = _
      rw [World.cell?_alloc_at _ _ _ _ rfl]; rfl
  · intro z hz; simp at hz; subst hz; exact hu
  · refine hK v' w' ⟨?_, hA.2.grown h2 hA.2.size (fun k hk => (hA.1.lt k hk).1)⟩
    simpa using h1
theorem nil_at (a : Addr) (n c : Nat) : NilOk (.slice (some a) n c) := fun _ h => by injection h with h; cases h
/-- Each reads as its octets. -/
def Each (w : World) (vs : List Value) (ls : List (List UInt8)) : Prop := vs.length = ls.length ∧ ∀ (j : Nat) (u : Value) (p : List UInt8), vs[j]? = some u → ls[j]? = some p → BIn w u p ∧ NilOk u
theorem Each.nil (w : World) : Each w [] [] := ⟨rfl, fun j u p h => by simp at h⟩
theorem Each.snoc {w : World} {vs : List Value} {ls : List (List UInt8)} (h : Each w vs ls) {u : Value} {p : List UInt8} (hu : BIn w u p) (hn : NilOk u) : Each w (vs ++ [u]) (ls ++ [p]) := by
  refine ⟨by simp [h.1], fun j x q hx hq => ?_⟩
  by_cases hj : j < vs.length
  · rw [List.getElem?_append_left hj] at hx
    rw [List.getElem?_append_left (by rw [← h.1]; exact hj)] at hq
    exact h.2 j x q hx hq
  · rw [List.getElem?_append_right (by omega)] at hx
    rw [List.getElem?_append_right (by rw [← h.1]; omega)] at hq
    have hj0 : j - vs.length = 0 := by
      have := (List.getElem?_eq_some_iff.1 hx).1
      simp at this; omega
    rw [hj0] at hx
    rw [show j - ls.length = 0 by rw [← h.1]; exact hj0] at hq
    simp at hx hq
    subst hx hq
    exact ⟨hu, hn⟩
theorem LBuf.bs {W w : World} {v : Value} {vs : List Value} {ls : List (List UInt8)} (h : LBuf W w v vs) (hE : Each W vs ls) : BsIn w v ls := by
  rcases h.1.2 with ⟨h0, h1⟩ | ⟨g, cap, cur, hv', hg, hh, h1, h2, h3, h4⟩
  · have hl0 : ls.length = 0 := by
      rw [← hE.1]
      rcases vs with _ | ⟨a, t⟩
      · rfl
      · simp at h1
    have : ls = [] := List.length_eq_zero_iff.1 hl0
    subst this
    exact ⟨none, 0, h0, Nat.le_refl _, by decide, .inl rfl⟩
  · refine ⟨_, cap, by rw [hv', hE.1], by rw [← hE.1]; exact h1, by unfold maxLen at h2; omega, .inr ⟨g, 0, rfl, lt_of_block hh, fun j hj => ?_⟩⟩
    have hjv : j < vs.length := by rw [hE.1]; exact hj
    have h5 : cur.toList[j]? = some vs[j] := by
      have h6 : (cur.toList.take (vs.length * 1))[j]? = vs[j]? := by rw [h4]
      rw [List.getElem?_take_of_lt (by omega)] at h6
      rw [h6, List.getElem?_eq_getElem hjv]
    obtain ⟨hb, hn⟩ := hE.2 j vs[j] ls[j] (List.getElem?_eq_getElem hjv) (List.getElem?_eq_getElem hj)
    refine ⟨vs[j], ?_, hb.later h.2, hn⟩
    rw [Nat.zero_add]
    simp only [World.cell?, hh]
    simpa using h5
theorem encode_one_len (l : List UInt8) (hl : l.length ≤ 1048576) : (Ck.encode [l]).length ≤ l.length + 15 := by
  unfold Ck.encode
  by_cases h : l = []
  · subst h; decide
  · have := Ck.hex_len8 (n := l.length) hl
    have hc := chunk_len l h
    rw [List.length_append]
    simp only [List.flatMap_cons, List.flatMap_nil, List.append_nil, hc]
    show _ + 5 ≤ _
    omega

end Go.Proofs.YtlbjjeonchcgbaaGreatDoor

namespace Ck
/-- What a call tells that is fed octets, where the body stands at s. -/
def fed (s : S) (l : L) : L × Nat × Bool × Int := if (go s l).2.2.2 ≠ 0 then ([], 0, false, (go s l).2.2.2) else ((go s l).1, (go s l).2.1, isOver (go s l).2.2.1, 0)
/-- Where it stands then; or the error that stays. -/
def next (s : S) (l : L) : S ⊕ Int := if (go s l).2.2.2 ≠ 0 then .inr (go s l).2.2.2 else .inl (go s l).2.2.1
/-- So far: at so many octets that came, so many of them taken. -/
structure So (l : L) (A K : Nat) (acc : L) (s : S) : Prop where
  le : A ≤ l.length
  eq : go (.size 0) (l.take A) = (acc, K, s, 0)
theorem So.start (l : L) : So l 0 0 [] (.size 0) := ⟨Nat.zero_le _, by rw [List.take_zero, go_nil]⟩
theorem So.took {l : L} {A K : Nat} {acc : L} {s : S} (h : So l A K acc s) : K ≤ A ∧ acc.length ≤ K := by
  have h1 := go_len (.size 0) (l.take A)
  rw [h.eq, List.length_take] at h1
  simp only [] at h1
  omega
theorem So.all {l : L} {A K : Nat} {acc : L} {s : S} (h : So l A K acc s) {E : Nat} (hE : A ≤ E) (_hl : E ≤ l.length) :
    go (.size 0) (l.take E) = (acc ++ (go s ((l.take E).drop K)).1, K + (go s ((l.take E).drop K)).2.1, (go s ((l.take E).drop K)).2.2) := by
  have hK := h.took.1
  have e : l.take E = l.take A ++ (l.take E).drop A := by
    conv => lhs; rw [← List.take_append_drop A (l.take E), List.take_take, Nat.min_eq_left hE]
  have e2 : (l.take E).drop K = (l.take A).drop K ++ (l.take E).drop A := by
    conv => lhs; rw [e]
    rw [List.drop_append_of_le_length (by rw [List.length_take]; have := h.le; omega)]
  conv => lhs; rw [e]
  rw [go_app (.size 0) (l.take A) ((l.take E).drop A) (by rw [h.eq]), h.eq, e2]
theorem So.told {l : L} {A K : Nat} {acc : L} {s : S} (h : So l A K acc s) {E : Nat} (hE : A ≤ E) (hl : E ≤ l.length) :
    Ck.told (l.take E) = if (fed s ((l.take E).drop K)).2.2.2 ≠ 0 then ([], 0, false, (fed s ((l.take E).drop K)).2.2.2) else (acc ++ (fed s ((l.take E).drop K)).1, K + (fed s ((l.take E).drop K)).2.1, (fed s ((l.take E).drop K)).2.2.1, 0) := by
  unfold Ck.told fed
  rw [h.all hE hl]
  simp only []
  by_cases h0 : (go s ((l.take E).drop K)).2.2.2 ≠ 0
  · rw [if_pos h0, if_pos h0, if_pos h0]
  · rw [if_neg h0, if_neg h0, if_neg (by simp)]
theorem So.next {l : L} {A K : Nat} {acc : L} {s : S} (h : So l A K acc s) {E : Nat} (hE : A ≤ E) (hl : E ≤ l.length) (h0 : (fed s ((l.take E).drop K)).2.2.2 = 0) :
    ∃ s', Ck.next s ((l.take E).drop K) = .inl s' ∧ So l E (K + (fed s ((l.take E).drop K)).2.1) (acc ++ (fed s ((l.take E).drop K)).1) s' := by
  have hz : (go s ((l.take E).drop K)).2.2.2 = 0 := by
    unfold fed at h0
    by_cases h1 : (go s ((l.take E).drop K)).2.2.2 ≠ 0
    · rw [if_pos h1] at h0; exact h0
    · exact Decidable.of_not_not h1
  refine ⟨(go s ((l.take E).drop K)).2.2.1, by unfold Ck.next; rw [if_neg (by rw [hz]; simp)], hl, ?_⟩
  rw [h.all hE hl]
  unfold fed
  rw [if_neg (by rw [hz]; simp)]
  have : (go s ((l.take E).drop K)).2.2 = ((go s ((l.take E).drop K)).2.2.1, 0) := by rw [← hz]
  rw [this]
theorem next_bad {s : S} {l : L} (h0 : (fed s l).2.2.2 ≠ 0) : Ck.next s l = .inr (fed s l).2.2.2 ∧ fed s l = ([], 0, false, (fed s l).2.2.2) := by
  unfold fed at h0 ⊢
  unfold Ck.next
  by_cases h1 : (go s l).2.2.2 ≠ 0
  · rw [if_pos h1, if_pos h1]; exact ⟨rfl, rfl⟩
  · rw [if_neg h1] at h0; exact absurd rfl h0
end Ck
namespace Go.Proofs.YtlbjjeonchcgbaaGreatDoor
open Go.RowKit

/-- What a decoder answers; its memory is the one block g. -/
structure Feed7 (Env : World → Prop) (Dec : World → Nat → Ck.S ⊕ Int → Prop) : Prop where
  new : ∀ (w : World), Env w → Calls Tryz.prog 112 #[] w fun e w' => (∃ g, e = .returned (.pointer (some ⟨g, 0, none⟩)) ∧ w.heap.size ≤ g ∧ g < w'.heap.size ∧ Dec w' g (.inl (.size 0))) ∧ Below w.heap.size w w'
  keep : ∀ {w w' : World} {g : Nat} {st : Ck.S ⊕ Int}, Dec w g st → w'.heap[g]? = w.heap[g]? → Dec w' g st
  feed : ∀ (g : Nat) (s : Ck.S) (v : Value) (l : List UInt8) (w : World), l.length ≤ 100000 → Dec w g (.inl s) → BIn w v l → Env w →
    Calls Tryz.prog 95 #[.pointer (some ⟨g, 0, none⟩), v] w fun e w' => (∃ u, e = .returned (.tuple #[u, .int .i64 (Ck.fed s l).2.1, .bool (Ck.fed s l).2.2.1, .int .i64 (Ck.fed s l).2.2.2]) ∧ BIn w' u (Ck.fed s l).1 ∧ NilOk u) ∧ But g w w' ∧ Dec w' g (Ck.next s l)
  bad : ∀ (g : Nat) (er : Int) (v : Value) (l : List UInt8) (w : World), l.length ≤ 100000 → Dec w g (.inr er) → BIn w v l → Env w →
    Calls Tryz.prog 95 #[.pointer (some ⟨g, 0, none⟩), v] w fun e w' => (∃ u, e = .returned (.tuple #[u, .int .i64 0, .bool false, .int .i64 er]) ∧ BIn w' u [] ∧ NilOk u) ∧ But g w w' ∧ Dec w' g (.inr er)

/-- A row of the call's own, at or behind block B. -/
structure Own (W : World) (B : Nat) (w : World) (v : Value) (l : List UInt8) : Prop where
  row : w.ownsRow B 5 1 v l.length (Lib.byteCells l)
  below : Below W.heap.size W w
  ge : W.heap.size ≤ B
  le : B ≤ w.heap.size
theorem Own.nil {W w : World} {B : Nat} (h : Below W.heap.size W w) (h1 : W.heap.size ≤ B) (h2 : B ≤ w.heap.size) : Own W B w (.slice none 0 0) [] := ⟨World.ownsRow_nil _ _ _ _, h, h1, h2⟩
theorem Own.after {W w w' : World} {B : Nat} {v : Value} {l : List UInt8} (h : Own W B w v l) (hb : Below w.heap.size w w') : Own W B w' v l := by
  refine ⟨⟨h.row.1, ?_⟩, h.below.trans (hb.mono h.below.size), h.ge, Nat.le_trans h.le hb.size⟩
  rcases h.row.2 with h0 | ⟨g, cap, cur, hv, hg, hh, rest⟩
  · exact .inl h0
  · exact .inr ⟨g, cap, cur, hv, hg, by rw [hb.block g (lt_of_block hh)]; exact hh, rest⟩
theorem Own.but {W w w' : World} {B k : Nat} {v : Value} {l : List UInt8} (h : Own W B w v l) (hb : But k w w') (hk : k < B) (hk2 : W.heap.size ≤ k) : Own W B w' v l := by
  refine ⟨⟨h.row.1, ?_⟩, hb.below h.below hk2 h.below.size, h.ge, Nat.le_trans h.le hb.size⟩
  rcases h.row.2 with h0 | ⟨g, cap, cur, hv, hg, hh, rest⟩
  · exact .inl h0
  · exact .inr ⟨g, cap, cur, hv, hg, by rw [hb.block g (lt_of_block hh) (by omega)]; exact hh, rest⟩
theorem Own.in_ {W w : World} {B : Nat} {v : Value} {l : List UInt8} (h : Own W B w v l) : BIn w v l ∧ NilOk v := own_in h.row
/-- 'append(b, c..)'. -/
theorem appOwn {ops : Array Oper} {rest : List Oper} {o : Oper} {a : Act} {Q : Exit → Act → World → Prop} {W w : World} {B : Nat} {v u : Value} {l m : List UInt8} (h : Own W B w v l) (hu : BIn w u m) (hnil : NilOk u) (hlen : l.length + m.length ≤ 1000000000)
    (hgd : o.guard = none) (s x : Operand) (ho : o.op = .call { callee := .builtin .append, args := #[s, x], argTypes := #[22, 22] })
    (hs : a.eval s = v) (hx : a.eval x = u)
    (hK : ∀ v' w', Own W B w' v' (l ++ m) → Below B w w' → (∀ k, k < w.heap.size → v.ownBlock ≠ some k → w'.heap[k]? = w.heap[k]?) → wpList Tryz.prog ops Q rest (a.put o.dst v') w') : wpList Tryz.prog ops Q (o :: rest) a w := by
  obtain ⟨i0, hi, hz0, hz1, hz2⟩ := info_parts bytes_info
  obtain ⟨ao, cap, rfl, hlc, _, hg⟩ := hu
  cases ao with
  | none =>
    have h0 : m = [] := by
      rcases hg with h | ⟨b, o, h, _⟩
      · exact h
      · cases h
    subst h0
    obtain rfl : cap = 0 := hnil cap rfl
    refine wpList_append_own_none hgd s x _ ho B 5 i0 1 Tryz.underlying22 hi v l.length (Lib.byteCells l) hs h.row hx ?_
    have := hK v w
    rw [List.append_nil] at this
    exact this h (Below.refl _ _) (fun _ _ _ => rfl)
  | some ad =>
    refine wpList_append_own _ hgd s x _ ho B 5 i0 _ 1 1 Tryz.underlying22 hi hz0 hz1 hz2 rfl (by decide) v l.length (Lib.byteCells l) hs h.row ad m.length cap (Lib.byteCells m) hx (by rw [Lib.byteCells_length]; omega) ?_ ?_ (by unfold maxLen; omega) (by omega) h.le (fun v' w' h1 h2 h3 => ?_)
    · intro j c hj
      have hjl : j < m.length := by
        have := (List.getElem?_eq_some_iff.1 hj).1
        rw [Lib.byteCells_length] at this; exact this
      rcases hg with h | ⟨b, o, h, hb, hc⟩
      · subst h; simp at hjl
      · cases h
        rw [Addr.add_lit, hc j hjl]
        rw [← hj]; simp [Lib.byteCells, hjl]
    · intro c hc
      unfold Lib.byteCells at hc
      obtain ⟨d, _, rfl⟩ := List.mem_map.1 hc
      rfl
    · have e : Lib.byteCells (l ++ m) = Lib.byteCells l ++ Lib.byteCells m := by simp [Lib.byteCells]
      exact hK v' w' ⟨by rw [e, List.length_append]; exact h1, h.below.grown h2 h.below.size (fun k hk => Nat.le_trans h.ge (h.row.lt k hk).1), h.ge, Nat.le_trans h.le h2.size⟩ ((Below.refl B w).grown h2 h.le (fun k hk => (h.row.lt k hk).1)) (fun k hk hne => h2.block k hk (fun e => hne e.symm))
theorem Own.none_ (W w : World) (hb : Below W.heap.size W w) : Own W w.heap.size (w.alloc (.cells #[] 5)) (.slice (some ⟨w.heap.size, 0, none⟩) 0 0) [] :=
  ⟨World.ownsRow_made w #[] 0 (Nat.le_refl _) (by decide) rfl, hb.alloc hb.size _, hb.size, ((Below.refl w.heap.size w).alloc (Nat.le_refl _) _).size⟩
/-- A part of what came in. -/
theorem BIn.mid {w : World} {ad : Addr} {m cap : Nat} {l : List UInt8} (h : BIn w (.slice (some ad) m cap) l) (K E : Nat) (hK : K ≤ E) (hE : E ≤ l.length) : BIn w (.slice (if cap = K then some ad else some (ad.add K)) (E - K) (cap - K)) ((l.take E).drop K) := by
  obtain ⟨ao', cap', hv, h1, h2, hg⟩ := h
  injection hv with hv1 hv2 hv3
  subst hv1 hv2 hv3
  have hl : ((l.take E).drop K).length = E - K := by rw [List.length_drop, List.length_take]; omega
  refine ⟨_, cap - K, by rw [hl], by omega, by omega, ?_⟩
  by_cases hKE : K = E
  · left; rw [List.drop_of_length_le (by rw [List.length_take]; omega)]
  · right
    rcases hg with rfl | ⟨b, o, hao, hb, hc⟩
    · simp at hE; omega
    · cases hao
      rw [if_neg (by omega), Addr.add_lit]
      refine ⟨b, o + K, rfl, hb, fun j hj => ?_⟩
      rw [hl] at hj
      rw [Nat.add_assoc, hc (K + j) (by omega)]
      simp

end Go.Proofs.YtlbjjeonchcgbaaGreatDoor

namespace Go.Proofs.YtlbjjeonchcgbaaGreatDoor
open Go.RowKit

/-- They don't lie in one block. -/
def Asun (u v : Value) : Prop := ∀ k, u.ownBlock = some k → v.ownBlock ≠ some k
theorem Asun.nil (v : Value) : Asun (.slice none 0 0) v := fun k h => by simp [Value.ownBlock] at h
theorem Asun.to_nil (v : Value) : Asun v (.slice none 0 0) := fun k _ h => by simp [Value.ownBlock] at h
/-- Where a row lies that was appended to. -/
def AtOr (w : World) (v v' : Value) : Prop := v'.ownBlock = v.ownBlock ∨ v'.ownBlock = some w.heap.size
theorem Asun.next {W w : World} {v v' v2 : Value} {l2 : List UInt8} (h : Asun v v2) (h2 : Buf W w v2 l2) (hat : AtOr w v v') : Asun v' v2 := by
  intro k hk hk2
  rcases hat with e | e
  · exact h k (e ▸ hk) hk2
  · rw [e] at hk; cases hk
    have := (h2.1.lt _ hk2).2
    omega
theorem Asun.symm {u v : Value} (h : Asun u v) : Asun v u := fun k hk hu => h k hu hk
theorem Buf.other {W w w' : World} {v v2 : Value} {l2 : List UInt8} (h2 : Buf W w v2 l2) (hg : w.grownBy w' v.ownBlock) (hb : Below W.heap.size W w') (h : Asun v v2) : Buf W w' v2 l2 := by
  refine ⟨h2.1.kept hg ?_, hb⟩
  by_cases h0 : v2.ownBlock = none
  · exact .inl h0
  · right
    intro e
    obtain ⟨k, hk⟩ := Option.ne_none_iff_exists'.1 h0
    exact h k (e ▸ hk) hk
/-- Octets that lie in none of the row's blocks. -/
def Off (v u : Value) : Prop := ∀ ad n c, u = .slice (some ad) n c → v.ownBlock ≠ some ad.block
theorem BIn.other {w w' : World} {v u : Value} {l : List UInt8} (h : BIn w u l) (hg : w.grownBy w' v.ownBlock) (ho : Off v u) : BIn w' u l := by
  obtain ⟨ao, cap, rfl, h1, h2, h⟩ := h
  refine ⟨ao, cap, rfl, h1, h2, ?_⟩
  rcases h with h | ⟨b, o, rfl, hb, hc⟩
  · exact .inl h
  · refine .inr ⟨b, o, rfl, Nat.lt_of_lt_of_le hb hg.size, fun j hj => ?_⟩
    rw [← hc j hj]
    exact World.cell?_of_block (a := ⟨b, o + j, none⟩) (hg.block b hb (fun e => ho _ _ _ rfl e.symm))
/-- What a row of the call's own is, lies at or behind block B. -/
def NewAt (B : Nat) (u : Value) : Prop := ∀ ad n c, u = .slice (some ad) n c → B ≤ ad.block
theorem NewAt.off {B : Nat} {u v : Value} (h : NewAt B u) (hv : ∀ k, v.ownBlock = some k → k < B) : Off v u := fun ad n c e hk => by
  have h1 := h ad n c e
  have h2 := hv _ hk
  omega
theorem row_new {w : World} {B : Nat} {v : Value} {l : List UInt8} (h : w.ownsRow B 5 1 v l.length (Lib.byteCells l)) : NewAt B v := by
  intro ad n c e
  rcases h.2 with ⟨hv, _⟩ | ⟨g, cap, cur, hv, hg, _⟩
  · rw [hv] at e; cases e
  · rw [hv] at e; cases e; exact hg
theorem Off.next {w : World} {v v' u : Value} {l : List UInt8} (h : Off v u) (hu : BIn w u l) (hl : l ≠ []) (hat : AtOr w v v') : Off v' u := by
  intro ad n c e hk
  rcases hat with e1 | e1
  · exact h ad n c e (e1 ▸ hk)
  · rw [e1] at hk
    obtain ⟨ao, cap, rfl, h1, h2, h3⟩ := hu
    rcases h3 with h3 | ⟨b, o, rfl, hb, hc⟩
    · exact hl h3
    · cases e
      simp at hk
      omega
/-- Where the text lies once a string was appended. -/
theorem run_str_at {P : Program} (w : World) (base : Nat) (t u ty e : TypeId) (i : TypeInfo) (ht : P.underlying t = some (.slice e)) (hu : P.underlying u = some .string) (hi : P.info? e = some i) (hz : i.zero = some (.int .u8 0))
    (hsize : i.size = 1) (hby : i.bytes = 1) (v : Value) (n : Nat) (xs : List Value) (hown : w.ownsRow base e 1 v n xs) (s : ByteArray)
    (h63 : n + s.size ≤ maxLen) (hbytes : n + s.size ≤ 140737488355328) (hbase : base ≤ w.heap.size) :
    ∃ v' w', (Builtin.append_ #[t, u] ty #[v, .string s]).run P w = .ok v' w' ∧ w'.ownsRow base e 1 v' (n + s.size) (xs ++ Lib.strCells s) ∧ w.grownBy w' v.ownBlock ∧ AtOr w v v' := by
  have hsmall : n + s.size ≤ 9223372036854775807 := by simp only [maxLen] at h63; omega
  obtain ⟨v', w', hr, h2, h3, h4⟩ := Lib.run_append_own_string (P := P) w base t u ty e i ht hu hi hz hsize hby v n xs hown s h63 hbytes hbase
  refine ⟨v', w', hr, h2, h3, ?_⟩
  rcases hown.2 with ⟨rfl, rfl⟩ | ⟨g, cap, cur, rfl, hbg, hg, hnc, hcm, hcs, htake⟩
  · by_cases hm : s.size = 0
    · exact .inl (by rw [h4.2 ⟨rfl, hm⟩])
    · have hx := run_append_nil_string (P := P) w t u ty e i (.int .u8 0) ht hu hi hz s (by omega) (by omega) (by rw [hby]; omega)
      rw [hr] at hx
      injection hx with hx1 hx2
      exact .inr (by rw [hx1]; rfl)
  · by_cases hroom : n + s.size ≤ cap
    · have hcs' : cur.size = cap := by simpa using hcs
      have hx := Lib.run_append_room_string (P := P) w t u ty e i ht hu hi hsize g n cap cur hg s hroom (by omega)
      rw [hr] at hx
      injection hx with hx1 hx2
      exact .inl (by rw [hx1]; rfl)
    · have hx := Lib.run_append_grow_string (P := P) w t u ty e i (.int .u8 0) ht hu hi hz ⟨g, 0, none⟩ n cap xs (by rw [hsize]; simpa using hown.1) (hown.cells (g := g) rfl) s (by omega) (by omega) (by rw [hby]; exact growslice_fits (by omega) (by omega))
      rw [hr] at hx
      injection hx with hx1 hx2
      exact .inr (by rw [hx1]; rfl)
/-- 'append(b, s..)', s a string: where it lies, too. -/
theorem appSAt {ops : Array Oper} {rest : List Oper} {o : Oper} {a : Act} {Q : Exit → Act → World → Prop} {W w : World} {v : Value} {l : List UInt8} (h : Buf W w v l) (s : ByteArray) (hlen : l.length + s.size ≤ 100000000000)
    (hgd : o.guard = none) (sl x : Operand) (ho : o.op = .call { callee := .builtin .append, args := #[sl, x], argTypes := #[22, 9] })
    (hs : a.eval sl = v) (hx : a.eval x = .string s)
    (hK : ∀ v' w', Buf W w' v' (l ++ s.data.toList) → w.grownBy w' v.ownBlock → AtOr w v v' → wpList Tryz.prog ops Q rest (a.put o.dst v') w') : wpList Tryz.prog ops Q (o :: rest) a w := by
  obtain ⟨i0, hi, hz0, hz1, hz2⟩ := info_parts bytes_info
  refine wpList_plain hgd fun K hKK => ?_
  obtain ⟨v', w', hr, h2, h3, h4⟩ := run_str_at (P := Tryz.prog) w W.heap.size _ _ o.type _ i0 Tryz.underlying22 Tryz.underlying9 hi hz0 hz1 hz2 v l.length (Lib.byteCells l) h.1 s (by unfold maxLen; omega) (by omega) h.2.size
  unfold Oper.wp execOp
  simp only [ho, resolve, invoke, builtin, Sem.run_bind, Sem.run_pure, Result.andThen_ok, List.map_toArray, List.map_cons, List.map_nil, hs, hx, hr]
  refine hKK _ _ (hK v' w' ⟨?_, h.2.grown h3 h.2.size (fun k hk => (h.1.lt k hk).1)⟩ h3 h4)
  have e : Lib.byteCells (l ++ s.data.toList) = Lib.byteCells l ++ Lib.strCells s := by simp [Lib.byteCells, Lib.strCells]
  rw [e, List.length_append, Oct.length_size]
  exact h2
/-- 'append(b, c..)': where it lies, too. -/
theorem appBAt {ops : Array Oper} {rest : List Oper} {o : Oper} {a : Act} {Q : Exit → Act → World → Prop} {W w : World} {v u : Value} {l m : List UInt8} (h : Buf W w v l) (hu : BIn w u m) (hnil : NilOk u) (hlen : l.length + m.length ≤ 1000000000)
    (hgd : o.guard = none) (s x : Operand) (ho : o.op = .call { callee := .builtin .append, args := #[s, x], argTypes := #[22, 22] })
    (hs : a.eval s = v) (hx : a.eval x = u)
    (hK : ∀ v' w', Buf W w' v' (l ++ m) → w.grownBy w' v.ownBlock → AtOr w v v' → wpList Tryz.prog ops Q rest (a.put o.dst v') w') : wpList Tryz.prog ops Q (o :: rest) a w := by
  obtain ⟨i0, hi, hz0, hz1, hz2⟩ := info_parts bytes_info
  obtain ⟨ao, cap, rfl, hlc, _, hg⟩ := hu
  cases ao with
  | none =>
    have h0 : m = [] := by
      rcases hg with h | ⟨b, o, h, _⟩
      · exact h
      · cases h
    subst h0
    obtain rfl : cap = 0 := hnil cap rfl
    refine wpList_append_own_none hgd s x _ ho W.heap.size 5 i0 1 Tryz.underlying22 hi v l.length (Lib.byteCells l) hs h.1 hx ?_
    have := hK v w
    rw [List.append_nil] at this
    exact this h ⟨rfl, rfl, rfl, Nat.le_refl _, fun _ _ _ => rfl⟩ (.inl rfl)
  | some ad =>
    refine wpList_append_own_at _ hgd s x _ ho W.heap.size 5 i0 _ 1 1 Tryz.underlying22 hi hz0 hz1 hz2 rfl (by decide) v l.length (Lib.byteCells l) hs h.1 ad m.length cap (Lib.byteCells m) hx (by rw [Lib.byteCells_length]; omega) ?_ ?_ (by unfold maxLen; omega) (by omega) h.2.size (fun v' w' h1 h2 h3 h4 => ?_)
    · intro j c hj
      have hjl : j < m.length := by
        have := (List.getElem?_eq_some_iff.1 hj).1
        rw [Lib.byteCells_length] at this; exact this
      rcases hg with h | ⟨b, o, h, hb, hc⟩
      · subst h; simp at hjl
      · cases h
        rw [Addr.add_lit, hc j hjl]
        rw [← hj]; simp [Lib.byteCells, hjl]
    · intro c hc
      unfold Lib.byteCells at hc
      obtain ⟨d, _, rfl⟩ := List.mem_map.1 hc
      rfl
    · refine hK v' w' ⟨?_, h.2.grown h2 h.2.size (fun k hk => (h.1.lt k hk).1)⟩ h2 h4
      have e : Lib.byteCells (l ++ m) = Lib.byteCells l ++ Lib.byteCells m := by simp [Lib.byteCells]
      rw [e, List.length_append]; exact h1
/-- A row based later is one based earlier. -/
theorem Buf.based {W w w' : World} {v : Value} {l : List UInt8} (h : Buf w w' v l) (hb : Below W.heap.size W w) : Buf W w' v l := by
  refine ⟨⟨h.1.1, ?_⟩, hb.trans (h.2.mono hb.size)⟩
  rcases h.1.2 with h0 | ⟨g, cap, cur, hv, hg, rest⟩
  · exact .inl h0
  · exact .inr ⟨g, cap, cur, hv, Nat.le_trans hb.size hg, rest⟩
/-- A row of an older world lies in older blocks. -/
theorem Buf.old {W w : World} {v : Value} {l : List UInt8} (h : Buf W w v l) : ∀ k, v.ownBlock = some k → k < w.heap.size := fun k hk => (h.1.lt k hk).2
theorem Buf.apart {W W' w w' : World} {v u : Value} {l m : List UInt8} (h : Buf W w v l) (h2 : Buf W' w' u m) (hb : w.heap.size ≤ W'.heap.size) : Asun v u := fun k hk hu => by
  have := (h.1.lt k hk).2
  have := (h2.1.lt k hu).1
  omega
theorem Buf.later {W w w' : World} {v : Value} {l : List UInt8} (h : Buf W w v l) (hb : Below w.heap.size w w') : Buf W w' v l := by
  refine ⟨⟨h.1.1, ?_⟩, h.2.trans (hb.mono h.2.size)⟩
  rcases h.1.2 with h0 | ⟨g, cap, cur, hv, hg, hh, rest⟩
  · exact .inl h0
  · exact .inr ⟨g, cap, cur, hv, hg, by rw [hb.block g (lt_of_block hh)]; exact hh, rest⟩
end Go.Proofs.YtlbjjeonchcgbaaGreatDoor

namespace Ck
theorem lineLen_yes {l : L} (h : St.upto 10 (l.take 256) ≠ (l.take 256).length) : lineLen l = (St.upto 10 l + 1, 0) ∧ St.upto 10 (l.take 256) = St.upto 10 l ∧ St.upto 10 l < l.length ∧ St.upto 10 l ≤ 255 := by
  have hle := St.upto_le 10 l
  rw [St.upto_first] at h ⊢
  by_cases hu : St.upto 10 l < 256
  · rw [if_pos hu] at h ⊢
    rw [List.length_take] at h
    have h1 : St.upto 10 l < l.length := by omega
    refine ⟨?_, rfl, h1, by omega⟩
    unfold lineLen
    rw [if_pos ⟨h1, by omega⟩]
  · rw [if_neg hu] at h
    exact absurd rfl h
theorem lineLen_no {l : L} (h : St.upto 10 (l.take 256) = (l.take 256).length) : lineLen l = if 256 ≤ l.length then (0, 12) else (0, 0) := by
  have hle := St.upto_le 10 l
  rw [St.upto_first, List.length_take] at h
  unfold lineLen
  rw [if_neg]
  rintro ⟨h1, h2⟩
  rw [if_pos (by omega)] at h
  omega
end Ck
namespace Go.Proofs.YtlbjjeonchcgbaaGreatDoor
open Go.RowKit

/-! A decoder in memory: five cells. -/
def dcells (a n t k e : Int) : Array Value := #[.int .i64 a, .int .i64 n, .int .i64 t, .int .i64 k, .int .i64 e]
def DAt (w : World) (g : Nat) (a n t k e : Int) : Prop := w.heap[g]? = some (.cells (dcells a n t k e) 139 (0, 0))
theorem DAt.lt {w : World} {g : Nat} {a n t k e : Int} (h : DAt w g a n t k e) : g < w.heap.size := lt_of_block h
theorem DAt.same {w w' : World} {g : Nat} {a n t k e : Int} (h : DAt w g a n t k e) (hb : w'.heap[g]? = w.heap[g]?) : DAt w' g a n t k e := by unfold DAt; rw [hb]; exact h
theorem DAt.later {w w' : World} {g : Nat} {a n t k e : Int} (h : DAt w g a n t k e) (hb : Below w.heap.size w w') : DAt w' g a n t k e := h.same (hb.block g h.lt)
theorem DAt.cell {w : World} {g : Nat} {a n t k e : Int} (h : DAt w g a n t k e) (j : Nat) : w.cell? ⟨g, j, none⟩ = (dcells a n t k e)[j]? := by
  simp only [World.cell?, DAt] at *; rw [h]; rfl
theorem DAt.cells {w : World} {g : Nat} {a n t k e : Int} (h : DAt w g a n t k e) :
    w.cell? ⟨g, 0, none⟩ = some (.int .i64 a) ∧ w.cell? ⟨g, 1, none⟩ = some (.int .i64 n) ∧ w.cell? ⟨g, 2, none⟩ = some (.int .i64 t) ∧ w.cell? ⟨g, 3, none⟩ = some (.int .i64 k) ∧ w.cell? ⟨g, 4, none⟩ = some (.int .i64 e) :=
  ⟨h.cell 0, h.cell 1, h.cell 2, h.cell 3, h.cell 4⟩
theorem DAt.free {w : World} {g : Nat} {a n t k e : Int} (h : DAt w g a n t k e) (j : Nat) : w.frozen? ⟨g, j, none⟩ = false := by
  simp only [World.frozen?, DAt] at *; rw [h]; simp
theorem DAt.put {w : World} {g : Nat} {a n t k e a' n' t' k' e' : Int} (h : DAt w g a n t k e) (j : Nat) (v : Value) (hd : (dcells a n t k e).setIfInBounds j v = dcells a' n' t' k' e') : DAt (w.setCell ⟨g, j, none⟩ v) g a' n' t' k' e' := by
  unfold DAt at *
  rw [← hd]
  simp [World.setCell, Array.getElem?_modify, h]
theorem But.refl (g : Nat) (w : World) : But g w w := ⟨rfl, rfl, rfl, Nat.le_refl _, fun _ _ _ => rfl⟩
theorem But.of {g : Nat} {w w' : World} (h : Below w.heap.size w w') : But g w w' := ⟨h.os, h.tape, h.output, h.size, fun k hk _ => h.block k hk⟩
theorem But.trans {g : Nat} {a b c : World} (h : But g a b) (h' : But g b c) : But g a c :=
  ⟨h'.os.trans h.os, h'.tape.trans h.tape, h'.output.trans h.output, Nat.le_trans h.size h'.size, fun k hk hne => (h'.block k (Nat.lt_of_lt_of_le hk h.size) hne).trans (h.block k hk hne)⟩
theorem But.put {g : Nat} {a b : World} (h : But g a b) (j : Nat) (v : Value) : But g a (b.setCell ⟨g, j, none⟩ v) := by
  refine ⟨h.os, h.tape, h.output, by simp only [World.size_setCell]; exact h.size, fun k hk hne => ?_⟩
  rw [Below.heap_setCell _ _ _ _ (by simpa using hne)]
  exact h.block k hk hne
/-- Where a body stands, in the decoder's cells. -/
def Dst (w : World) (g : Nat) (s : Ck.S) (e : Int) : Prop := Ck.Good s ∧ match s with
  | .size t => DAt w g 0 0 t 0 e
  | .data t n => DAt w g 1 n t 0 e
  | .tail t => DAt w g 2 0 t 0 e
  | .trail k => ∃ t : Int, DAt w g 3 0 t k e
  | .over => ∃ t k : Int, DAt w g 4 0 t k e
theorem Dst.cells {w : World} {g : Nat} {s : Ck.S} {e : Int} (h : Dst w g s e) : ∃ a n t k : Int, DAt w g a n t k e ∧ (a = 4 ↔ s = .over) ∧ (a = 1 ↔ ∃ t n, s = .data t n) := by
  obtain ⟨_, h⟩ := h
  cases s with
  | size t => exact ⟨_, _, _, _, h, by simp, by simp⟩
  | data t n => exact ⟨_, _, _, _, h, by simp, by simp⟩
  | tail t => exact ⟨_, _, _, _, h, by simp, by simp⟩
  | trail k => obtain ⟨t, h⟩ := h; exact ⟨_, _, _, _, h, by simp, by simp⟩
  | over => obtain ⟨t, k, h⟩ := h; exact ⟨_, _, _, _, h, by simp, by simp⟩
theorem Dst.same {w w' : World} {g : Nat} {s : Ck.S} {e : Int} (h : Dst w g s e) (hb : w'.heap[g]? = w.heap[g]?) : Dst w' g s e := by
  obtain ⟨hg, h⟩ := h
  refine ⟨hg, ?_⟩
  cases s with
  | size t => exact DAt.same h hb
  | data t n => exact DAt.same h hb
  | tail t => exact DAt.same h hb
  | trail k => obtain ⟨t, h⟩ := h; exact ⟨t, h.same hb⟩
  | over => obtain ⟨t, k, h⟩ := h; exact ⟨t, k, h.same hb⟩

/-- A part, cut off from what stands behind. -/
def Part (w : World) (u : Value) (p : List UInt8) : Prop := BIn w u p ∧ ∃ ao, u = .slice ao p.length p.length
theorem Part.of {w : World} {ao : Option Addr} {m cap : Nat} {l : List UInt8} (h : BIn w (.slice ao m cap) l) (k : Nat) (hk : k ≤ l.length) : Part w (.slice ao k k) (l.take k) := by
  obtain ⟨ao', cap', hv, h1, h2, hg⟩ := h
  injection hv with hv1 hv2 hv3
  subst hv1 hv2 hv3
  have hl : (l.take k).length = k := by rw [List.length_take]; omega
  refine ⟨⟨ao, k, by rw [hl], by omega, by omega, ?_⟩, ao, by rw [hl]⟩
  rcases hg with rfl | ⟨b, o, rfl, hb, hc⟩
  · left; simp
  · refine .inr ⟨b, o, rfl, hb, fun j hj => ?_⟩
    rw [hl] at hj
    rw [hc j (by omega)]
    simp

set_option maxHeartbeats 6400000 in
set_option maxRecDepth 100000 in
theorem next_line0 (g : Nat) (n t k e : Int) (v : Value) (l : List UInt8) (w : World) (hl : l.length ≤ 10000000) (hd : DAt w g 0 n t k e) (h : BIn w v l) :
    Calls Tryz.prog 113 #[.pointer (some ⟨g, 0, none⟩), v] w fun x w' => (∃ u, x = .returned (.tuple #[u, .int .i64 (Ck.lineLen l).2]) ∧ ((Ck.lineLen l).2 = 0 → ∀ W, BIn W v l → Part W u (l.take (Ck.lineLen l).1))) ∧ w = w' := by
  have HV := Lib.hid h
  obtain ⟨c0, c1, c2, c3, c4⟩ := hd.cells
  obtain ⟨ao, cap, rfl, hlc, hc9, hg⟩ := h
  obtain ⟨L, hL⟩ : ∃ L, L = l.length := ⟨_, rfl⟩
  obtain ⟨N, hN⟩ : ∃ N, N = (l.take 256).length := ⟨_, rfl⟩
  have hNL : N = min 256 L := by rw [hN, hL, List.length_take]
  have hNi : min (L : Int) 256 = N := by omega
  have hNcap : (N : Int) ≤ cap := by omega
  have cB := byte_w (.slice ao N cap) (l.take 256) w (by
    have := HV.out.cut N (by rw [hN, List.length_take]; exact Nat.min_le_right _ _)
    rw [hN, List.length_take, ← List.take_eq_take_min] at this
    rw [hN, List.length_take]
    exact this)
  rw [St.index_upto] at cB
  rw [← hL] at hlc ⊢
  by_cases hu : St.upto 10 (l.take 256) = (l.take 256).length
  · rw [if_pos hu] at cB
    have hno := Ck.lineLen_no hu
    by_cases h9 : (L : Int) < 256
    · rw [if_neg (by omega)] at hno
      have HR : Hid (Ck.lineLen l = (0, 0)) := Lib.hid hno
      have h9' : ¬ (256 : Int) ≤ L := by omega
      clear hg HV hL hN hNL hu hno hl hd c1 c2 c3 c4
      go_enter Tryz.func113, Tryz.ntmps113
      go_wp2_with fail
      refine cB.mono ?_
      rintro e W1 ⟨rfl, rfl⟩
      go_wp2_with fail
      go_ret2
      rw [HR.out]
      exact ⟨⟨_, rfl, fun _ W hW => Part.of hW 0 (Nat.zero_le _)⟩, rfl⟩
    · rw [if_pos (by omega)] at hno
      have HR : Hid (Ck.lineLen l = (0, 12)) := Lib.hid hno
      have h9' : (256 : Int) ≤ L := by omega
      clear hg HV hL hN hNL hu hno hl hd c1 c2 c3 c4
      go_enter Tryz.func113, Tryz.ntmps113
      go_wp2_with fail
      refine cB.mono ?_
      rintro e W1 ⟨rfl, rfl⟩
      go_wp2_with fail
      go_ret2
      rw [HR.out]
      exact ⟨⟨_, rfl, fun h => absurd h (by decide)⟩, rfl⟩
  · rw [if_neg hu] at cB
    obtain ⟨hy, f1, f2, f3⟩ := Ck.lineLen_yes hu
    rw [f1] at cB
    have HR : Hid (Ck.lineLen l = (St.upto 10 l + 1, 0)) := Lib.hid hy
    have HLE : Hid (St.upto 10 l + 1 ≤ l.length) := Lib.hid f2
    generalize St.upto 10 l = u at *
    have hu1 : (0 : Int) ≤ (u : Int) + 1 := by omega
    have huz : ¬ ((u : Int) + 1 = 0) := by omega
    have hub : ((u : Int) + 1 == 0) = false := beq_eq_false_iff_ne.2 huz
    have huc : (u : Int) + 1 ≤ cap := by omega
    clear hg HV hL hN hNL hu hl hd c1 c2 c3 c4 hy f1 f2 f3
    go_enter Tryz.func113, Tryz.ntmps113
    go_wp2_with fail
    refine cB.mono ?_
    rintro e W1 ⟨rfl, rfl⟩
    go_wp2_with fail
    go_ret2
    rw [HR.out]
    exact ⟨⟨_, rfl, fun _ W hW => Part.of hW _ HLE.out⟩, rfl⟩
set_option maxHeartbeats 6400000 in
set_option maxRecDepth 100000 in
theorem next_line3 (g : Nat) (n t k e : Int) (v : Value) (l : List UInt8) (w : World) (hl : l.length ≤ 10000000) (hd : DAt w g 3 n t k e) (h : BIn w v l) :
    Calls Tryz.prog 113 #[.pointer (some ⟨g, 0, none⟩), v] w fun x w' => (∃ u, x = .returned (.tuple #[u, .int .i64 (Ck.lineLen l).2]) ∧ ((Ck.lineLen l).2 = 0 → ∀ W, BIn W v l → Part W u (l.take (Ck.lineLen l).1))) ∧ w = w' := by
  have HV := Lib.hid h
  obtain ⟨c0, c1, c2, c3, c4⟩ := hd.cells
  obtain ⟨ao, cap, rfl, hlc, hc9, hg⟩ := h
  obtain ⟨L, hL⟩ : ∃ L, L = l.length := ⟨_, rfl⟩
  obtain ⟨N, hN⟩ : ∃ N, N = (l.take 256).length := ⟨_, rfl⟩
  have hNL : N = min 256 L := by rw [hN, hL, List.length_take]
  have hNi : min (L : Int) 256 = N := by omega
  have hNcap : (N : Int) ≤ cap := by omega
  have cB := byte_w (.slice ao N cap) (l.take 256) w (by
    have := HV.out.cut N (by rw [hN, List.length_take]; exact Nat.min_le_right _ _)
    rw [hN, List.length_take, ← List.take_eq_take_min] at this
    rw [hN, List.length_take]
    exact this)
  rw [St.index_upto] at cB
  rw [← hL] at hlc ⊢
  by_cases hu : St.upto 10 (l.take 256) = (l.take 256).length
  · rw [if_pos hu] at cB
    have hno := Ck.lineLen_no hu
    by_cases h9 : (L : Int) < 256
    · rw [if_neg (by omega)] at hno
      have HR : Hid (Ck.lineLen l = (0, 0)) := Lib.hid hno
      have h9' : ¬ (256 : Int) ≤ L := by omega
      clear hg HV hL hN hNL hu hno hl hd c1 c2 c3 c4
      go_enter Tryz.func113, Tryz.ntmps113
      go_wp2_with fail
      refine cB.mono ?_
      rintro e W1 ⟨rfl, rfl⟩
      go_wp2_with fail
      go_ret2
      rw [HR.out]
      exact ⟨⟨_, rfl, fun _ W hW => Part.of hW 0 (Nat.zero_le _)⟩, rfl⟩
    · rw [if_pos (by omega)] at hno
      have HR : Hid (Ck.lineLen l = (0, 12)) := Lib.hid hno
      have h9' : (256 : Int) ≤ L := by omega
      clear hg HV hL hN hNL hu hno hl hd c1 c2 c3 c4
      go_enter Tryz.func113, Tryz.ntmps113
      go_wp2_with fail
      refine cB.mono ?_
      rintro e W1 ⟨rfl, rfl⟩
      go_wp2_with fail
      go_ret2
      rw [HR.out]
      exact ⟨⟨_, rfl, fun h => absurd h (by decide)⟩, rfl⟩
  · rw [if_neg hu] at cB
    obtain ⟨hy, f1, f2, f3⟩ := Ck.lineLen_yes hu
    rw [f1] at cB
    have HR : Hid (Ck.lineLen l = (St.upto 10 l + 1, 0)) := Lib.hid hy
    have HLE : Hid (St.upto 10 l + 1 ≤ l.length) := Lib.hid f2
    generalize St.upto 10 l = u at *
    have hu1 : (0 : Int) ≤ (u : Int) + 1 := by omega
    have huz : ¬ ((u : Int) + 1 = 0) := by omega
    have hub : ((u : Int) + 1 == 0) = false := beq_eq_false_iff_ne.2 huz
    have huc : (u : Int) + 1 ≤ cap := by omega
    clear hg HV hL hN hNL hu hl hd c1 c2 c3 c4 hy f1 f2 f3
    go_enter Tryz.func113, Tryz.ntmps113
    go_wp2_with fail
    refine cB.mono ?_
    rintro e W1 ⟨rfl, rfl⟩
    go_wp2_with fail
    go_ret2
    rw [HR.out]
    exact ⟨⟨_, rfl, fun _ W hW => Part.of hW _ HLE.out⟩, rfl⟩
set_option maxHeartbeats 6400000 in
set_option maxRecDepth 100000 in
theorem next_data (g : Nat) (n : Nat) (t k e : Int) (v : Value) (l : List UInt8) (w : World) (_hl : l.length ≤ 10000000) (hd : DAt w g 1 n t k e) (h : BIn w v l) :
    Calls Tryz.prog 113 #[.pointer (some ⟨g, 0, none⟩), v] w fun x w' => (∃ u, x = .returned (.tuple #[u, .int .i64 0]) ∧ ∀ W, BIn W v l → Part W u (l.take (min l.length n))) ∧ w = w' := by
  have HV := Lib.hid h
  obtain ⟨c0, c1, c2, c3, c4⟩ := hd.cells
  obtain ⟨ao, cap, rfl, hlc, hc9, hg⟩ := h
  obtain ⟨N, hN⟩ : ∃ N, N = min l.length n := ⟨_, rfl⟩
  have hNi : min (l.length : Int) n = N := by omega
  have hNc : (N : Int) ≤ cap := by omega
  have hN0 : (0 : Int) ≤ N := by omega
  have HLE : Hid (N ≤ l.length) := Lib.hid (by omega)
  rw [← hN]
  obtain ⟨L, hL⟩ : ∃ L, L = l.length := ⟨_, rfl⟩
  rw [← hL] at hNi ⊢
  clear hg HV hN hd c2 c3 c4 hL hlc
  go_enter Tryz.func113, Tryz.ntmps113
  go_wp2_with fail
  go_ret2
  exact ⟨⟨_, rfl, fun W hW => Part.of hW _ HLE.out⟩, rfl⟩
set_option maxHeartbeats 6400000 in
set_option maxRecDepth 100000 in
theorem next_tail (g : Nat) (n t k e : Int) (v : Value) (l : List UInt8) (w : World) (_hl : l.length ≤ 10000000) (hd : DAt w g 2 n t k e) (h : BIn w v l) :
    Calls Tryz.prog 113 #[.pointer (some ⟨g, 0, none⟩), v] w fun x w' => (∃ u, x = .returned (.tuple #[u, .int .i64 0]) ∧ ∀ W, BIn W v l → Part W u (l.take (if 2 ≤ l.length then 2 else 0))) ∧ w = w' := by
  have HV := Lib.hid h
  obtain ⟨c0, c1, c2, c3, c4⟩ := hd.cells
  obtain ⟨ao, cap, rfl, hlc, hc9, hg⟩ := h
  by_cases h2 : 2 ≤ l.length
  · rw [if_pos h2]
    have HLE : Hid (2 ≤ l.length) := Lib.hid h2
    obtain ⟨L, hL⟩ : ∃ L, L = l.length := ⟨_, rfl⟩
    rw [← hL] at h2 hlc ⊢
    have h2i : (2 : Int) ≤ L := by omega
    have h2c : (2 : Int) ≤ cap := by omega
    clear hg HV hd c1 c2 c3 c4 hL h2
    go_enter Tryz.func113, Tryz.ntmps113
    go_wp2_with fail
    go_ret2
    exact ⟨⟨_, rfl, fun W hW => Part.of hW _ HLE.out⟩, rfl⟩
  · rw [if_neg h2]
    obtain ⟨L, hL⟩ : ∃ L, L = l.length := ⟨_, rfl⟩
    rw [← hL] at h2 hlc ⊢
    have h2i : ¬ (2 : Int) ≤ L := by omega
    have h2j : (L : Int) < 2 := by omega
    clear hg HV hd c1 c2 c3 c4 hL h2
    go_enter Tryz.func113, Tryz.ntmps113
    go_wp2_with fail
    go_ret2
    exact ⟨⟨_, rfl, fun W hW => Part.of hW _ (Nat.zero_le _)⟩, rfl⟩
set_option maxHeartbeats 6400000 in
set_option maxRecDepth 100000 in
theorem next_over (g : Nat) (n t k e : Int) (v : Value) (l : List UInt8) (w : World) (hd : DAt w g 4 n t k e) (h : BIn w v l) :
    Calls Tryz.prog 113 #[.pointer (some ⟨g, 0, none⟩), v] w fun x w' => (∃ u, x = .returned (.tuple #[u, .int .i64 0]) ∧ ∀ W, BIn W v l → Part W u (l.take 0)) ∧ w = w' := by
  have HV := Lib.hid h
  obtain ⟨c0, c1, c2, c3, c4⟩ := hd.cells
  obtain ⟨ao, cap, rfl, hlc, hc9, hg⟩ := h
  clear hg HV hd c1 c2 c3 c4
  go_enter Tryz.func113, Tryz.ntmps113
  go_wp2_with fail
  go_ret2
  exact ⟨⟨_, rfl, fun W hW => Part.of hW _ (Nat.zero_le _)⟩, rfl⟩
/-- What is awaited, as much as stands there. -/
theorem next_w (g : Nat) (s : Ck.S) (v : Value) (l : List UInt8) (w : World) (hl : l.length ≤ 10000000) (hd : Dst w g s 0) (h : BIn w v l) :
    Calls Tryz.prog 113 #[.pointer (some ⟨g, 0, none⟩), v] w fun x w' => (∃ u, x = .returned (.tuple #[u, .int .i64 (Ck.nx s l).2]) ∧ ((Ck.nx s l).2 = 0 → ∀ W, BIn W v l → Part W u (l.take (Ck.nx s l).1))) ∧ w = w' := by
  obtain ⟨_, hd⟩ := hd
  cases s with
  | size t => exact next_line0 g _ _ _ _ v l w hl hd h
  | data t n => exact (next_data g n _ _ _ v l w hl hd h).mono fun x w' ⟨⟨u, h1, h2⟩, h3⟩ => ⟨⟨u, h1, fun _ => h2⟩, h3⟩
  | tail t => exact (next_tail g _ _ _ _ v l w hl hd h).mono fun x w' ⟨⟨u, h1, h2⟩, h3⟩ => ⟨⟨u, h1, fun _ => h2⟩, h3⟩
  | trail k => obtain ⟨t, hd⟩ := hd; exact next_line3 g _ _ _ _ v l w hl hd h
  | over => obtain ⟨t, k, hd⟩ := hd; exact (next_over g _ _ _ _ v l w hd h).mono fun x w' ⟨⟨u, h1, h2⟩, h3⟩ => ⟨⟨u, h1, fun _ => h2⟩, h3⟩
end Go.Proofs.YtlbjjeonchcgbaaGreatDoor

namespace Ck
theorem cut_semi (l : L) : Go.Lib.cut l [59] = if St.upto 59 l < l.length then (l.take (St.upto 59 l), l.drop (St.upto 59 l + 1), true) else (l, [], false) := by
  have hle := St.upto_le 59 l
  have hs : Go.Lib.index l [59] = if St.upto 59 l = l.length then -1 else (St.upto 59 l : Int) := by
    rw [← St.index_upto, Go.Lib.index_one]
  unfold Go.Lib.cut
  rw [hs]
  by_cases hu : St.upto 59 l = l.length
  · rw [if_pos hu, if_neg (by decide), if_neg (by omega)]
  · rw [if_neg hu, if_pos (by omega)]
    simp
    omega
theorem trim_len (p : L) : (Go.Lib.trimSuffix p [13, 10]).length ≤ p.length := by
  unfold Go.Lib.trimSuffix
  split
  · rw [List.length_take]; omega
  · exact Nat.le_refl _
theorem digs_len (s : L) : (digs s).length ≤ s.length := by
  unfold digs
  split
  · exact Nat.le_trans (Oct.dropR_len _) (by rw [List.length_take]; exact Nat.min_le_right _ _)
  · exact Nat.le_refl _
end Ck
namespace Go.Proofs.YtlbjjeonchcgbaaGreatDoor
open Go.RowKit

theorem TrimR_s (s : ByteArray) (w : World) (hs : s.size ≤ 1000000) :
    Calls Tryz.prog 156 #[.string s, .string ⟨#[32, 9]⟩] w fun e w' => e = .returned (.string (str (Oct.dropR s.data.toList))) ∧ Below w.heap.size w w' := by
  have := Any.strings_TrimRight_laid Tryz.lays162 (by kernel_rfl) s ⟨#[32, 9]⟩ w (by omega) (by decide) (ascii_of_all (by decide))
  rw [← Oct.trimR_eq]
  exact this
/-- Cut at the semicolon. -/
theorem Semi_yes (s : List UInt8) (w : World) (hs : s.length ≤ 1000000) (hm : MaxOk w) (h : St.upto 59 s < s.length) :
    Calls Tryz.prog 135 #[.string (str s), .string ⟨#[59]⟩] w fun e w' => e = .returned (.tuple #[.string (str (s.take (St.upto 59 s))), .string (str (Ck.extn s)), .bool true]) ∧ Below w.heap.size w w' := by
  obtain ⟨m, hm⟩ := hm
  have := Tryz.strings_Cut (str s) ⟨#[59]⟩ m w (by rw [str_size]; omega) hm
  rw [str_list, show (⟨#[59]⟩ : ByteArray).data.toList = [59] from rfl, Ck.cut_semi, if_pos h] at this
  exact this.mono fun _ _ ⟨he, n, hw⟩ => ⟨he, by rw [hw]; exact bdrewN w n⟩
theorem Semi_no (s : List UInt8) (w : World) (hs : s.length ≤ 1000000) (hm : MaxOk w) (h : ¬ St.upto 59 s < s.length) :
    Calls Tryz.prog 135 #[.string (str s), .string ⟨#[59]⟩] w fun e w' => e = .returned (.tuple #[.string (str s), .string (str (Ck.extn s)), .bool false]) ∧ Below w.heap.size w w' := by
  obtain ⟨m, hm⟩ := hm
  have := Tryz.strings_Cut (str s) ⟨#[59]⟩ m w (by rw [str_size]; omega) hm
  have hle := St.upto_le 59 s
  have he0 : Ck.extn s = [] := by unfold Ck.extn; rw [List.drop_of_length_le (by omega)]
  rw [str_list, show (⟨#[59]⟩ : ByteArray).data.toList = [59] from rfl, Ck.cut_semi, if_neg h] at this
  rw [he0]
  exact this.mono fun _ _ ⟨he, n, hw⟩ => ⟨he, by rw [hw]; exact bdrewN w n⟩

set_option maxHeartbeats 3200000 in
set_option maxRecDepth 100000 in
theorem size_form_y (g t : Nat) (p : List UInt8) (w : World) (hp : p.length ≤ 1000) (ht : t ≤ 1048576) (hd : DAt w g 0 0 t 0 0) (hm : MaxOk w) (hs : Lib.hasSuffix p [13, 10] = false) (hsem : St.upto 59 (Lib.trimSuffix p [13, 10]) < (Lib.trimSuffix p [13, 10]).length) :
    Calls Tryz.prog 136 #[.pointer (some ⟨g, 0, none⟩), .string (str p)] w fun x w' => x = .returned (.int .i64 (Ck.tkSize t p).2) ∧ But g w w' ∧ Dst w' g (Ck.tkSize t p).1 0 := by
  have HA : Hid (∀ W : World, Below w.heap.size w W → DAt W g 0 0 t 0 0) := Lib.hid (fun W hb => hd.later hb)
  have HD : Hid (∀ W : World, Below w.heap.size w W → Dst W g (.size t) 0) := Lib.hid (fun W hb => ⟨ht, hd.later hb⟩)
  have cX := Cut_w (str p) w (by rw [str_size]; omega)
  rw [str_list] at cX
  have hlen : (Lib.trimSuffix p [13, 10]).length ≤ 1000 := Nat.le_trans (Ck.trim_len p) hp
  have cS := Semi_yes (Lib.trimSuffix p [13, 10]) w (by omega) hm hsem
  have hdl := Ck.digs_len (Lib.trimSuffix p [13, 10])
  have hel : (Ck.extn (Lib.trimSuffix p [13, 10])).length ≤ 1000 := by unfold Ck.extn; rw [List.length_drop]; omega
  have cR := fun (W : World) => TrimR_s (str ((Lib.trimSuffix p [13, 10]).take (St.upto 59 (Lib.trimSuffix p [13, 10])))) W (by rw [str_size, List.length_take]; omega)
  have hdg : Ck.digs (Lib.trimSuffix p [13, 10]) = Oct.dropR ((Lib.trimSuffix p [13, 10]).take (St.upto 59 (Lib.trimSuffix p [13, 10]))) := by unfold Ck.digs; rw [if_pos hsem]
  rw [str_list, ← hdg] at cR
  have hds : (str (Ck.digs (Lib.trimSuffix p [13, 10]))).size = (Ck.digs (Lib.trimSuffix p [13, 10])).length := str_size _
  have cT := fun (W : World) => Trim_s (str (Ck.extn (Lib.trimSuffix p [13, 10]))) W (by rw [str_size]; omega)
  rw [str_list] at cT
  have cV := fun (W : World) => Value_s (str (Oct.trim (Ck.extn (Lib.trimSuffix p [13, 10])))) W (by rw [str_size]; have := Oct.trim_len (Ck.extn (Lib.trimSuffix p [13, 10])); omega)
  rw [str_list] at cV
  have HT := Lib.hid (Ck.tkSize_bad (t := t) (.inl hs))
  rw [hs] at cX
  clear cT cV hds hel hdl
  clear hdg hlen hd hm hp hs hsem ht
  generalize str (Ck.digs (Lib.trimSuffix p [13, 10])) = D at *
  generalize str (Ck.extn (Lib.trimSuffix p [13, 10])) = E at *
  generalize str ((Lib.trimSuffix p [13, 10]).take (St.upto 59 (Lib.trimSuffix p [13, 10]))) = E0 at *
  generalize str (Lib.trimSuffix p [13, 10]) = Y at *
  generalize str p = X at *
  go_enter Tryz.func136, Tryz.ntmps136
  go_wp2_with fail
  refine cX.mono ?_
  rintro e W1 ⟨rfl, rfl⟩
  go_wp2_with fail
  refine cS.mono ?_
  rintro e W2 ⟨rfl, hb2⟩
  go_wp2_with fail
  refine (cR W2).mono ?_
  rintro e W3 ⟨rfl, hb3'⟩
  have hb3 := bt5 hb2 hb3'
  go_wp2_with fail
  go_ret
  exact ⟨by rw [HT.out]; rfl, But.of hb3, by rw [HT.out]; exact HD.out _ hb3⟩
set_option maxHeartbeats 3200000 in
set_option maxRecDepth 100000 in
theorem size_form_n (g t : Nat) (p : List UInt8) (w : World) (hp : p.length ≤ 1000) (ht : t ≤ 1048576) (hd : DAt w g 0 0 t 0 0) (hm : MaxOk w) (hs : Lib.hasSuffix p [13, 10] = false) (hsem : ¬ St.upto 59 (Lib.trimSuffix p [13, 10]) < (Lib.trimSuffix p [13, 10]).length) :
    Calls Tryz.prog 136 #[.pointer (some ⟨g, 0, none⟩), .string (str p)] w fun x w' => x = .returned (.int .i64 (Ck.tkSize t p).2) ∧ But g w w' ∧ Dst w' g (Ck.tkSize t p).1 0 := by
  have HA : Hid (∀ W : World, Below w.heap.size w W → DAt W g 0 0 t 0 0) := Lib.hid (fun W hb => hd.later hb)
  have HD : Hid (∀ W : World, Below w.heap.size w W → Dst W g (.size t) 0) := Lib.hid (fun W hb => ⟨ht, hd.later hb⟩)
  have cX := Cut_w (str p) w (by rw [str_size]; omega)
  rw [str_list] at cX
  have hlen : (Lib.trimSuffix p [13, 10]).length ≤ 1000 := Nat.le_trans (Ck.trim_len p) hp
  have cS := Semi_no (Lib.trimSuffix p [13, 10]) w (by omega) hm hsem
  have hdl := Ck.digs_len (Lib.trimSuffix p [13, 10])
  have hel : (Ck.extn (Lib.trimSuffix p [13, 10])).length ≤ 1000 := by unfold Ck.extn; rw [List.length_drop]; omega
  have hdg : Ck.digs (Lib.trimSuffix p [13, 10]) = Lib.trimSuffix p [13, 10] := by unfold Ck.digs; rw [if_neg hsem]
  have cS : Calls Tryz.prog 135 #[.string (str (Lib.trimSuffix p [13, 10])), .string ⟨#[59]⟩] w fun e w' => e = .returned (.tuple #[.string (str (Ck.digs (Lib.trimSuffix p [13, 10]))), .string (str (Ck.extn (Lib.trimSuffix p [13, 10]))), .bool false]) ∧ Below w.heap.size w w' := by rw [hdg]; exact cS
  have hds : (str (Ck.digs (Lib.trimSuffix p [13, 10]))).size = (Ck.digs (Lib.trimSuffix p [13, 10])).length := str_size _
  have cT := fun (W : World) => Trim_s (str (Ck.extn (Lib.trimSuffix p [13, 10]))) W (by rw [str_size]; omega)
  rw [str_list] at cT
  have cV := fun (W : World) => Value_s (str (Oct.trim (Ck.extn (Lib.trimSuffix p [13, 10])))) W (by rw [str_size]; have := Oct.trim_len (Ck.extn (Lib.trimSuffix p [13, 10])); omega)
  rw [str_list] at cV
  have HT := Lib.hid (Ck.tkSize_bad (t := t) (.inl hs))
  rw [hs] at cX
  clear cT cV hds hel hdl
  clear hdg hlen hd hm hp hs hsem ht
  generalize str (Ck.digs (Lib.trimSuffix p [13, 10])) = D at *
  generalize str (Ck.extn (Lib.trimSuffix p [13, 10])) = E at *
  generalize str (Lib.trimSuffix p [13, 10]) = Y at *
  generalize str p = X at *
  go_enter Tryz.func136, Tryz.ntmps136
  go_wp2_with fail
  refine cX.mono ?_
  rintro e W1 ⟨rfl, rfl⟩
  go_wp2_with fail
  refine cS.mono ?_
  rintro e W2 ⟨rfl, hb2⟩
  go_wp2_with fail
  go_ret
  exact ⟨by rw [HT.out]; rfl, But.of hb2, by rw [HT.out]; exact HD.out _ hb2⟩
set_option maxHeartbeats 3200000 in
set_option maxRecDepth 100000 in
theorem size_digits_y (g t : Nat) (p : List UInt8) (w : World) (hp : p.length ≤ 1000) (ht : t ≤ 1048576) (hd : DAt w g 0 0 t 0 0) (hm : MaxOk w) (hs : Lib.hasSuffix p [13, 10] = true) (h8 : 8 < (Ck.digs (Lib.trimSuffix p [13, 10])).length) (hsem : St.upto 59 (Lib.trimSuffix p [13, 10]) < (Lib.trimSuffix p [13, 10]).length) :
    Calls Tryz.prog 136 #[.pointer (some ⟨g, 0, none⟩), .string (str p)] w fun x w' => x = .returned (.int .i64 (Ck.tkSize t p).2) ∧ But g w w' ∧ Dst w' g (Ck.tkSize t p).1 0 := by
  have HA : Hid (∀ W : World, Below w.heap.size w W → DAt W g 0 0 t 0 0) := Lib.hid (fun W hb => hd.later hb)
  have HD : Hid (∀ W : World, Below w.heap.size w W → Dst W g (.size t) 0) := Lib.hid (fun W hb => ⟨ht, hd.later hb⟩)
  have cX := Cut_w (str p) w (by rw [str_size]; omega)
  rw [str_list] at cX
  have hlen : (Lib.trimSuffix p [13, 10]).length ≤ 1000 := Nat.le_trans (Ck.trim_len p) hp
  have cS := Semi_yes (Lib.trimSuffix p [13, 10]) w (by omega) hm hsem
  have hdl := Ck.digs_len (Lib.trimSuffix p [13, 10])
  have hel : (Ck.extn (Lib.trimSuffix p [13, 10])).length ≤ 1000 := by unfold Ck.extn; rw [List.length_drop]; omega
  have cR := fun (W : World) => TrimR_s (str ((Lib.trimSuffix p [13, 10]).take (St.upto 59 (Lib.trimSuffix p [13, 10])))) W (by rw [str_size, List.length_take]; omega)
  have hdg : Ck.digs (Lib.trimSuffix p [13, 10]) = Oct.dropR ((Lib.trimSuffix p [13, 10]).take (St.upto 59 (Lib.trimSuffix p [13, 10]))) := by unfold Ck.digs; rw [if_pos hsem]
  rw [str_list, ← hdg] at cR
  have hds : (str (Ck.digs (Lib.trimSuffix p [13, 10]))).size = (Ck.digs (Lib.trimSuffix p [13, 10])).length := str_size _
  have cT := fun (W : World) => Trim_s (str (Ck.extn (Lib.trimSuffix p [13, 10]))) W (by rw [str_size]; omega)
  rw [str_list] at cT
  have cV := fun (W : World) => Value_s (str (Oct.trim (Ck.extn (Lib.trimSuffix p [13, 10])))) W (by rw [str_size]; have := Oct.trim_len (Ck.extn (Lib.trimSuffix p [13, 10])); omega)
  rw [str_list] at cV
  have HT := Lib.hid (Ck.tkSize_bad (t := t) (p := p) (.inr (.inl h8)))
  rw [hs] at cX
  obtain ⟨K, hK⟩ : ∃ K, K = (Ck.digs (Lib.trimSuffix p [13, 10])).length := ⟨_, rfl⟩
  rw [← hK] at hds h8
  have hdz2 : (8 : Int) < ((str (Ck.digs (Lib.trimSuffix p [13, 10]))).size : Int) := by omega
  clear cT cV hel hdl hK hds h8
  clear hdg hlen hd hm hp hs hsem ht
  generalize str (Ck.digs (Lib.trimSuffix p [13, 10])) = D at *
  generalize str (Ck.extn (Lib.trimSuffix p [13, 10])) = E at *
  generalize str ((Lib.trimSuffix p [13, 10]).take (St.upto 59 (Lib.trimSuffix p [13, 10]))) = E0 at *
  generalize str (Lib.trimSuffix p [13, 10]) = Y at *
  generalize str p = X at *
  go_enter Tryz.func136, Tryz.ntmps136
  go_wp2_with fail
  refine cX.mono ?_
  rintro e W1 ⟨rfl, rfl⟩
  go_wp2_with fail
  refine cS.mono ?_
  rintro e W2 ⟨rfl, hb2⟩
  go_wp2_with fail
  refine (cR W2).mono ?_
  rintro e W3 ⟨rfl, hb3'⟩
  have hb3 := bt5 hb2 hb3'
  go_wp2_with fail
  go_ret
  exact ⟨by rw [HT.out]; rfl, But.of hb3, by rw [HT.out]; exact HD.out _ hb3⟩
set_option maxHeartbeats 3200000 in
set_option maxRecDepth 100000 in
theorem size_digits_n (g t : Nat) (p : List UInt8) (w : World) (hp : p.length ≤ 1000) (ht : t ≤ 1048576) (hd : DAt w g 0 0 t 0 0) (hm : MaxOk w) (hs : Lib.hasSuffix p [13, 10] = true) (h8 : 8 < (Ck.digs (Lib.trimSuffix p [13, 10])).length) (hsem : ¬ St.upto 59 (Lib.trimSuffix p [13, 10]) < (Lib.trimSuffix p [13, 10]).length) :
    Calls Tryz.prog 136 #[.pointer (some ⟨g, 0, none⟩), .string (str p)] w fun x w' => x = .returned (.int .i64 (Ck.tkSize t p).2) ∧ But g w w' ∧ Dst w' g (Ck.tkSize t p).1 0 := by
  have HA : Hid (∀ W : World, Below w.heap.size w W → DAt W g 0 0 t 0 0) := Lib.hid (fun W hb => hd.later hb)
  have HD : Hid (∀ W : World, Below w.heap.size w W → Dst W g (.size t) 0) := Lib.hid (fun W hb => ⟨ht, hd.later hb⟩)
  have cX := Cut_w (str p) w (by rw [str_size]; omega)
  rw [str_list] at cX
  have hlen : (Lib.trimSuffix p [13, 10]).length ≤ 1000 := Nat.le_trans (Ck.trim_len p) hp
  have cS := Semi_no (Lib.trimSuffix p [13, 10]) w (by omega) hm hsem
  have hdl := Ck.digs_len (Lib.trimSuffix p [13, 10])
  have hel : (Ck.extn (Lib.trimSuffix p [13, 10])).length ≤ 1000 := by unfold Ck.extn; rw [List.length_drop]; omega
  have hdg : Ck.digs (Lib.trimSuffix p [13, 10]) = Lib.trimSuffix p [13, 10] := by unfold Ck.digs; rw [if_neg hsem]
  have cS : Calls Tryz.prog 135 #[.string (str (Lib.trimSuffix p [13, 10])), .string ⟨#[59]⟩] w fun e w' => e = .returned (.tuple #[.string (str (Ck.digs (Lib.trimSuffix p [13, 10]))), .string (str (Ck.extn (Lib.trimSuffix p [13, 10]))), .bool false]) ∧ Below w.heap.size w w' := by rw [hdg]; exact cS
  have hds : (str (Ck.digs (Lib.trimSuffix p [13, 10]))).size = (Ck.digs (Lib.trimSuffix p [13, 10])).length := str_size _
  have cT := fun (W : World) => Trim_s (str (Ck.extn (Lib.trimSuffix p [13, 10]))) W (by rw [str_size]; omega)
  rw [str_list] at cT
  have cV := fun (W : World) => Value_s (str (Oct.trim (Ck.extn (Lib.trimSuffix p [13, 10])))) W (by rw [str_size]; have := Oct.trim_len (Ck.extn (Lib.trimSuffix p [13, 10])); omega)
  rw [str_list] at cV
  have HT := Lib.hid (Ck.tkSize_bad (t := t) (p := p) (.inr (.inl h8)))
  rw [hs] at cX
  obtain ⟨K, hK⟩ : ∃ K, K = (Ck.digs (Lib.trimSuffix p [13, 10])).length := ⟨_, rfl⟩
  rw [← hK] at hds h8
  have hdz2 : (8 : Int) < ((str (Ck.digs (Lib.trimSuffix p [13, 10]))).size : Int) := by omega
  clear cT cV hel hdl hK hds h8
  clear hdg hlen hd hm hp hs hsem ht
  generalize str (Ck.digs (Lib.trimSuffix p [13, 10])) = D at *
  generalize str (Ck.extn (Lib.trimSuffix p [13, 10])) = E at *
  generalize str (Lib.trimSuffix p [13, 10]) = Y at *
  generalize str p = X at *
  go_enter Tryz.func136, Tryz.ntmps136
  go_wp2_with fail
  refine cX.mono ?_
  rintro e W1 ⟨rfl, rfl⟩
  go_wp2_with fail
  refine cS.mono ?_
  rintro e W2 ⟨rfl, hb2⟩
  go_wp2_with fail
  go_ret
  exact ⟨by rw [HT.out]; rfl, But.of hb2, by rw [HT.out]; exact HD.out _ hb2⟩
set_option maxHeartbeats 3200000 in
set_option maxRecDepth 100000 in
theorem size_value_y (g t : Nat) (p : List UInt8) (w : World) (hp : p.length ≤ 1000) (ht : t ≤ 1048576) (hd : DAt w g 0 0 t 0 0) (hm : MaxOk w) (hs : Lib.hasSuffix p [13, 10] = true) (h8 : (Ck.digs (Lib.trimSuffix p [13, 10])).length ≤ 8) (hv : Oct.value (Oct.trim (Ck.extn (Lib.trimSuffix p [13, 10]))) = false) (hsem : St.upto 59 (Lib.trimSuffix p [13, 10]) < (Lib.trimSuffix p [13, 10]).length) :
    Calls Tryz.prog 136 #[.pointer (some ⟨g, 0, none⟩), .string (str p)] w fun x w' => x = .returned (.int .i64 (Ck.tkSize t p).2) ∧ But g w w' ∧ Dst w' g (Ck.tkSize t p).1 0 := by
  have HA : Hid (∀ W : World, Below w.heap.size w W → DAt W g 0 0 t 0 0) := Lib.hid (fun W hb => hd.later hb)
  have HD : Hid (∀ W : World, Below w.heap.size w W → Dst W g (.size t) 0) := Lib.hid (fun W hb => ⟨ht, hd.later hb⟩)
  have cX := Cut_w (str p) w (by rw [str_size]; omega)
  rw [str_list] at cX
  have hlen : (Lib.trimSuffix p [13, 10]).length ≤ 1000 := Nat.le_trans (Ck.trim_len p) hp
  have cS := Semi_yes (Lib.trimSuffix p [13, 10]) w (by omega) hm hsem
  have hdl := Ck.digs_len (Lib.trimSuffix p [13, 10])
  have hel : (Ck.extn (Lib.trimSuffix p [13, 10])).length ≤ 1000 := by unfold Ck.extn; rw [List.length_drop]; omega
  have cR := fun (W : World) => TrimR_s (str ((Lib.trimSuffix p [13, 10]).take (St.upto 59 (Lib.trimSuffix p [13, 10])))) W (by rw [str_size, List.length_take]; omega)
  have hdg : Ck.digs (Lib.trimSuffix p [13, 10]) = Oct.dropR ((Lib.trimSuffix p [13, 10]).take (St.upto 59 (Lib.trimSuffix p [13, 10]))) := by unfold Ck.digs; rw [if_pos hsem]
  rw [str_list, ← hdg] at cR
  have hds : (str (Ck.digs (Lib.trimSuffix p [13, 10]))).size = (Ck.digs (Lib.trimSuffix p [13, 10])).length := str_size _
  have cT := fun (W : World) => Trim_s (str (Ck.extn (Lib.trimSuffix p [13, 10]))) W (by rw [str_size]; omega)
  rw [str_list] at cT
  have cV := fun (W : World) => Value_s (str (Oct.trim (Ck.extn (Lib.trimSuffix p [13, 10])))) W (by rw [str_size]; have := Oct.trim_len (Ck.extn (Lib.trimSuffix p [13, 10])); omega)
  rw [str_list] at cV
  have HT := Lib.hid (Ck.tkSize_bad (t := t) (p := p) (.inr (.inr hv)))
  rw [hs] at cX
  rw [hv] at cV
  have hdz : ¬ (8 : Int) < ((str (Ck.digs (Lib.trimSuffix p [13, 10]))).size : Int) := by omega
  clear hel hdl hds h8 hv
  clear hdg hlen hd hm hp hs hsem ht
  generalize str (Ck.digs (Lib.trimSuffix p [13, 10])) = D at *
  generalize str (Oct.trim (Ck.extn (Lib.trimSuffix p [13, 10]))) = E2 at *
  generalize str (Ck.extn (Lib.trimSuffix p [13, 10])) = E at *
  generalize str ((Lib.trimSuffix p [13, 10]).take (St.upto 59 (Lib.trimSuffix p [13, 10]))) = E0 at *
  generalize str (Lib.trimSuffix p [13, 10]) = Y at *
  generalize str p = X at *
  go_enter Tryz.func136, Tryz.ntmps136
  go_wp2_with fail
  refine cX.mono ?_
  rintro e W1 ⟨rfl, rfl⟩
  go_wp2_with fail
  refine cS.mono ?_
  rintro e W2 ⟨rfl, hb2⟩
  go_wp2_with fail
  refine (cR W2).mono ?_
  rintro e W3 ⟨rfl, hb3'⟩
  have hb3 := bt5 hb2 hb3'
  go_wp2_with fail
  refine (cT W3).mono ?_
  rintro e W4 ⟨rfl, hb4'⟩
  have hb4 := bt5 hb3 hb4'
  go_wp2_with fail
  refine (cV W4).mono ?_
  rintro e W5 ⟨rfl, hb5'⟩
  have hb5 := bt5 hb4 hb5'
  go_wp2_with fail
  go_ret
  exact ⟨by rw [HT.out]; rfl, But.of hb5, by rw [HT.out]; exact HD.out _ hb5⟩
set_option maxHeartbeats 3200000 in
set_option maxRecDepth 100000 in
theorem size_value_n (g t : Nat) (p : List UInt8) (w : World) (hp : p.length ≤ 1000) (ht : t ≤ 1048576) (hd : DAt w g 0 0 t 0 0) (hm : MaxOk w) (hs : Lib.hasSuffix p [13, 10] = true) (h8 : (Ck.digs (Lib.trimSuffix p [13, 10])).length ≤ 8) (hv : Oct.value (Oct.trim (Ck.extn (Lib.trimSuffix p [13, 10]))) = false) (hsem : ¬ St.upto 59 (Lib.trimSuffix p [13, 10]) < (Lib.trimSuffix p [13, 10]).length) :
    Calls Tryz.prog 136 #[.pointer (some ⟨g, 0, none⟩), .string (str p)] w fun x w' => x = .returned (.int .i64 (Ck.tkSize t p).2) ∧ But g w w' ∧ Dst w' g (Ck.tkSize t p).1 0 := by
  have HA : Hid (∀ W : World, Below w.heap.size w W → DAt W g 0 0 t 0 0) := Lib.hid (fun W hb => hd.later hb)
  have HD : Hid (∀ W : World, Below w.heap.size w W → Dst W g (.size t) 0) := Lib.hid (fun W hb => ⟨ht, hd.later hb⟩)
  have cX := Cut_w (str p) w (by rw [str_size]; omega)
  rw [str_list] at cX
  have hlen : (Lib.trimSuffix p [13, 10]).length ≤ 1000 := Nat.le_trans (Ck.trim_len p) hp
  have cS := Semi_no (Lib.trimSuffix p [13, 10]) w (by omega) hm hsem
  have hdl := Ck.digs_len (Lib.trimSuffix p [13, 10])
  have hel : (Ck.extn (Lib.trimSuffix p [13, 10])).length ≤ 1000 := by unfold Ck.extn; rw [List.length_drop]; omega
  have hdg : Ck.digs (Lib.trimSuffix p [13, 10]) = Lib.trimSuffix p [13, 10] := by unfold Ck.digs; rw [if_neg hsem]
  have cS : Calls Tryz.prog 135 #[.string (str (Lib.trimSuffix p [13, 10])), .string ⟨#[59]⟩] w fun e w' => e = .returned (.tuple #[.string (str (Ck.digs (Lib.trimSuffix p [13, 10]))), .string (str (Ck.extn (Lib.trimSuffix p [13, 10]))), .bool false]) ∧ Below w.heap.size w w' := by rw [hdg]; exact cS
  have hds : (str (Ck.digs (Lib.trimSuffix p [13, 10]))).size = (Ck.digs (Lib.trimSuffix p [13, 10])).length := str_size _
  have cT := fun (W : World) => Trim_s (str (Ck.extn (Lib.trimSuffix p [13, 10]))) W (by rw [str_size]; omega)
  rw [str_list] at cT
  have cV := fun (W : World) => Value_s (str (Oct.trim (Ck.extn (Lib.trimSuffix p [13, 10])))) W (by rw [str_size]; have := Oct.trim_len (Ck.extn (Lib.trimSuffix p [13, 10])); omega)
  rw [str_list] at cV
  have HT := Lib.hid (Ck.tkSize_bad (t := t) (p := p) (.inr (.inr hv)))
  rw [hs] at cX
  rw [hv] at cV
  have hdz : ¬ (8 : Int) < ((str (Ck.digs (Lib.trimSuffix p [13, 10]))).size : Int) := by omega
  clear hel hdl hds h8 hv
  clear hdg hlen hd hm hp hs hsem ht
  generalize str (Ck.digs (Lib.trimSuffix p [13, 10])) = D at *
  generalize str (Oct.trim (Ck.extn (Lib.trimSuffix p [13, 10]))) = E2 at *
  generalize str (Ck.extn (Lib.trimSuffix p [13, 10])) = E at *
  generalize str (Lib.trimSuffix p [13, 10]) = Y at *
  generalize str p = X at *
  go_enter Tryz.func136, Tryz.ntmps136
  go_wp2_with fail
  refine cX.mono ?_
  rintro e W1 ⟨rfl, rfl⟩
  go_wp2_with fail
  refine cS.mono ?_
  rintro e W2 ⟨rfl, hb2⟩
  go_wp2_with fail
  refine (cT W2).mono ?_
  rintro e W4 ⟨rfl, hb4'⟩
  have hb4 := bt5 hb2 hb4'
  go_wp2_with fail
  refine (cV W4).mono ?_
  rintro e W5 ⟨rfl, hb5'⟩
  have hb5 := bt5 hb4 hb5'
  go_wp2_with fail
  go_ret
  exact ⟨by rw [HT.out]; rfl, But.of hb5, by rw [HT.out]; exact HD.out _ hb5⟩
set_option maxHeartbeats 3200000 in
set_option maxRecDepth 100000 in
theorem size_not_y (g t : Nat) (p : List UInt8) (w : World) (hp : p.length ≤ 1000) (ht : t ≤ 1048576) (hd : DAt w g 0 0 t 0 0) (hm : MaxOk w) (hs : Lib.hasSuffix p [13, 10] = true) (h8 : (Ck.digs (Lib.trimSuffix p [13, 10])).length ≤ 8) (hv : Oct.value (Oct.trim (Ck.extn (Lib.trimSuffix p [13, 10]))) = true) (er : Int) (he : er ≠ 0) (hn : Oct.number 16 ((1048576 - t : Nat) : Int) (Ck.digs (Lib.trimSuffix p [13, 10])) = (0, er)) (hT : Ck.tkSize t p = (.size t, er)) (hsem : St.upto 59 (Lib.trimSuffix p [13, 10]) < (Lib.trimSuffix p [13, 10]).length) :
    Calls Tryz.prog 136 #[.pointer (some ⟨g, 0, none⟩), .string (str p)] w fun x w' => x = .returned (.int .i64 (Ck.tkSize t p).2) ∧ But g w w' ∧ Dst w' g (Ck.tkSize t p).1 0 := by
  have HA : Hid (∀ W : World, Below w.heap.size w W → DAt W g 0 0 t 0 0) := Lib.hid (fun W hb => hd.later hb)
  have HD : Hid (∀ W : World, Below w.heap.size w W → Dst W g (.size t) 0) := Lib.hid (fun W hb => ⟨ht, hd.later hb⟩)
  have cX := Cut_w (str p) w (by rw [str_size]; omega)
  rw [str_list] at cX
  have hlen : (Lib.trimSuffix p [13, 10]).length ≤ 1000 := Nat.le_trans (Ck.trim_len p) hp
  have cS := Semi_yes (Lib.trimSuffix p [13, 10]) w (by omega) hm hsem
  have hdl := Ck.digs_len (Lib.trimSuffix p [13, 10])
  have hel : (Ck.extn (Lib.trimSuffix p [13, 10])).length ≤ 1000 := by unfold Ck.extn; rw [List.length_drop]; omega
  have cR := fun (W : World) => TrimR_s (str ((Lib.trimSuffix p [13, 10]).take (St.upto 59 (Lib.trimSuffix p [13, 10])))) W (by rw [str_size, List.length_take]; omega)
  have hdg : Ck.digs (Lib.trimSuffix p [13, 10]) = Oct.dropR ((Lib.trimSuffix p [13, 10]).take (St.upto 59 (Lib.trimSuffix p [13, 10]))) := by unfold Ck.digs; rw [if_pos hsem]
  rw [str_list, ← hdg] at cR
  have hds : (str (Ck.digs (Lib.trimSuffix p [13, 10]))).size = (Ck.digs (Lib.trimSuffix p [13, 10])).length := str_size _
  have cT := fun (W : World) => Trim_s (str (Ck.extn (Lib.trimSuffix p [13, 10]))) W (by rw [str_size]; omega)
  rw [str_list] at cT
  have cV := fun (W : World) => Value_s (str (Oct.trim (Ck.extn (Lib.trimSuffix p [13, 10])))) W (by rw [str_size]; have := Oct.trim_len (Ck.extn (Lib.trimSuffix p [13, 10])); omega)
  rw [str_list] at cV
  rw [hs] at cX
  rw [hv] at cV
  have hdz : ¬ (8 : Int) < ((str (Ck.digs (Lib.trimSuffix p [13, 10]))).size : Int) := by omega
  obtain ⟨M, hM⟩ : ∃ M : Int, M = ((1048576 - t : Nat) : Int) := ⟨_, rfl⟩
  have hMt : (1048576 : Int) - t = M := by omega
  have hM0 : (0 : Int) ≤ M := by omega
  have hM1 : M ≤ (1048576 : Int) := by omega
  have hti : (t : Int) ≤ 1048576 := by omega
  have HT := Lib.hid hT
  have cN := fun (W : World) => Hex_is (str (Ck.digs (Lib.trimSuffix p [13, 10]))) M 0 er W (by omega) (by omega) (by omega) (by rw [str_list, hM]; exact hn)
  have heb : (er != 0) = true := by simpa using he
  have heb2 : ¬ er = 0 := he
  clear hel hdl hds h8 hv hn hM hT he
  clear hdg hlen hd hm hp hs hsem ht
  generalize str (Ck.digs (Lib.trimSuffix p [13, 10])) = D at *
  generalize str (Oct.trim (Ck.extn (Lib.trimSuffix p [13, 10]))) = E2 at *
  generalize str (Ck.extn (Lib.trimSuffix p [13, 10])) = E at *
  generalize str ((Lib.trimSuffix p [13, 10]).take (St.upto 59 (Lib.trimSuffix p [13, 10]))) = E0 at *
  generalize str (Lib.trimSuffix p [13, 10]) = Y at *
  generalize str p = X at *
  go_enter Tryz.func136, Tryz.ntmps136
  go_wp2_with fail
  refine cX.mono ?_
  rintro e W1 ⟨rfl, rfl⟩
  go_wp2_with fail
  refine cS.mono ?_
  rintro e W2 ⟨rfl, hb2⟩
  go_wp2_with fail
  refine (cR W2).mono ?_
  rintro e W3 ⟨rfl, hb3'⟩
  have hb3 := bt5 hb2 hb3'
  go_wp2_with fail
  refine (cT W3).mono ?_
  rintro e W4 ⟨rfl, hb4'⟩
  have hb4 := bt5 hb3 hb4'
  go_wp2_with fail
  refine (cV W4).mono ?_
  rintro e W5 ⟨rfl, hb5'⟩
  have hb5 := bt5 hb4 hb5'
  have hd5 := HA.out W5 hb5
  obtain ⟨c0, c1, c2, c3, c4⟩ := hd5.cells
  go_wp2_with fail
  refine (cN W5).mono ?_
  rintro e W6 ⟨rfl, hb6'⟩
  have hb6 := bt5 hb5 hb6'
  clear c0 c1 c2 c3 c4 hd5
  go_wp2_with fail
  go_ret
  exact ⟨by rw [HT.out]; rfl, But.of hb6, by rw [HT.out]; exact HD.out _ hb6⟩
set_option maxHeartbeats 3200000 in
set_option maxRecDepth 100000 in
theorem size_not_n (g t : Nat) (p : List UInt8) (w : World) (hp : p.length ≤ 1000) (ht : t ≤ 1048576) (hd : DAt w g 0 0 t 0 0) (hm : MaxOk w) (hs : Lib.hasSuffix p [13, 10] = true) (h8 : (Ck.digs (Lib.trimSuffix p [13, 10])).length ≤ 8) (hv : Oct.value (Oct.trim (Ck.extn (Lib.trimSuffix p [13, 10]))) = true) (er : Int) (he : er ≠ 0) (hn : Oct.number 16 ((1048576 - t : Nat) : Int) (Ck.digs (Lib.trimSuffix p [13, 10])) = (0, er)) (hT : Ck.tkSize t p = (.size t, er)) (hsem : ¬ St.upto 59 (Lib.trimSuffix p [13, 10]) < (Lib.trimSuffix p [13, 10]).length) :
    Calls Tryz.prog 136 #[.pointer (some ⟨g, 0, none⟩), .string (str p)] w fun x w' => x = .returned (.int .i64 (Ck.tkSize t p).2) ∧ But g w w' ∧ Dst w' g (Ck.tkSize t p).1 0 := by
  have HA : Hid (∀ W : World, Below w.heap.size w W → DAt W g 0 0 t 0 0) := Lib.hid (fun W hb => hd.later hb)
  have HD : Hid (∀ W : World, Below w.heap.size w W → Dst W g (.size t) 0) := Lib.hid (fun W hb => ⟨ht, hd.later hb⟩)
  have cX := Cut_w (str p) w (by rw [str_size]; omega)
  rw [str_list] at cX
  have hlen : (Lib.trimSuffix p [13, 10]).length ≤ 1000 := Nat.le_trans (Ck.trim_len p) hp
  have cS := Semi_no (Lib.trimSuffix p [13, 10]) w (by omega) hm hsem
  have hdl := Ck.digs_len (Lib.trimSuffix p [13, 10])
  have hel : (Ck.extn (Lib.trimSuffix p [13, 10])).length ≤ 1000 := by unfold Ck.extn; rw [List.length_drop]; omega
  have hdg : Ck.digs (Lib.trimSuffix p [13, 10]) = Lib.trimSuffix p [13, 10] := by unfold Ck.digs; rw [if_neg hsem]
  have cS : Calls Tryz.prog 135 #[.string (str (Lib.trimSuffix p [13, 10])), .string ⟨#[59]⟩] w fun e w' => e = .returned (.tuple #[.string (str (Ck.digs (Lib.trimSuffix p [13, 10]))), .string (str (Ck.extn (Lib.trimSuffix p [13, 10]))), .bool false]) ∧ Below w.heap.size w w' := by rw [hdg]; exact cS
  have hds : (str (Ck.digs (Lib.trimSuffix p [13, 10]))).size = (Ck.digs (Lib.trimSuffix p [13, 10])).length := str_size _
  have cT := fun (W : World) => Trim_s (str (Ck.extn (Lib.trimSuffix p [13, 10]))) W (by rw [str_size]; omega)
  rw [str_list] at cT
  have cV := fun (W : World) => Value_s (str (Oct.trim (Ck.extn (Lib.trimSuffix p [13, 10])))) W (by rw [str_size]; have := Oct.trim_len (Ck.extn (Lib.trimSuffix p [13, 10])); omega)
  rw [str_list] at cV
  rw [hs] at cX
  rw [hv] at cV
  have hdz : ¬ (8 : Int) < ((str (Ck.digs (Lib.trimSuffix p [13, 10]))).size : Int) := by omega
  obtain ⟨M, hM⟩ : ∃ M : Int, M = ((1048576 - t : Nat) : Int) := ⟨_, rfl⟩
  have hMt : (1048576 : Int) - t = M := by omega
  have hM0 : (0 : Int) ≤ M := by omega
  have hM1 : M ≤ (1048576 : Int) := by omega
  have hti : (t : Int) ≤ 1048576 := by omega
  have HT := Lib.hid hT
  have cN := fun (W : World) => Hex_is (str (Ck.digs (Lib.trimSuffix p [13, 10]))) M 0 er W (by omega) (by omega) (by omega) (by rw [str_list, hM]; exact hn)
  have heb : (er != 0) = true := by simpa using he
  have heb2 : ¬ er = 0 := he
  clear hel hdl hds h8 hv hn hM hT he
  clear hdg hlen hd hm hp hs hsem ht
  generalize str (Ck.digs (Lib.trimSuffix p [13, 10])) = D at *
  generalize str (Oct.trim (Ck.extn (Lib.trimSuffix p [13, 10]))) = E2 at *
  generalize str (Ck.extn (Lib.trimSuffix p [13, 10])) = E at *
  generalize str (Lib.trimSuffix p [13, 10]) = Y at *
  generalize str p = X at *
  go_enter Tryz.func136, Tryz.ntmps136
  go_wp2_with fail
  refine cX.mono ?_
  rintro e W1 ⟨rfl, rfl⟩
  go_wp2_with fail
  refine cS.mono ?_
  rintro e W2 ⟨rfl, hb2⟩
  go_wp2_with fail
  refine (cT W2).mono ?_
  rintro e W4 ⟨rfl, hb4'⟩
  have hb4 := bt5 hb2 hb4'
  go_wp2_with fail
  refine (cV W4).mono ?_
  rintro e W5 ⟨rfl, hb5'⟩
  have hb5 := bt5 hb4 hb5'
  have hd5 := HA.out W5 hb5
  obtain ⟨c0, c1, c2, c3, c4⟩ := hd5.cells
  go_wp2_with fail
  refine (cN W5).mono ?_
  rintro e W6 ⟨rfl, hb6'⟩
  have hb6 := bt5 hb5 hb6'
  clear c0 c1 c2 c3 c4 hd5
  go_wp2_with fail
  go_ret
  exact ⟨by rw [HT.out]; rfl, But.of hb6, by rw [HT.out]; exact HD.out _ hb6⟩
set_option maxHeartbeats 3200000 in
set_option maxRecDepth 100000 in
theorem size_last_y (g t : Nat) (p : List UInt8) (w : World) (hp : p.length ≤ 1000) (ht : t ≤ 1048576) (hd : DAt w g 0 0 t 0 0) (hm : MaxOk w) (hs : Lib.hasSuffix p [13, 10] = true) (h8 : (Ck.digs (Lib.trimSuffix p [13, 10])).length ≤ 8) (hv : Oct.value (Oct.trim (Ck.extn (Lib.trimSuffix p [13, 10]))) = true) (hn : Oct.number 16 ((1048576 - t : Nat) : Int) (Ck.digs (Lib.trimSuffix p [13, 10])) = (0, 0)) (hT : Ck.tkSize t p = (.trail 0, 0)) (hsem : St.upto 59 (Lib.trimSuffix p [13, 10]) < (Lib.trimSuffix p [13, 10]).length) :
    Calls Tryz.prog 136 #[.pointer (some ⟨g, 0, none⟩), .string (str p)] w fun x w' => x = .returned (.int .i64 (Ck.tkSize t p).2) ∧ But g w w' ∧ Dst w' g (Ck.tkSize t p).1 0 := by
  have HA : Hid (∀ W : World, Below w.heap.size w W → DAt W g 0 0 t 0 0) := Lib.hid (fun W hb => hd.later hb)
  have HD : Hid (∀ W : World, Below w.heap.size w W → Dst W g (.size t) 0) := Lib.hid (fun W hb => ⟨ht, hd.later hb⟩)
  have cX := Cut_w (str p) w (by rw [str_size]; omega)
  rw [str_list] at cX
  have hlen : (Lib.trimSuffix p [13, 10]).length ≤ 1000 := Nat.le_trans (Ck.trim_len p) hp
  have cS := Semi_yes (Lib.trimSuffix p [13, 10]) w (by omega) hm hsem
  have hdl := Ck.digs_len (Lib.trimSuffix p [13, 10])
  have hel : (Ck.extn (Lib.trimSuffix p [13, 10])).length ≤ 1000 := by unfold Ck.extn; rw [List.length_drop]; omega
  have cR := fun (W : World) => TrimR_s (str ((Lib.trimSuffix p [13, 10]).take (St.upto 59 (Lib.trimSuffix p [13, 10])))) W (by rw [str_size, List.length_take]; omega)
  have hdg : Ck.digs (Lib.trimSuffix p [13, 10]) = Oct.dropR ((Lib.trimSuffix p [13, 10]).take (St.upto 59 (Lib.trimSuffix p [13, 10]))) := by unfold Ck.digs; rw [if_pos hsem]
  rw [str_list, ← hdg] at cR
  have hds : (str (Ck.digs (Lib.trimSuffix p [13, 10]))).size = (Ck.digs (Lib.trimSuffix p [13, 10])).length := str_size _
  have cT := fun (W : World) => Trim_s (str (Ck.extn (Lib.trimSuffix p [13, 10]))) W (by rw [str_size]; omega)
  rw [str_list] at cT
  have cV := fun (W : World) => Value_s (str (Oct.trim (Ck.extn (Lib.trimSuffix p [13, 10])))) W (by rw [str_size]; have := Oct.trim_len (Ck.extn (Lib.trimSuffix p [13, 10])); omega)
  rw [str_list] at cV
  rw [hs] at cX
  rw [hv] at cV
  have hdz : ¬ (8 : Int) < ((str (Ck.digs (Lib.trimSuffix p [13, 10]))).size : Int) := by omega
  obtain ⟨M, hM⟩ : ∃ M : Int, M = ((1048576 - t : Nat) : Int) := ⟨_, rfl⟩
  have hMt : (1048576 : Int) - t = M := by omega
  have hM0 : (0 : Int) ≤ M := by omega
  have hM1 : M ≤ (1048576 : Int) := by omega
  have hti : (t : Int) ≤ 1048576 := by omega
  have HT := Lib.hid hT
  have cN := fun (W : World) => Hex_is (str (Ck.digs (Lib.trimSuffix p [13, 10]))) M 0 0 W (by omega) (by omega) (by omega) (by rw [str_list, hM]; exact hn)
  clear hel hdl hds h8 hv hn hM hT
  clear hdg hlen hd hm hp hs hsem ht
  generalize str (Ck.digs (Lib.trimSuffix p [13, 10])) = D at *
  generalize str (Oct.trim (Ck.extn (Lib.trimSuffix p [13, 10]))) = E2 at *
  generalize str (Ck.extn (Lib.trimSuffix p [13, 10])) = E at *
  generalize str ((Lib.trimSuffix p [13, 10]).take (St.upto 59 (Lib.trimSuffix p [13, 10]))) = E0 at *
  generalize str (Lib.trimSuffix p [13, 10]) = Y at *
  generalize str p = X at *
  go_enter Tryz.func136, Tryz.ntmps136
  go_wp2_with fail
  refine cX.mono ?_
  rintro e W1 ⟨rfl, rfl⟩
  go_wp2_with fail
  refine cS.mono ?_
  rintro e W2 ⟨rfl, hb2⟩
  go_wp2_with fail
  refine (cR W2).mono ?_
  rintro e W3 ⟨rfl, hb3'⟩
  have hb3 := bt5 hb2 hb3'
  go_wp2_with fail
  refine (cT W3).mono ?_
  rintro e W4 ⟨rfl, hb4'⟩
  have hb4 := bt5 hb3 hb4'
  go_wp2_with fail
  refine (cV W4).mono ?_
  rintro e W5 ⟨rfl, hb5'⟩
  have hb5 := bt5 hb4 hb5'
  have hd5 := HA.out W5 hb5
  obtain ⟨c0, c1, c2, c3, c4⟩ := hd5.cells
  go_wp2_with fail
  refine (cN W5).mono ?_
  rintro e W6 ⟨rfl, hb6'⟩
  have hb6 := bt5 hb5 hb6'
  clear c0 c1 c2 c3 c4 hd5
  have hd6 := HA.out W6 hb6
  have hB6 : But g w W6 := But.of hb6
  obtain ⟨c0, c1, c2, c3, c4⟩ := hd6.cells
  have q1 := hd6.free 1
  go_upto_region 11 with fail
  have hd7 : DAt (W6.setCell ⟨g, 1, none⟩ (.int .i64 0)) g 0 0 t 0 0 := hd6.put 1 _ rfl
  have hB7 := hB6.put 1 (.int .i64 0)
  generalize W6.setCell ⟨g, 1, none⟩ (.int .i64 0) = W7 at *
  obtain ⟨c0, c1, c2, c3, c4⟩ := hd7.cells
  have q2 := hd7.free 2
  go_upto_region 12 with fail
  have hd8 : DAt (W7.setCell ⟨g, 2, none⟩ (.int .i64 t)) g 0 0 t 0 0 := hd7.put 2 _ rfl
  have hB8 := hB7.put 2 (.int .i64 t)
  generalize W7.setCell ⟨g, 2, none⟩ (.int .i64 t) = W8 at *
  obtain ⟨c0, c1, c2, c3, c4⟩ := hd8.cells
  have q3 := hd8.free 0
  go_upto_region 13 with fail
  have hd9 : DAt (W8.setCell ⟨g, 0, none⟩ (.int .i64 1)) g 1 0 t 0 0 := hd8.put 0 _ rfl
  have hB9 := hB8.put 0 (.int .i64 1)
  generalize W8.setCell ⟨g, 0, none⟩ (.int .i64 1) = W9 at *
  obtain ⟨c0, c1, c2, c3, c4⟩ := hd9.cells
  have q4 := hd9.free 0
  clear hd7 hB7 hd8 hB8 hd6 hB6
  go_wp2_with fail
  go_ret
  rw [HT.out]
  exact ⟨rfl, hB9.put 0 _, Nat.zero_le _, (t : Int), hd9.put (a' := 3) (n' := 0) (t' := t) (k' := 0) (e' := 0) 0 (.int .i64 3) rfl⟩
set_option maxHeartbeats 3200000 in
set_option maxRecDepth 100000 in
theorem size_last_n (g t : Nat) (p : List UInt8) (w : World) (hp : p.length ≤ 1000) (ht : t ≤ 1048576) (hd : DAt w g 0 0 t 0 0) (hm : MaxOk w) (hs : Lib.hasSuffix p [13, 10] = true) (h8 : (Ck.digs (Lib.trimSuffix p [13, 10])).length ≤ 8) (hv : Oct.value (Oct.trim (Ck.extn (Lib.trimSuffix p [13, 10]))) = true) (hn : Oct.number 16 ((1048576 - t : Nat) : Int) (Ck.digs (Lib.trimSuffix p [13, 10])) = (0, 0)) (hT : Ck.tkSize t p = (.trail 0, 0)) (hsem : ¬ St.upto 59 (Lib.trimSuffix p [13, 10]) < (Lib.trimSuffix p [13, 10]).length) :
    Calls Tryz.prog 136 #[.pointer (some ⟨g, 0, none⟩), .string (str p)] w fun x w' => x = .returned (.int .i64 (Ck.tkSize t p).2) ∧ But g w w' ∧ Dst w' g (Ck.tkSize t p).1 0 := by
  have HA : Hid (∀ W : World, Below w.heap.size w W → DAt W g 0 0 t 0 0) := Lib.hid (fun W hb => hd.later hb)
  have HD : Hid (∀ W : World, Below w.heap.size w W → Dst W g (.size t) 0) := Lib.hid (fun W hb => ⟨ht, hd.later hb⟩)
  have cX := Cut_w (str p) w (by rw [str_size]; omega)
  rw [str_list] at cX
  have hlen : (Lib.trimSuffix p [13, 10]).length ≤ 1000 := Nat.le_trans (Ck.trim_len p) hp
  have cS := Semi_no (Lib.trimSuffix p [13, 10]) w (by omega) hm hsem
  have hdl := Ck.digs_len (Lib.trimSuffix p [13, 10])
  have hel : (Ck.extn (Lib.trimSuffix p [13, 10])).length ≤ 1000 := by unfold Ck.extn; rw [List.length_drop]; omega
  have hdg : Ck.digs (Lib.trimSuffix p [13, 10]) = Lib.trimSuffix p [13, 10] := by unfold Ck.digs; rw [if_neg hsem]
  have cS : Calls Tryz.prog 135 #[.string (str (Lib.trimSuffix p [13, 10])), .string ⟨#[59]⟩] w fun e w' => e = .returned (.tuple #[.string (str (Ck.digs (Lib.trimSuffix p [13, 10]))), .string (str (Ck.extn (Lib.trimSuffix p [13, 10]))), .bool false]) ∧ Below w.heap.size w w' := by rw [hdg]; exact cS
  have hds : (str (Ck.digs (Lib.trimSuffix p [13, 10]))).size = (Ck.digs (Lib.trimSuffix p [13, 10])).length := str_size _
  have cT := fun (W : World) => Trim_s (str (Ck.extn (Lib.trimSuffix p [13, 10]))) W (by rw [str_size]; omega)
  rw [str_list] at cT
  have cV := fun (W : World) => Value_s (str (Oct.trim (Ck.extn (Lib.trimSuffix p [13, 10])))) W (by rw [str_size]; have := Oct.trim_len (Ck.extn (Lib.trimSuffix p [13, 10])); omega)
  rw [str_list] at cV
  rw [hs] at cX
  rw [hv] at cV
  have hdz : ¬ (8 : Int) < ((str (Ck.digs (Lib.trimSuffix p [13, 10]))).size : Int) := by omega
  obtain ⟨M, hM⟩ : ∃ M : Int, M = ((1048576 - t : Nat) : Int) := ⟨_, rfl⟩
  have hMt : (1048576 : Int) - t = M := by omega
  have hM0 : (0 : Int) ≤ M := by omega
  have hM1 : M ≤ (1048576 : Int) := by omega
  have hti : (t : Int) ≤ 1048576 := by omega
  have HT := Lib.hid hT
  have cN := fun (W : World) => Hex_is (str (Ck.digs (Lib.trimSuffix p [13, 10]))) M 0 0 W (by omega) (by omega) (by omega) (by rw [str_list, hM]; exact hn)
  clear hel hdl hds h8 hv hn hM hT
  clear hdg hlen hd hm hp hs hsem ht
  generalize str (Ck.digs (Lib.trimSuffix p [13, 10])) = D at *
  generalize str (Oct.trim (Ck.extn (Lib.trimSuffix p [13, 10]))) = E2 at *
  generalize str (Ck.extn (Lib.trimSuffix p [13, 10])) = E at *
  generalize str (Lib.trimSuffix p [13, 10]) = Y at *
  generalize str p = X at *
  go_enter Tryz.func136, Tryz.ntmps136
  go_wp2_with fail
  refine cX.mono ?_
  rintro e W1 ⟨rfl, rfl⟩
  go_wp2_with fail
  refine cS.mono ?_
  rintro e W2 ⟨rfl, hb2⟩
  go_wp2_with fail
  refine (cT W2).mono ?_
  rintro e W4 ⟨rfl, hb4'⟩
  have hb4 := bt5 hb2 hb4'
  go_wp2_with fail
  refine (cV W4).mono ?_
  rintro e W5 ⟨rfl, hb5'⟩
  have hb5 := bt5 hb4 hb5'
  have hd5 := HA.out W5 hb5
  obtain ⟨c0, c1, c2, c3, c4⟩ := hd5.cells
  go_wp2_with fail
  refine (cN W5).mono ?_
  rintro e W6 ⟨rfl, hb6'⟩
  have hb6 := bt5 hb5 hb6'
  clear c0 c1 c2 c3 c4 hd5
  have hd6 := HA.out W6 hb6
  have hB6 : But g w W6 := But.of hb6
  obtain ⟨c0, c1, c2, c3, c4⟩ := hd6.cells
  have q1 := hd6.free 1
  go_upto_region 11 with fail
  have hd7 : DAt (W6.setCell ⟨g, 1, none⟩ (.int .i64 0)) g 0 0 t 0 0 := hd6.put 1 _ rfl
  have hB7 := hB6.put 1 (.int .i64 0)
  generalize W6.setCell ⟨g, 1, none⟩ (.int .i64 0) = W7 at *
  obtain ⟨c0, c1, c2, c3, c4⟩ := hd7.cells
  have q2 := hd7.free 2
  go_upto_region 12 with fail
  have hd8 : DAt (W7.setCell ⟨g, 2, none⟩ (.int .i64 t)) g 0 0 t 0 0 := hd7.put 2 _ rfl
  have hB8 := hB7.put 2 (.int .i64 t)
  generalize W7.setCell ⟨g, 2, none⟩ (.int .i64 t) = W8 at *
  obtain ⟨c0, c1, c2, c3, c4⟩ := hd8.cells
  have q3 := hd8.free 0
  go_upto_region 13 with fail
  have hd9 : DAt (W8.setCell ⟨g, 0, none⟩ (.int .i64 1)) g 1 0 t 0 0 := hd8.put 0 _ rfl
  have hB9 := hB8.put 0 (.int .i64 1)
  generalize W8.setCell ⟨g, 0, none⟩ (.int .i64 1) = W9 at *
  obtain ⟨c0, c1, c2, c3, c4⟩ := hd9.cells
  have q4 := hd9.free 0
  clear hd7 hB7 hd8 hB8 hd6 hB6
  go_wp2_with fail
  go_ret
  rw [HT.out]
  exact ⟨rfl, hB9.put 0 _, Nat.zero_le _, (t : Int), hd9.put (a' := 3) (n' := 0) (t' := t) (k' := 0) (e' := 0) 0 (.int .i64 3) rfl⟩
set_option maxHeartbeats 3200000 in
set_option maxRecDepth 100000 in
theorem size_next_y (g t : Nat) (p : List UInt8) (w : World) (hp : p.length ≤ 1000) (ht : t ≤ 1048576) (hd : DAt w g 0 0 t 0 0) (hm : MaxOk w) (hs : Lib.hasSuffix p [13, 10] = true) (h8 : (Ck.digs (Lib.trimSuffix p [13, 10])).length ≤ 8) (hv : Oct.value (Oct.trim (Ck.extn (Lib.trimSuffix p [13, 10]))) = true) (v : Nat) (h0 : v ≠ 0) (hvM : v ≤ 1048576 - t) (hn : Oct.number 16 ((1048576 - t : Nat) : Int) (Ck.digs (Lib.trimSuffix p [13, 10])) = ((v : Int), 0)) (hT : Ck.tkSize t p = (.data (t + v) v, 0)) (hsem : St.upto 59 (Lib.trimSuffix p [13, 10]) < (Lib.trimSuffix p [13, 10]).length) :
    Calls Tryz.prog 136 #[.pointer (some ⟨g, 0, none⟩), .string (str p)] w fun x w' => x = .returned (.int .i64 (Ck.tkSize t p).2) ∧ But g w w' ∧ Dst w' g (Ck.tkSize t p).1 0 := by
  have HA : Hid (∀ W : World, Below w.heap.size w W → DAt W g 0 0 t 0 0) := Lib.hid (fun W hb => hd.later hb)
  have HD : Hid (∀ W : World, Below w.heap.size w W → Dst W g (.size t) 0) := Lib.hid (fun W hb => ⟨ht, hd.later hb⟩)
  have cX := Cut_w (str p) w (by rw [str_size]; omega)
  rw [str_list] at cX
  have hlen : (Lib.trimSuffix p [13, 10]).length ≤ 1000 := Nat.le_trans (Ck.trim_len p) hp
  have cS := Semi_yes (Lib.trimSuffix p [13, 10]) w (by omega) hm hsem
  have hdl := Ck.digs_len (Lib.trimSuffix p [13, 10])
  have hel : (Ck.extn (Lib.trimSuffix p [13, 10])).length ≤ 1000 := by unfold Ck.extn; rw [List.length_drop]; omega
  have cR := fun (W : World) => TrimR_s (str ((Lib.trimSuffix p [13, 10]).take (St.upto 59 (Lib.trimSuffix p [13, 10])))) W (by rw [str_size, List.length_take]; omega)
  have hdg : Ck.digs (Lib.trimSuffix p [13, 10]) = Oct.dropR ((Lib.trimSuffix p [13, 10]).take (St.upto 59 (Lib.trimSuffix p [13, 10]))) := by unfold Ck.digs; rw [if_pos hsem]
  rw [str_list, ← hdg] at cR
  have hds : (str (Ck.digs (Lib.trimSuffix p [13, 10]))).size = (Ck.digs (Lib.trimSuffix p [13, 10])).length := str_size _
  have cT := fun (W : World) => Trim_s (str (Ck.extn (Lib.trimSuffix p [13, 10]))) W (by rw [str_size]; omega)
  rw [str_list] at cT
  have cV := fun (W : World) => Value_s (str (Oct.trim (Ck.extn (Lib.trimSuffix p [13, 10])))) W (by rw [str_size]; have := Oct.trim_len (Ck.extn (Lib.trimSuffix p [13, 10])); omega)
  rw [str_list] at cV
  rw [hs] at cX
  rw [hv] at cV
  have hdz : ¬ (8 : Int) < ((str (Ck.digs (Lib.trimSuffix p [13, 10]))).size : Int) := by omega
  obtain ⟨M, hM⟩ : ∃ M : Int, M = ((1048576 - t : Nat) : Int) := ⟨_, rfl⟩
  have hMt : (1048576 : Int) - t = M := by omega
  have hM0 : (0 : Int) ≤ M := by omega
  have hM1 : M ≤ (1048576 : Int) := by omega
  have hti : (t : Int) ≤ 1048576 := by omega
  have HT := Lib.hid hT
  have cN := fun (W : World) => Hex_is (str (Ck.digs (Lib.trimSuffix p [13, 10]))) M v 0 W (by omega) (by omega) (by omega) (by rw [str_list, hM]; exact hn)
  have hvi : (v : Int) ≤ 1048576 := by omega
  have HG : Hid (Ck.Good (.data (t + v) v)) := Lib.hid (by rw [hM] at *; exact ⟨by omega, by omega, by omega⟩)
  have hv0 : ((v : Int) == 0) = false := beq_eq_false_iff_ne.2 (by omega)
  have hv1 : ¬ (v : Int) = 0 := by omega
  clear h0 hel hdl hds h8 hv hn hM hT hvM
  clear hdg hlen hd hm hp hs hsem ht
  generalize str (Ck.digs (Lib.trimSuffix p [13, 10])) = D at *
  generalize str (Oct.trim (Ck.extn (Lib.trimSuffix p [13, 10]))) = E2 at *
  generalize str (Ck.extn (Lib.trimSuffix p [13, 10])) = E at *
  generalize str ((Lib.trimSuffix p [13, 10]).take (St.upto 59 (Lib.trimSuffix p [13, 10]))) = E0 at *
  generalize str (Lib.trimSuffix p [13, 10]) = Y at *
  generalize str p = X at *
  go_enter Tryz.func136, Tryz.ntmps136
  go_wp2_with fail
  refine cX.mono ?_
  rintro e W1 ⟨rfl, rfl⟩
  go_wp2_with fail
  refine cS.mono ?_
  rintro e W2 ⟨rfl, hb2⟩
  go_wp2_with fail
  refine (cR W2).mono ?_
  rintro e W3 ⟨rfl, hb3'⟩
  have hb3 := bt5 hb2 hb3'
  go_wp2_with fail
  refine (cT W3).mono ?_
  rintro e W4 ⟨rfl, hb4'⟩
  have hb4 := bt5 hb3 hb4'
  go_wp2_with fail
  refine (cV W4).mono ?_
  rintro e W5 ⟨rfl, hb5'⟩
  have hb5 := bt5 hb4 hb5'
  have hd5 := HA.out W5 hb5
  obtain ⟨c0, c1, c2, c3, c4⟩ := hd5.cells
  go_wp2_with fail
  refine (cN W5).mono ?_
  rintro e W6 ⟨rfl, hb6'⟩
  have hb6 := bt5 hb5 hb6'
  clear c0 c1 c2 c3 c4 hd5
  have hd6 := HA.out W6 hb6
  have hB6 : But g w W6 := But.of hb6
  obtain ⟨c0, c1, c2, c3, c4⟩ := hd6.cells
  have q1 := hd6.free 1
  go_upto_region 11 with fail
  have hd7 : DAt (W6.setCell ⟨g, 1, none⟩ (.int .i64 v)) g 0 v t 0 0 := hd6.put 1 _ rfl
  have hB7 := hB6.put 1 (.int .i64 v)
  generalize W6.setCell ⟨g, 1, none⟩ (.int .i64 v) = W7 at *
  obtain ⟨c0, c1, c2, c3, c4⟩ := hd7.cells
  have q2 := hd7.free 2
  go_upto_region 12 with fail
  have hd8 : DAt (W7.setCell ⟨g, 2, none⟩ (.int .i64 ((t : Int) + v))) g 0 v (t + v) 0 0 := hd7.put 2 _ rfl
  have hB8 := hB7.put 2 (.int .i64 ((t : Int) + v))
  generalize W7.setCell ⟨g, 2, none⟩ (.int .i64 ((t : Int) + v)) = W8 at *
  obtain ⟨c0, c1, c2, c3, c4⟩ := hd8.cells
  have q3 := hd8.free 0
  go_upto_region 13 with fail
  have hd9 : DAt (W8.setCell ⟨g, 0, none⟩ (.int .i64 1)) g 1 v (t + v) 0 0 := hd8.put 0 _ rfl
  have hB9 := hB8.put 0 (.int .i64 1)
  generalize W8.setCell ⟨g, 0, none⟩ (.int .i64 1) = W9 at *
  obtain ⟨c0, c1, c2, c3, c4⟩ := hd9.cells
  have q4 := hd9.free 0
  clear hd7 hB7 hd8 hB8 hd6 hB6
  go_wp2_with fail
  go_ret
  rw [HT.out]
  exact ⟨rfl, hB9, HG.out, hd9⟩
set_option maxHeartbeats 3200000 in
set_option maxRecDepth 100000 in
theorem size_next_n (g t : Nat) (p : List UInt8) (w : World) (hp : p.length ≤ 1000) (ht : t ≤ 1048576) (hd : DAt w g 0 0 t 0 0) (hm : MaxOk w) (hs : Lib.hasSuffix p [13, 10] = true) (h8 : (Ck.digs (Lib.trimSuffix p [13, 10])).length ≤ 8) (hv : Oct.value (Oct.trim (Ck.extn (Lib.trimSuffix p [13, 10]))) = true) (v : Nat) (h0 : v ≠ 0) (hvM : v ≤ 1048576 - t) (hn : Oct.number 16 ((1048576 - t : Nat) : Int) (Ck.digs (Lib.trimSuffix p [13, 10])) = ((v : Int), 0)) (hT : Ck.tkSize t p = (.data (t + v) v, 0)) (hsem : ¬ St.upto 59 (Lib.trimSuffix p [13, 10]) < (Lib.trimSuffix p [13, 10]).length) :
    Calls Tryz.prog 136 #[.pointer (some ⟨g, 0, none⟩), .string (str p)] w fun x w' => x = .returned (.int .i64 (Ck.tkSize t p).2) ∧ But g w w' ∧ Dst w' g (Ck.tkSize t p).1 0 := by
  have HA : Hid (∀ W : World, Below w.heap.size w W → DAt W g 0 0 t 0 0) := Lib.hid (fun W hb => hd.later hb)
  have HD : Hid (∀ W : World, Below w.heap.size w W → Dst W g (.size t) 0) := Lib.hid (fun W hb => ⟨ht, hd.later hb⟩)
  have cX := Cut_w (str p) w (by rw [str_size]; omega)
  rw [str_list] at cX
  have hlen : (Lib.trimSuffix p [13, 10]).length ≤ 1000 := Nat.le_trans (Ck.trim_len p) hp
  have cS := Semi_no (Lib.trimSuffix p [13, 10]) w (by omega) hm hsem
  have hdl := Ck.digs_len (Lib.trimSuffix p [13, 10])
  have hel : (Ck.extn (Lib.trimSuffix p [13, 10])).length ≤ 1000 := by unfold Ck.extn; rw [List.length_drop]; omega
  have hdg : Ck.digs (Lib.trimSuffix p [13, 10]) = Lib.trimSuffix p [13, 10] := by unfold Ck.digs; rw [if_neg hsem]
  have cS : Calls Tryz.prog 135 #[.string (str (Lib.trimSuffix p [13, 10])), .string ⟨#[59]⟩] w fun e w' => e = .returned (.tuple #[.string (str (Ck.digs (Lib.trimSuffix p [13, 10]))), .string (str (Ck.extn (Lib.trimSuffix p [13, 10]))), .bool false]) ∧ Below w.heap.size w w' := by rw [hdg]; exact cS
  have hds : (str (Ck.digs (Lib.trimSuffix p [13, 10]))).size = (Ck.digs (Lib.trimSuffix p [13, 10])).length := str_size _
  have cT := fun (W : World) => Trim_s (str (Ck.extn (Lib.trimSuffix p [13, 10]))) W (by rw [str_size]; omega)
  rw [str_list] at cT
  have cV := fun (W : World) => Value_s (str (Oct.trim (Ck.extn (Lib.trimSuffix p [13, 10])))) W (by rw [str_size]; have := Oct.trim_len (Ck.extn (Lib.trimSuffix p [13, 10])); omega)
  rw [str_list] at cV
  rw [hs] at cX
  rw [hv] at cV
  have hdz : ¬ (8 : Int) < ((str (Ck.digs (Lib.trimSuffix p [13, 10]))).size : Int) := by omega
  obtain ⟨M, hM⟩ : ∃ M : Int, M = ((1048576 - t : Nat) : Int) := ⟨_, rfl⟩
  have hMt : (1048576 : Int) - t = M := by omega
  have hM0 : (0 : Int) ≤ M := by omega
  have hM1 : M ≤ (1048576 : Int) := by omega
  have hti : (t : Int) ≤ 1048576 := by omega
  have HT := Lib.hid hT
  have cN := fun (W : World) => Hex_is (str (Ck.digs (Lib.trimSuffix p [13, 10]))) M v 0 W (by omega) (by omega) (by omega) (by rw [str_list, hM]; exact hn)
  have hvi : (v : Int) ≤ 1048576 := by omega
  have HG : Hid (Ck.Good (.data (t + v) v)) := Lib.hid (by rw [hM] at *; exact ⟨by omega, by omega, by omega⟩)
  have hv0 : ((v : Int) == 0) = false := beq_eq_false_iff_ne.2 (by omega)
  have hv1 : ¬ (v : Int) = 0 := by omega
  clear h0 hel hdl hds h8 hv hn hM hT hvM
  clear hdg hlen hd hm hp hs hsem ht
  generalize str (Ck.digs (Lib.trimSuffix p [13, 10])) = D at *
  generalize str (Oct.trim (Ck.extn (Lib.trimSuffix p [13, 10]))) = E2 at *
  generalize str (Ck.extn (Lib.trimSuffix p [13, 10])) = E at *
  generalize str (Lib.trimSuffix p [13, 10]) = Y at *
  generalize str p = X at *
  go_enter Tryz.func136, Tryz.ntmps136
  go_wp2_with fail
  refine cX.mono ?_
  rintro e W1 ⟨rfl, rfl⟩
  go_wp2_with fail
  refine cS.mono ?_
  rintro e W2 ⟨rfl, hb2⟩
  go_wp2_with fail
  refine (cT W2).mono ?_
  rintro e W4 ⟨rfl, hb4'⟩
  have hb4 := bt5 hb2 hb4'
  go_wp2_with fail
  refine (cV W4).mono ?_
  rintro e W5 ⟨rfl, hb5'⟩
  have hb5 := bt5 hb4 hb5'
  have hd5 := HA.out W5 hb5
  obtain ⟨c0, c1, c2, c3, c4⟩ := hd5.cells
  go_wp2_with fail
  refine (cN W5).mono ?_
  rintro e W6 ⟨rfl, hb6'⟩
  have hb6 := bt5 hb5 hb6'
  clear c0 c1 c2 c3 c4 hd5
  have hd6 := HA.out W6 hb6
  have hB6 : But g w W6 := But.of hb6
  obtain ⟨c0, c1, c2, c3, c4⟩ := hd6.cells
  have q1 := hd6.free 1
  go_upto_region 11 with fail
  have hd7 : DAt (W6.setCell ⟨g, 1, none⟩ (.int .i64 v)) g 0 v t 0 0 := hd6.put 1 _ rfl
  have hB7 := hB6.put 1 (.int .i64 v)
  generalize W6.setCell ⟨g, 1, none⟩ (.int .i64 v) = W7 at *
  obtain ⟨c0, c1, c2, c3, c4⟩ := hd7.cells
  have q2 := hd7.free 2
  go_upto_region 12 with fail
  have hd8 : DAt (W7.setCell ⟨g, 2, none⟩ (.int .i64 ((t : Int) + v))) g 0 v (t + v) 0 0 := hd7.put 2 _ rfl
  have hB8 := hB7.put 2 (.int .i64 ((t : Int) + v))
  generalize W7.setCell ⟨g, 2, none⟩ (.int .i64 ((t : Int) + v)) = W8 at *
  obtain ⟨c0, c1, c2, c3, c4⟩ := hd8.cells
  have q3 := hd8.free 0
  go_upto_region 13 with fail
  have hd9 : DAt (W8.setCell ⟨g, 0, none⟩ (.int .i64 1)) g 1 v (t + v) 0 0 := hd8.put 0 _ rfl
  have hB9 := hB8.put 0 (.int .i64 1)
  generalize W8.setCell ⟨g, 0, none⟩ (.int .i64 1) = W9 at *
  obtain ⟨c0, c1, c2, c3, c4⟩ := hd9.cells
  have q4 := hd9.free 0
  clear hd7 hB7 hd8 hB8 hd6 hB6
  go_wp2_with fail
  go_ret
  rw [HT.out]
  exact ⟨rfl, hB9, HG.out, hd9⟩
theorem size_form (g t : Nat) (p : List UInt8) (w : World) (hp : p.length ≤ 1000) (ht : t ≤ 1048576) (hd : DAt w g 0 0 t 0 0) (hm : MaxOk w) (hs : Lib.hasSuffix p [13, 10] = false) :
    Calls Tryz.prog 136 #[.pointer (some ⟨g, 0, none⟩), .string (str p)] w fun x w' => x = .returned (.int .i64 (Ck.tkSize t p).2) ∧ But g w w' ∧ Dst w' g (Ck.tkSize t p).1 0 := by
  by_cases hsem : St.upto 59 (Lib.trimSuffix p [13, 10]) < (Lib.trimSuffix p [13, 10]).length
  · exact size_form_y g t p w hp ht hd hm hs hsem
  · exact size_form_n g t p w hp ht hd hm hs hsem
theorem size_digits (g t : Nat) (p : List UInt8) (w : World) (hp : p.length ≤ 1000) (ht : t ≤ 1048576) (hd : DAt w g 0 0 t 0 0) (hm : MaxOk w) (hs : Lib.hasSuffix p [13, 10] = true) (h8 : 8 < (Ck.digs (Lib.trimSuffix p [13, 10])).length) :
    Calls Tryz.prog 136 #[.pointer (some ⟨g, 0, none⟩), .string (str p)] w fun x w' => x = .returned (.int .i64 (Ck.tkSize t p).2) ∧ But g w w' ∧ Dst w' g (Ck.tkSize t p).1 0 := by
  by_cases hsem : St.upto 59 (Lib.trimSuffix p [13, 10]) < (Lib.trimSuffix p [13, 10]).length
  · exact size_digits_y g t p w hp ht hd hm hs h8 hsem
  · exact size_digits_n g t p w hp ht hd hm hs h8 hsem
theorem size_value (g t : Nat) (p : List UInt8) (w : World) (hp : p.length ≤ 1000) (ht : t ≤ 1048576) (hd : DAt w g 0 0 t 0 0) (hm : MaxOk w) (hs : Lib.hasSuffix p [13, 10] = true) (h8 : (Ck.digs (Lib.trimSuffix p [13, 10])).length ≤ 8) (hv : Oct.value (Oct.trim (Ck.extn (Lib.trimSuffix p [13, 10]))) = false) :
    Calls Tryz.prog 136 #[.pointer (some ⟨g, 0, none⟩), .string (str p)] w fun x w' => x = .returned (.int .i64 (Ck.tkSize t p).2) ∧ But g w w' ∧ Dst w' g (Ck.tkSize t p).1 0 := by
  by_cases hsem : St.upto 59 (Lib.trimSuffix p [13, 10]) < (Lib.trimSuffix p [13, 10]).length
  · exact size_value_y g t p w hp ht hd hm hs h8 hv hsem
  · exact size_value_n g t p w hp ht hd hm hs h8 hv hsem
theorem size_not (g t : Nat) (p : List UInt8) (w : World) (hp : p.length ≤ 1000) (ht : t ≤ 1048576) (hd : DAt w g 0 0 t 0 0) (hm : MaxOk w) (hs : Lib.hasSuffix p [13, 10] = true) (h8 : (Ck.digs (Lib.trimSuffix p [13, 10])).length ≤ 8) (hv : Oct.value (Oct.trim (Ck.extn (Lib.trimSuffix p [13, 10]))) = true) (er : Int) (he : er ≠ 0) (hn : Oct.number 16 ((1048576 - t : Nat) : Int) (Ck.digs (Lib.trimSuffix p [13, 10])) = (0, er)) (hT : Ck.tkSize t p = (.size t, er)) :
    Calls Tryz.prog 136 #[.pointer (some ⟨g, 0, none⟩), .string (str p)] w fun x w' => x = .returned (.int .i64 (Ck.tkSize t p).2) ∧ But g w w' ∧ Dst w' g (Ck.tkSize t p).1 0 := by
  by_cases hsem : St.upto 59 (Lib.trimSuffix p [13, 10]) < (Lib.trimSuffix p [13, 10]).length
  · exact size_not_y g t p w hp ht hd hm hs h8 hv er he hn hT hsem
  · exact size_not_n g t p w hp ht hd hm hs h8 hv er he hn hT hsem
theorem size_last (g t : Nat) (p : List UInt8) (w : World) (hp : p.length ≤ 1000) (ht : t ≤ 1048576) (hd : DAt w g 0 0 t 0 0) (hm : MaxOk w) (hs : Lib.hasSuffix p [13, 10] = true) (h8 : (Ck.digs (Lib.trimSuffix p [13, 10])).length ≤ 8) (hv : Oct.value (Oct.trim (Ck.extn (Lib.trimSuffix p [13, 10]))) = true) (hn : Oct.number 16 ((1048576 - t : Nat) : Int) (Ck.digs (Lib.trimSuffix p [13, 10])) = (0, 0)) (hT : Ck.tkSize t p = (.trail 0, 0)) :
    Calls Tryz.prog 136 #[.pointer (some ⟨g, 0, none⟩), .string (str p)] w fun x w' => x = .returned (.int .i64 (Ck.tkSize t p).2) ∧ But g w w' ∧ Dst w' g (Ck.tkSize t p).1 0 := by
  by_cases hsem : St.upto 59 (Lib.trimSuffix p [13, 10]) < (Lib.trimSuffix p [13, 10]).length
  · exact size_last_y g t p w hp ht hd hm hs h8 hv hn hT hsem
  · exact size_last_n g t p w hp ht hd hm hs h8 hv hn hT hsem
theorem size_next (g t : Nat) (p : List UInt8) (w : World) (hp : p.length ≤ 1000) (ht : t ≤ 1048576) (hd : DAt w g 0 0 t 0 0) (hm : MaxOk w) (hs : Lib.hasSuffix p [13, 10] = true) (h8 : (Ck.digs (Lib.trimSuffix p [13, 10])).length ≤ 8) (hv : Oct.value (Oct.trim (Ck.extn (Lib.trimSuffix p [13, 10]))) = true) (v : Nat) (h0 : v ≠ 0) (hvM : v ≤ 1048576 - t) (hn : Oct.number 16 ((1048576 - t : Nat) : Int) (Ck.digs (Lib.trimSuffix p [13, 10])) = ((v : Int), 0)) (hT : Ck.tkSize t p = (.data (t + v) v, 0)) :
    Calls Tryz.prog 136 #[.pointer (some ⟨g, 0, none⟩), .string (str p)] w fun x w' => x = .returned (.int .i64 (Ck.tkSize t p).2) ∧ But g w w' ∧ Dst w' g (Ck.tkSize t p).1 0 := by
  by_cases hsem : St.upto 59 (Lib.trimSuffix p [13, 10]) < (Lib.trimSuffix p [13, 10]).length
  · exact size_next_y g t p w hp ht hd hm hs h8 hv v h0 hvM hn hT hsem
  · exact size_next_n g t p w hp ht hd hm hs h8 hv v h0 hvM hn hT hsem
/-- A size line is taken. -/
theorem size_w (g t : Nat) (p : List UInt8) (w : World) (hp : p.length ≤ 1000) (ht : t ≤ 1048576) (hd : DAt w g 0 0 t 0 0) (hm : MaxOk w) :
    Calls Tryz.prog 136 #[.pointer (some ⟨g, 0, none⟩), .string (str p)] w fun x w' => x = .returned (.int .i64 (Ck.tkSize t p).2) ∧ But g w w' ∧ Dst w' g (Ck.tkSize t p).1 0 := by
  rcases Ck.tkSize_cases t p with ⟨h, _⟩ | ⟨hs, h8, hv, ⟨_, hn, hT⟩ | ⟨v, _, hvM, hn, hT⟩ | ⟨v, _, _, hn, hT⟩⟩
  · cases hs : Lib.hasSuffix p [13, 10] with
    | false => exact size_form g t p w hp ht hd hm hs
    | true =>
      by_cases h8 : 8 < (Ck.digs (Lib.trimSuffix p [13, 10])).length
      · exact size_digits g t p w hp ht hd hm hs h8
      · have hv : Oct.value (Oct.trim (Ck.extn (Lib.trimSuffix p [13, 10]))) = false := by
          rcases h with h | h | h
          · rw [hs] at h; cases h
          · exact absurd h h8
          · exact h
        have h8 : (Ck.digs (Lib.trimSuffix p [13, 10])).length ≤ 8 := Nat.le_of_not_lt h8
        exact size_value g t p w hp ht hd hm hs h8 hv
  · exact size_not g t p w hp ht hd hm hs h8 hv 10 (by decide) hn hT
  · by_cases h0 : v = 0
    · rw [if_pos h0] at hT
      rw [h0] at hn
      exact size_last g t p w hp ht hd hm hs h8 hv hn hT
    · rw [if_neg h0] at hT
      exact size_next g t p w hp ht hd hm hs h8 hv v h0 hvM hn hT
  · exact size_not g t p w hp ht hd hm hs h8 hv 12 (by decide) hn hT
end Go.Proofs.YtlbjjeonchcgbaaGreatDoor

namespace Go.Proofs.YtlbjjeonchcgbaaGreatDoor
open Go.RowKit

set_option maxRecDepth 100000 in
theorem FBuf.len {W w : World} {v : Value} {fs : List Fld.F} (h : FBuf W w v fs) : ∃ ao c, v = .slice ao fs.length c := by
  rcases h.1.2 with ⟨h0, h1⟩ | ⟨g, cap, cur, hv, _⟩
  · exact ⟨none, 0, by rw [h0, h1]⟩
  · exact ⟨_, _, hv⟩
/-- 'append(line, "..")' of a part behind which there is no room: new memory. -/
theorem app_full {ops : Array Oper} {rest : List Oper} {o : Oper} {a : Act} {Q : Exit → Act → World → Prop} {w : World} {b : Addr} {p : List UInt8} (hp : BIn w (.slice (some b) p.length p.length) p) (s : ByteArray) (h0 : 0 < s.size) (hl : p.length + s.size ≤ 1000000)
    (hgd : o.guard = none) (sl x : Operand) (ho : o.op = .call { callee := .builtin .append, args := #[sl, x], argTypes := #[22, 9] })
    (hs : a.eval sl = .slice (some b) p.length p.length) (hx : a.eval x = .string s)
    (hK : ∀ c w', (p ++ s.data.toList).length ≤ c → c ≤ 9223372036854775807 → Oc w' w.heap.size (p ++ s.data.toList) → Below w.heap.size w w' → wpList Tryz.prog ops Q rest (a.put o.dst (.slice (some ⟨w.heap.size, 0, none⟩) (p ++ s.data.toList).length c)) w') : wpList Tryz.prog ops Q (o :: rest) a w := by
  obtain ⟨i0, hi, hz0, hz1, hz2⟩ := info_parts bytes_info
  have hcell : ∀ j u, (Lib.byteCells p)[j]? = some u → w.cell? (b.add j) = some u := by
    intro j u hj
    have hjl : j < p.length := by
      have := (List.getElem?_eq_some_iff.1 hj).1
      rw [Lib.byteCells_length] at this; exact this
    obtain ⟨ao, cap, hv, _, _, hg⟩ := hp
    have hv1 : some b = ao := (Value.slice.inj hv).1
    rcases hg with h | ⟨b', o', h, hb, hc⟩
    · subst h; simp at hjl
    · rw [← hv1] at h
      cases h
      rw [Addr.add_lit, hc j hjl]
      rw [← hj]; simp [Lib.byteCells, hjl]
  have hz : s.data.toList.length = s.size := Oct.length_size s
  have hr := Lib.run_append_grow_string (P := Tryz.prog) w 22 9 o.type 5 i0 (.int .u8 0) Tryz.underlying22 Tryz.underlying9 hi hz0 b p.length p.length (Lib.byteCells p) (by rw [Lib.byteCells_length, hz1, Nat.mul_one]) hcell s (by omega) (by omega) (by rw [hz2]; exact growslice_fits (by omega) (by omega))
  have hge := grownCap_ge w (p.length + s.size) p.length 5
  have hle := grownCap_le_maxLen w (p.length + s.size) p.length 5 (by unfold maxLen; omega)
  have hb1 : Below w.heap.size w (w.drew.alloc (.cells ((Lib.byteCells p).toArray ++ (Lib.strCells s).toArray ++ Builtin.zeroCells (Value.int .u8 0).cells (grownCap w (p.length + s.size) p.length 5 - (p.length + s.size))) 5)) := (Below.refl _ w).drew.alloc (Nat.le_refl _) _
  have hlen : (p ++ s.data.toList).length = p.length + s.size := by rw [List.length_append, hz]
  have hO : Oc (w.drew.alloc (.cells ((Lib.byteCells p).toArray ++ (Lib.strCells s).toArray ++ Builtin.zeroCells (Value.int .u8 0).cells (grownCap w (p.length + s.size) p.length 5 - (p.length + s.size))) 5)) w.heap.size (p ++ s.data.toList) := by
    refine ⟨by simp, fun j hj => ?_⟩
    have hj0 := hj
    rw [hlen] at hj
    have e : Lib.byteCells (p ++ s.data.toList) = Lib.byteCells p ++ Lib.strCells s := by simp [Lib.byteCells, Lib.strCells]
    rw [show w.heap.size = w.drew.heap.size from rfl, World.cell?_alloc_at _ _ _ _ rfl]
    rw [show (Lib.byteCells p).toArray ++ (Lib.strCells s).toArray = (Lib.byteCells (p ++ s.data.toList)).toArray by rw [e]; simp]
    rw [Array.getElem?_append_left (by simp [Lib.byteCells, hz]; omega)]
    unfold Lib.byteCells
    rw [List.getElem?_toArray, List.getElem?_map, List.getElem?_eq_getElem hj0]; rfl
  refine wpList_plain hgd fun K hK2 => ?_
  have := hK _ _ (by rw [hlen]; exact hge) (by unfold maxLen at hle; exact hle) hO hb1
  rw [hlen] at this
  unfold Oper.wp execOp
  simp only [ho, resolve, invoke, builtin, Sem.run_bind, Sem.run_pure, Result.andThen_ok, List.map_toArray, List.map_cons, List.map_nil, hs, hx, hr]
  exact hK2 _ _ this

set_option maxHeartbeats 6400000 in
set_option maxRecDepth 100000 in
/-- A trailer's line is taken. -/
theorem trail_w (g k : Nat) (t : Int) (u : Value) (p : List UInt8) (w : World) (hp0 : p ≠ []) (hp : p.length ≤ 1000) (hk : k ≤ 128) (hd : DAt w g 3 0 t k 0) (hu : Part w u p) (hm : MaxOk w) :
    Calls Tryz.prog 137 #[.pointer (some ⟨g, 0, none⟩), u] w fun x w' => x = .returned (.int .i64 (Ck.tkTrail k p).2) ∧ But g w w' ∧ Dst w' g (Ck.tkTrail k p).1 0 := by
  have HA : Hid (∀ W : World, Below w.heap.size w W → DAt W g 3 0 t k 0) := Lib.hid (fun W hb => hd.later hb)
  have HD : Hid (∀ W : World, Below w.heap.size w W → Dst W g (.trail k) 0) := Lib.hid (fun W hb => ⟨hk, t, hd.later hb⟩)
  obtain ⟨hb, ao, rfl⟩ := hu
  have hb0 := hb
  obtain ⟨ao', cap, hv, _, _, hg⟩ := hb0
  injection hv with hv1 hv2 hv3
  subst hv1 hv3
  rcases hg with h | ⟨b, o, rfl, hbl, hc⟩
  · exact absurd h hp0
  have cP := fun (c : Nat) (W : World) (hlc : (p ++ [13, 10]).length ≤ c) (hc9 : c ≤ 9223372036854775807) (hO : Oc W w.heap.size (p ++ [13, 10])) (hbW : Below w.heap.size w W) => Parse_w w.heap.size c (p ++ [13, 10]) W (by rw [List.length_append]; simp; omega) hlc hc9 hO (hm.later hbW)
  have hlen2 : p.length + (⟨#[13, 10]⟩ : ByteArray).size ≤ 1000000 := by show p.length + 2 ≤ _; omega
  obtain ⟨⟨fs, n, e⟩, hq⟩ : ∃ x, Fld.parse (p ++ [13, 10]) = x := ⟨_, rfl⟩
  rw [hq] at cP
  simp only [] at cP
  obtain ⟨P, hP⟩ : ∃ P, P = p ++ [13, 10] := ⟨_, rfl⟩
  have hPs : p ++ (⟨#[13, 10]⟩ : ByteArray).data.toList = P := hP.symm
  rw [← hP] at cP
  by_cases he : e = 0
  case neg =>
    have HT := Lib.hid (Ck.tkTrail_err (n := k) he hq)
    have heb : (e != 0) = true := by simpa using he
    clear hq hP hv2 hbl hc hd hm hp hp0 hk he
    go_enter Tryz.func137, Tryz.ntmps137
    go_wp2_with (at_builtin; refine app_full hb ⟨#[13, 10]⟩ (by decide) hlen2 rfl (.tmp 9) (.const (.string ⟨#[13, 10]⟩)) rfl rfl rfl ?_; rw [hPs]; intro c W1 hlc hc9 hO1 hb1)
    refine (cP c W1 hlc hc9 hO1 hb1).mono ?_
    rintro e' W2 ⟨v2, rfl, hF⟩
    have hb2 := bt5 hb1 hF.2
    have hF1 := hF.1
    clear hF hO1
    go_wp2_with fail
    go_ret
    exact ⟨by rw [HT.out]; rfl, But.of hb2, by rw [HT.out]; exact HD.out _ hb2⟩
  subst he
  by_cases hf : fs.length = 0
  · obtain rfl : fs = [] := List.length_eq_zero_iff.1 hf
    have HT := Lib.hid (Ck.tkTrail_end (n := k) hq)
    clear hq hP hv2 hbl hc hd hm hp hp0 hk hf
    go_enter Tryz.func137, Tryz.ntmps137
    go_wp2_with (at_builtin; refine app_full hb ⟨#[13, 10]⟩ (by decide) hlen2 rfl (.tmp 9) (.const (.string ⟨#[13, 10]⟩)) rfl rfl rfl ?_; rw [hPs]; intro c W1 hlc hc9 hO1 hb1)
    refine (cP c W1 hlc hc9 hO1 hb1).mono ?_
    rintro e' W2 ⟨v2, rfl, hF⟩
    have hb2 := bt5 hb1 hF.2
    have hd2 := HA.out W2 hb2
    have hB2 : But g w W2 := But.of hb2
    obtain ⟨c0, c1, c2, c3, c4⟩ := hd2.cells
    obtain ⟨ao2, cp2, rfl⟩ := FBuf.len hF
    clear hF hO1
    have q1 := hd2.free 0
    go_wp2_with fail
    go_ret
    rw [HT.out]
    exact ⟨rfl, hB2.put 0 _, trivial, t, k, hd2.put 0 _ rfl⟩
  · have hT := Ck.tkTrail_ok (n := k) hq hf
    have hfi : ((fs.length : Int) == 0) = false := beq_eq_false_iff_ne.2 (by omega)
    have hfj : ¬ (fs.length : Int) = 0 := by omega
    generalize hFL : fs.length = FL at *
    by_cases hk8 : k = 128
    · rw [if_pos hk8] at hT
      have HT := Lib.hid hT
      have hki : ((k : Int) == 128) = true := by rw [hk8]; rfl
      clear hq hP hv2 hbl hc hd hm hp hp0 hk hf hT hk8
      go_enter Tryz.func137, Tryz.ntmps137
      go_wp2_with (at_builtin; refine app_full hb ⟨#[13, 10]⟩ (by decide) hlen2 rfl (.tmp 9) (.const (.string ⟨#[13, 10]⟩)) rfl rfl rfl ?_; rw [hPs]; intro c W1 hlc hc9 hO1 hb1)
      refine (cP c W1 hlc hc9 hO1 hb1).mono ?_
      rintro e' W2 ⟨v2, rfl, hF⟩
      have hb2 := bt5 hb1 hF.2
      have hd2 := HA.out W2 hb2
      have hB2 : But g w W2 := But.of hb2
      obtain ⟨c0, c1, c2, c3, c4⟩ := hd2.cells
      obtain ⟨ao2, cp2, rfl⟩ := FBuf.len hF
      clear hF hO1
      go_wp2_with fail
      go_ret
      exact ⟨by rw [HT.out]; rfl, hB2, by rw [HT.out]; exact HD.out _ hb2⟩
    · rw [if_neg hk8] at hT
      have HT := Lib.hid hT
      have HK : Hid (k + 1 ≤ 128) := Lib.hid (by omega)
      have hki : ((k : Int) == 128) = false := beq_eq_false_iff_ne.2 (by omega)
      have hkj : ¬ (k : Int) = 128 := by omega
      have hk1 : (k : Int) < 128 := by omega
      clear hq hP hv2 hbl hc hd hm hp hp0 hf hT hk8
      go_enter Tryz.func137, Tryz.ntmps137
      go_wp2_with (at_builtin; refine app_full hb ⟨#[13, 10]⟩ (by decide) hlen2 rfl (.tmp 9) (.const (.string ⟨#[13, 10]⟩)) rfl rfl rfl ?_; rw [hPs]; intro c W1 hlc hc9 hO1 hb1)
      refine (cP c W1 hlc hc9 hO1 hb1).mono ?_
      rintro e' W2 ⟨v2, rfl, hF⟩
      have hb2 := bt5 hb1 hF.2
      have hd2 := HA.out W2 hb2
      have hB2 : But g w W2 := But.of hb2
      obtain ⟨c0, c1, c2, c3, c4⟩ := hd2.cells
      obtain ⟨ao2, cp2, rfl⟩ := FBuf.len hF
      clear hF hO1
      have q1 := hd2.free 3
      go_wp2_with fail
      go_ret
      rw [HT.out]
      refine ⟨rfl, hB2.put 3 _, HK.out, t, ?_⟩
      have := hd2.put (a' := 3) (n' := 0) (t' := t) (k' := (k : Int) + 1) (e' := 0) 3 (.int .i64 ((k : Int) + 1)) rfl
      exact this

end Go.Proofs.YtlbjjeonchcgbaaGreatDoor

namespace Go.Proofs.YtlbjjeonchcgbaaGreatDoor
open Go.RowKit

theorem Part.nil {w : World} {u : Value} {p : List UInt8} (h : Part w u p) : NilOk u := by
  obtain ⟨⟨ao, cap, hv, h1, h2, hg⟩, ao', hv'⟩ := h
  intro c hc
  rw [hv'] at hc
  have h3 := (Value.slice.inj hc).2
  omega
set_option maxHeartbeats 6400000 in
set_option maxRecDepth 100000 in
theorem take_size (g : Nat) (t : Nat) (u : Value) (p : List UInt8) (w : World) (_hp0 : p ≠ []) (hp : p.length ≤ 1000) (ht : t ≤ 1048576) (hd : DAt w g 0 0 t 0 0) (hm : MaxOk w) (hu : Part w u p) :
    Calls Tryz.prog 114 #[.pointer (some ⟨g, 0, none⟩), u] w fun x w' => x = .returned (.int .i64 (Ck.tk (.size t) p).2) ∧ But g w w' ∧ Dst w' g (Ck.tk (.size t) p).1 0 := by
  have cS := size_w g t p w hp ht hd hm
  have hcv := hu.1.all hu.nil
  obtain ⟨c0, _, _, _, _⟩ := hd.cells
  obtain ⟨_, ao, rfl⟩ := hu
  generalize str p = X at *
  clear hp ht hd hm
  go_enter Tryz.func114, Tryz.ntmps114
  go_wp2_with fail
  refine cS.mono ?_
  rintro e W1 ⟨rfl, hB, hD⟩
  go_wp2_with fail
  go_ret
  exact ⟨rfl, hB, hD⟩
set_option maxHeartbeats 6400000 in
set_option maxRecDepth 100000 in
theorem take_trail (g : Nat) (k : Nat) (t : Int) (u : Value) (p : List UInt8) (w : World) (hp0 : p ≠ []) (hp : p.length ≤ 1000) (hk : k ≤ 128) (hd : DAt w g 3 0 t k 0) (hm : MaxOk w) (hu : Part w u p) :
    Calls Tryz.prog 114 #[.pointer (some ⟨g, 0, none⟩), u] w fun x w' => x = .returned (.int .i64 (Ck.tk (.trail k) p).2) ∧ But g w w' ∧ Dst w' g (Ck.tk (.trail k) p).1 0 := by
  have cS := trail_w g k t u p w hp0 hp hk hd hu hm
  obtain ⟨c0, _, _, _, _⟩ := hd.cells
  obtain ⟨_, ao, rfl⟩ := hu
  clear hp hp0 hk hd hm
  go_enter Tryz.func114, Tryz.ntmps114
  go_wp2_with fail
  refine cS.mono ?_
  rintro e W1 ⟨rfl, hB, hD⟩
  go_wp2_with fail
  go_ret
  exact ⟨rfl, hB, hD⟩
set_option maxHeartbeats 6400000 in
set_option maxRecDepth 100000 in
theorem take_data (g : Nat) (t n : Nat) (u : Value) (p : List UInt8) (w : World) (_hp0 : p ≠ []) (hp : p.length < n) (hn : n ≤ t) (ht : t ≤ 1048576) (hd : DAt w g 1 n t 0 0) (hu : Part w u p) :
    Calls Tryz.prog 114 #[.pointer (some ⟨g, 0, none⟩), u] w fun x w' => x = .returned (.int .i64 (Ck.tk (.data t n) p).2) ∧ But g w w' ∧ Dst w' g (Ck.tk (.data t n) p).1 0 := by
  obtain ⟨c0, c1, c2, c3, c4⟩ := hd.cells
  have q1 := hd.free 1
  have q0 := hd.free 0
  have HDA := Lib.hid hd
  obtain ⟨_, ao, rfl⟩ := hu
  obtain ⟨K, hK⟩ : ∃ K, K = p.length := ⟨_, rfl⟩
  have hKi : (K : Int) ≤ n := by omega
  have hni : (n : Int) ≤ 1048576 := by omega
  have hT : Ck.tk (.data t n) p = (.data t (n - p.length), 0) := by
    show (Ck.sD t (n - p.length), (0 : Int)) = _
    unfold Ck.sD; rw [if_neg (by omega)]
  rw [← hK] at hT
  have HT := Lib.hid hT
  have HG : Hid (Ck.Good (.data t (n - K))) := Lib.hid ⟨by omega, by omega, ht⟩
  have HE : Hid ((n : Int) - K = ((n - K : Nat) : Int)) := Lib.hid (by omega)
  have hz : ((n : Int) - K == 0) = false := beq_eq_false_iff_ne.2 (by omega)
  have hz2 : ¬ ((n : Int) - K = 0) := by omega
  have hz3 : ¬ ((n : Int) = K) := by omega
  rw [← hK]
  clear hp hn ht hd hT hK
  go_enter Tryz.func114, Tryz.ntmps114
  go_upto_region 6 with fail
  have hd1 : DAt (w.setCell ⟨g, 1, none⟩ (.int .i64 ((n : Int) - K))) g 1 ((n : Int) - K) t 0 0 := HDA.out.put 1 _ rfl
  have hB1 := (But.refl g w).put 1 (.int .i64 ((n : Int) - K))
  generalize w.setCell ⟨g, 1, none⟩ (.int .i64 ((n : Int) - K)) = W1 at *
  obtain ⟨c0, c1, c2, c3, c4⟩ := hd1.cells
  have q0 := hd1.free 0
  go_wp2_with fail
  go_ret
  rw [HT.out]
  refine ⟨rfl, hB1, HG.out, ?_⟩
  have := hd1
  rw [HE.out] at this
  exact this
set_option maxHeartbeats 6400000 in
set_option maxRecDepth 100000 in
theorem take_dataEnd (g : Nat) (t n : Nat) (u : Value) (p : List UInt8) (w : World) (_hp0 : p ≠ []) (hp : p.length = n) (hn : n ≤ t) (ht : t ≤ 1048576) (hd : DAt w g 1 n t 0 0) (hu : Part w u p) :
    Calls Tryz.prog 114 #[.pointer (some ⟨g, 0, none⟩), u] w fun x w' => x = .returned (.int .i64 (Ck.tk (.data t n) p).2) ∧ But g w w' ∧ Dst w' g (Ck.tk (.data t n) p).1 0 := by
  obtain ⟨c0, c1, c2, c3, c4⟩ := hd.cells
  have q1 := hd.free 1
  have q0 := hd.free 0
  have HDA := Lib.hid hd
  obtain ⟨_, ao, rfl⟩ := hu
  obtain ⟨K, hK⟩ : ∃ K, K = p.length := ⟨_, rfl⟩
  have hKi : (n : Int) - K = 0 := by omega
  have hni : (n : Int) ≤ 1048576 := by omega
  have hT : Ck.tk (.data t n) p = (.tail t, 0) := by
    show (Ck.sD t (n - p.length), (0 : Int)) = _
    unfold Ck.sD; rw [if_pos (by omega)]
  have HT := Lib.hid hT
  have HG : Hid (Ck.Good (.tail t)) := Lib.hid ht
  rw [← hK]
  clear hp hn ht hd hT hK
  go_enter Tryz.func114, Tryz.ntmps114
  go_upto_region 6 with fail
  have hd1 : DAt (w.setCell ⟨g, 1, none⟩ (.int .i64 0)) g 1 0 t 0 0 := HDA.out.put 1 _ rfl
  have hB1 := (But.refl g w).put 1 (.int .i64 0)
  generalize w.setCell ⟨g, 1, none⟩ (.int .i64 0) = W1 at *
  obtain ⟨c0, c1, c2, c3, c4⟩ := hd1.cells
  have q0 := hd1.free 0
  go_wp2_with fail
  go_ret
  rw [HT.out]
  exact ⟨rfl, hB1.put 0 _, HG.out, hd1.put 0 _ rfl⟩
set_option maxHeartbeats 6400000 in
set_option maxRecDepth 100000 in
theorem take_tail (g : Nat) (t : Nat) (u : Value) (p : List UInt8) (w : World) (_hp0 : p ≠ []) (hp : p = [13, 10]) (ht : t ≤ 1048576) (hd : DAt w g 2 0 t 0 0) (hu : Part w u p) :
    Calls Tryz.prog 114 #[.pointer (some ⟨g, 0, none⟩), u] w fun x w' => x = .returned (.int .i64 (Ck.tk (.tail t) p).2) ∧ But g w w' ∧ Dst w' g (Ck.tk (.tail t) p).1 0 := by
  have hcv := hu.1.all hu.nil
  obtain ⟨c0, c1, c2, c3, c4⟩ := hd.cells
  have q0 := hd.free 0
  have HDA := Lib.hid hd
  obtain ⟨_, ao, rfl⟩ := hu
  have HT : Hid (Ck.tk (.tail t) p = (.size t, 0)) := Lib.hid (by show (if p = [13, 10] then (Ck.S.size t, (0 : Int)) else (.tail t, 10)) = _; rw [if_pos hp])
  have HG : Hid (Ck.Good (.size t)) := Lib.hid ht
  rw [show str p = ⟨#[13, 10]⟩ by rw [hp]; rfl] at hcv
  rw [show p.length = 2 by rw [hp]; rfl] at hcv ⊢
  clear hp ht hd
  go_enter Tryz.func114, Tryz.ntmps114
  go_wp2_with fail
  go_ret
  rw [HT.out]
  exact ⟨rfl, (But.refl g w).put 0 _, HG.out, HDA.out.put 0 _ rfl⟩
set_option maxHeartbeats 6400000 in
set_option maxRecDepth 100000 in
theorem take_tailNot (g : Nat) (t : Nat) (u : Value) (p : List UInt8) (w : World) (_hp0 : p ≠ []) (hp : p ≠ [13, 10]) (ht : t ≤ 1048576) (hd : DAt w g 2 0 t 0 0) (hu : Part w u p) :
    Calls Tryz.prog 114 #[.pointer (some ⟨g, 0, none⟩), u] w fun x w' => x = .returned (.int .i64 (Ck.tk (.tail t) p).2) ∧ But g w w' ∧ Dst w' g (Ck.tk (.tail t) p).1 0 := by
  have hcv := hu.1.all hu.nil
  obtain ⟨c0, c1, c2, c3, c4⟩ := hd.cells
  have q0 := hd.free 0
  have HDA := Lib.hid hd
  obtain ⟨_, ao, rfl⟩ := hu
  have HT : Hid (Ck.tk (.tail t) p = (.tail t, 10)) := Lib.hid (by show (if p = [13, 10] then (Ck.S.size t, (0 : Int)) else (.tail t, 10)) = _; rw [if_neg hp])
  have HG : Hid (Ck.Good (.tail t)) := Lib.hid ht
  obtain ⟨g1, g2, g3⟩ := list_no (a := str p) (l := [13, 10]) (by rw [str_list]; exact hp)
  generalize str p = X at *
  generalize p.length = L at *
  clear hp ht hd
  go_enter Tryz.func114, Tryz.ntmps114
  go_wp2_with fail
  go_ret
  rw [HT.out]
  exact ⟨rfl, But.refl g w, HG.out, HDA.out⟩
/-- What part may come. -/
def Due (s : Ck.S) (p : List UInt8) : Prop := match s with
  | .size _ => p.length ≤ 1000
  | .data _ n => p.length ≤ n
  | .tail _ => True
  | .trail _ => p.length ≤ 1000
  | .over => False
/-- A part is taken. -/
theorem take_w (g : Nat) (s : Ck.S) (u : Value) (p : List UInt8) (w : World) (hp0 : p ≠ []) (hp : Due s p) (hd : Dst w g s 0) (hu : Part w u p) (hm : MaxOk w) :
    Calls Tryz.prog 114 #[.pointer (some ⟨g, 0, none⟩), u] w fun x w' => x = .returned (.int .i64 (Ck.tk (s) p).2) ∧ But g w w' ∧ Dst w' g (Ck.tk (s) p).1 0 := by
  obtain ⟨hg, hd⟩ := hd
  cases s with
  | size t => exact take_size g t u p w hp0 hp hg hd hm hu
  | data t n =>
    by_cases h : p.length = n
    · exact take_dataEnd g t n u p w hp0 h hg.2.1 hg.2.2 hd hu
    · exact take_data g t n u p w hp0 (Nat.lt_of_le_of_ne hp h) hg.2.1 hg.2.2 hd hu
  | tail t =>
    by_cases h : p = [13, 10]
    · exact take_tail g t u p w hp0 h hg hd hu
    · exact take_tailNot g t u p w hp0 h hg hd hu
  | trail k => obtain ⟨t, hd⟩ := hd; exact take_trail g k t u p w hp0 hp hg hd hm hu
  | over => exact hp.elim
end Go.Proofs.YtlbjjeonchcgbaaGreatDoor
