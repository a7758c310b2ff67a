/- The statements of layer 8: what MessageTakes carries from piece to piece: what is told, the reader, the octets told. -/
import Derived.Test.YtlbjjeonchcgbaaGreatDoorMsP10
import Derived.Test.YtlbjjeonchcgbaaGreatDoorMs5
namespace Ck
theorem go_over_ok (b : L) : (go .over b).2.2.2 = 0 := by
  rw [go_more (show step .over b = .more from rfl)]
end Ck
namespace Fld
theorem fieldOf_named {l : List UInt8} {f : F} (h : fieldOf l = some f) : f.1 ≠ [] := by
  unfold fieldOf at h
  split at h
  · cases h
  · split at h
    · rename_i hr
      injection h with h
      subst h
      intro e
      unfold right at hr
      rw [e] at hr
      exact absurd hr (by simp [Oct.token])
    · cases h
theorem go_named (b : List UInt8) : ∀ (k n : Nat) (acc : List F), (∀ f ∈ acc, f.1 ≠ []) → ∀ f ∈ (go b k n acc).1, f.1 ≠ []
  | 0, _, _, _ => fun f hf => by cases hf
  | k + 1, n, acc, ha => by
    unfold go
    cases he : endAt b n with
    | none => exact fun f hf => by cases hf
    | some e =>
      simp only []
      split
      · exact fun f hf => by cases hf
      · split
        · exact ha
        · cases hf : fieldOf ((b.take e).drop n) with
          | none => exact fun f hf => by cases hf
          | some f =>
            simp only []
            split
            · exact fun f hf => by cases hf
            · refine go_named b k (e + 2) _ (fun q hq => ?_)
              rcases List.mem_append.1 hq with hq | hq
              · exact ha q hq
              · rw [List.mem_singleton.1 hq]; exact fieldOf_named hf
theorem parse_named (b : List UInt8) : ∀ f ∈ (parse b).1, f.1 ≠ [] := go_named b _ 0 [] (fun f hf => by cases hf)
end Fld
namespace Ms
theorem told_named (b : L) (asks : Bool) (m : L) : ∀ f ∈ (told b asks m).1.fields, f.1 ≠ [] := by
  unfold told
  repeat' split
  all_goals first | exact fun f hf => by cases hf | exact Fld.parse_named _
/-- Octets so far: A of l came, K were taken, acc was told, the reader stands at st. -/
structure So (l : L) (asks : Bool) (m : L) (A K : Nat) (acc : L) (st : S) : Prop where
  le : A ≤ l.length
  took : K ≤ A
  told : acc.length ≤ K
  run : go asks m .first (l.take A) = (acc, K, st, 0)
theorem So.start (l : L) (asks : Bool) (m : L) : So l asks m 0 0 [] .first := by
  refine ⟨Nat.zero_le _, Nat.le_refl _, Nat.le_refl _, ?_⟩
  rw [List.take_zero]
  exact first_wait (by cases asks <;> decide +kernel)
/-- The next piece, up to E. -/
theorem So.piece {l : L} {asks : Bool} {m : L} {A K : Nat} {acc : L} {st : S} (h : So l asks m A K acc st) {E : Nat} (hAE : A ≤ E) (_hE : E ≤ l.length) :
    go asks m .first (l.take E) = (acc ++ (go asks m st ((l.take E).drop K)).1, K + (go asks m st ((l.take E).drop K)).2.1, (go asks m st ((l.take E).drop K)).2.2) := by
  have e1 : l.take E = l.take A ++ (l.take E).drop A := by
    have h1 := List.take_append_drop A (l.take E)
    rw [List.take_take, Nat.min_eq_left hAE] at h1
    exact h1.symm
  have hr := h.run
  have hg := go_app asks m .first (l.take A) ((l.take E).drop A) (by rw [hr])
  rw [hr] at hg
  have hlA : (l.take A).length = A := by rw [List.length_take]; have := h.le; omega
  have e2 : (l.take A).drop K ++ (l.take E).drop A = (l.take E).drop K := by
    have h2 : (l.take E).drop K = (l.take A ++ (l.take E).drop A).drop K := by rw [← e1]
    rw [h2, List.drop_append_of_le_length (by rw [hlA]; exact h.took)]
  simp only [] at hg
  rw [e2] at hg
  rw [← e1] at hg
  rw [hg]
  rfl
theorem So.next {l : L} {asks : Bool} {m : L} {A K : Nat} {acc : L} {st : S} (h : So l asks m A K acc st) {E : Nat} (hAE : A ≤ E) (hE : E ≤ l.length) {x : L} {n : Nat} {st' : S} (hg : go asks m st ((l.take E).drop K) = (x, n, st', 0)) : So l asks m E (K + n) (acc ++ x) st' := by
  have hp := h.piece hAE hE
  rw [hg] at hp
  have hl := go_len asks m st ((l.take E).drop K)
  rw [hg] at hl
  simp only [List.length_drop, List.length_take] at hl
  have h1 := h.took
  have h2 := h.told
  refine ⟨hE, by omega, by rw [List.length_append]; omega, hp⟩
/-- A reader that is done finds no fault. -/
theorem done_ok {asks : Bool} {m : L} {st : S} {b : L} (h : (go asks m st b).2.2.2 ≠ 0) : isDone st = false := by
  cases st with
  | first => rfl
  | head s => rfl
  | sized s fs n => exact absurd rfl h
  | chunk s fs c =>
    cases hc : Ck.isOver c with
    | false => exact hc
    | true =>
      have : c = .over := by cases c <;> first | rfl | cases hc
      subst this
      exact absurd (Ck.go_over_ok b) h
end Ms
namespace Go.Proofs.YtlbjjeonchcgbaaGreatDoor
open Go.RowKit

/-- All cells of a row are octets. -/
def AllOct (w : World) (v : Value) : Prop := ∀ g n c, v = .slice (some ⟨g, 0, none⟩) n c → ∀ cur fz, w.heap[g]? = some (.cells cur 5 fz) → ∀ u ∈ cur.toList, ∃ i : Int, u = .int .u8 i
/-- A row of the call's own, all of whose cells are octets. -/
structure OctR (W : World) (B : Nat) (w : World) (v : Value) (l : List UInt8) : Prop where
  own : Own W B w v l
  all : AllOct w v
theorem OctR.nil {W w : World} {B : Nat} (h : Below W.heap.size W w) (h1 : W.heap.size ≤ B) (h2 : B ≤ w.heap.size) : OctR W B w (.slice none 0 0) [] :=
  ⟨Own.nil h h1 h2, fun g n c hv => by injection hv with hv; cases hv⟩
theorem OctR.after {W w w' : World} {B : Nat} {v : Value} {l : List UInt8} (h : OctR W B w v l) (hb : Below w.heap.size w w') : OctR W B w' v l := by
  refine ⟨h.own.after hb, fun g n c hv cur fz hh => ?_⟩
  rcases h.own.row.2 with ⟨h0, _⟩ | ⟨k, cap, cur0, hv0, _, hg, _⟩
  · rw [h0] at hv; injection hv with hv; cases hv
  · rw [hv0] at hv
    have hkg : k = g := by injection hv with hv; cases hv; rfl
    subst hkg
    rw [hb.block k (lt_of_block hg)] at hh
    exact h.all k _ _ hv0 cur fz hh
theorem byte_oct (m : List UInt8) : ∀ u ∈ Lib.byteCells m, ∃ i : Int, u = .int .u8 i := by
  intro u hu
  unfold Lib.byteCells at hu
  obtain ⟨d, _, rfl⟩ := List.mem_map.1 hu
  exact ⟨_, rfl⟩
theorem zero_oct (n : Nat) : ∀ u ∈ (Builtin.zeroCells (Value.int .u8 0).cells n).toList, ∃ i : Int, u = .int .u8 i := by
  intro u hu
  simp [Builtin.zeroCells, Value.cells] at hu
  obtain ⟨a, _, hu⟩ := hu
  rw [Nat.mod_one] at hu
  exact ⟨0, by simpa using hu.symm⟩
/-- 'append(b, c..)': the row's cells stay octets. -/
theorem appU {ops : Array Oper} {rest : List Oper} {o : Oper} {a : Act} {Q : Exit → Act → World → Prop} {W w : World} {B : Nat} {v u : Value} {l m : List UInt8} (h : OctR W B w v l) (hu : BIn w u m) (hnil : NilOk u) (hlen : l.length + m.length ≤ 1000000000)
    (hgd : o.guard = none) (s x : Operand) (ho : o.op = .call { callee := .builtin .append, args := #[s, x], argTypes := #[22, 22] })
    (hs : a.eval s = v) (hx : a.eval x = u)
    (hK : ∀ v' w', OctR W B w' v' (l ++ m) → w.grownBy w' v.ownBlock → wpList Tryz.prog ops Q rest (a.put o.dst v') w') : wpList Tryz.prog ops Q (o :: rest) a w := by
  obtain ⟨i0, hi, hz0, hz1, hz2⟩ := info_parts bytes_info
  obtain ⟨ao, cap, rfl, hlc, _, hg⟩ := hu
  cases ao with
  | none =>
    have h0 : m = [] := by
      rcases hg with h | ⟨b, o, h, _⟩
      · exact h
      · cases h
    subst h0
    obtain rfl : cap = 0 := hnil cap rfl
    refine wpList_append_own_none hgd s x _ ho B 5 i0 1 Tryz.underlying22 hi v l.length (Lib.byteCells l) hs h.own.row hx ?_
    have := hK v w
    rw [List.append_nil] at this
    exact this h ⟨rfl, rfl, rfl, Nat.le_refl _, fun _ _ _ => rfl⟩
  | some ad =>
    have hl : (Lib.byteCells m).length = m.length * 1 := by rw [Lib.byteCells_length]; omega
    have hnews : ∀ j c, (Lib.byteCells m)[j]? = some c → w.cell? (ad.add j) = some c := by
      intro j c hj
      have hjl : j < m.length := by
        have := (List.getElem?_eq_some_iff.1 hj).1
        rw [Lib.byteCells_length] at this; exact this
      rcases hg with h | ⟨b, o, h, hb, hc⟩
      · subst h; simp at hjl
      · cases h
        rw [Addr.add_lit, hc j hjl]
        rw [← hj]; simp [Lib.byteCells, hjl]
    have h1 : ∀ c ∈ Lib.byteCells m, c.oneCell' = true := by
      intro c hc
      obtain ⟨i, rfl⟩ := byte_oct m c hc
      rfl
    have hl' : (Lib.byteCells m).length = m.length * i0.size := by rw [hz1]; exact hl
    obtain ⟨v', w', hr, h2, h3, h4⟩ := run_append_own (P := Tryz.prog) w B 22 o.type 5 i0 (.int .u8 0) 1 1 Tryz.underlying22 hi hz0 hz1 hz2 rfl (by decide) v l.length (Lib.byteCells l) h.own.row ad m.length cap (Lib.byteCells m) hl hnews h1 (by unfold maxLen; omega) (by omega) h.own.le
    have hall : AllOct w' v' := by
      rcases h.own.row.2 with ⟨hv, hl0⟩ | ⟨g, c2, cur, hv, hgB, hh, hnc, hcm, hcs, htk⟩
      · by_cases hm : m.length = 0
        · have := h4.2 ⟨hv, hm⟩
          rw [this]
          intro g n c hv2
          injection hv2 with hv2; cases hv2
        · have he := run_append_nil (P := Tryz.prog) w 22 o.type 5 i0 (.int .u8 0) Tryz.underlying22 hi hz0 ad m.length cap (Lib.byteCells m) hl' hnews (by omega) (by omega) (by rw [hz2]; omega)
          rw [hv] at hr
          have hh := hr.symm.trans he
          injection hh with e1 e2
          subst e1 e2
          intro g n c hv2 cur fz hc
          injection hv2 with hv2
          cases hv2
          replace hc := (heap_alloc_new w.drew _).symm.trans hc
          injection hc with hc
          injection hc with hc _ _
          subst hc
          intro u hu
          rw [Array.toList_append] at hu
          rcases List.mem_append.1 hu with hu | hu
          · exact byte_oct m u (by simpa using hu)
          · exact zero_oct _ u hu
      · have hold := h.all g _ _ hv cur (0, 0) hh
        by_cases hroom : l.length + m.length ≤ c2
        · have he := run_append_room (P := Tryz.prog) w 22 o.type 5 i0 Tryz.underlying22 hi g l.length c2 cur hh ad m.length cap (Lib.byteCells m) hl' hnews h1 hroom (by rw [hz1]; omega)
          rw [hv] at hr
          have hh2 := hr.symm.trans he
          injection hh2 with e1 e2
          subst e1 e2
          intro g2 n c hv2 cur2 fz hc
          injection hv2 with hv2
          cases hv2
          rw [setRow_heap w g cur _ 5 _ hh] at hc
          injection hc with hc
          injection hc with hc _ _
          subst hc
          intro u hu
          simp only [] at hu
          rcases List.mem_append.1 hu with hu | hu
          · rcases List.mem_append.1 hu with hu | hu
            · exact hold u (List.mem_of_mem_take hu)
            · exact byte_oct m u hu
          · exact hold u (List.mem_of_mem_drop hu)
        · have holds : ∀ j u, (Lib.byteCells l)[j]? = some u → w.cell? ((⟨g, 0, none⟩ : Addr).add j) = some u := h.own.row.cells (g := g) (by rw [hv]; rfl)
          have he := run_append_grow (P := Tryz.prog) w 22 o.type 5 i0 (.int .u8 0) Tryz.underlying22 hi hz0 ⟨g, 0, none⟩ l.length c2 (Lib.byteCells l) (by rw [hz1, Lib.byteCells_length]; omega) holds ad m.length cap (Lib.byteCells m) hl' hnews (by omega) (by omega) (by rw [hz2]; exact growslice_fits (by omega) (by omega))
          rw [hv] at hr
          have hh2 := hr.symm.trans he
          injection hh2 with e1 e2
          subst e1 e2
          intro g2 n c hv2 cur2 fz hc
          injection hv2 with hv2
          cases hv2
          replace hc := (heap_alloc_new w.drew _).symm.trans hc
          injection hc with hc
          injection hc with hc _ _
          subst hc
          intro u hu
          rw [Array.toList_append, Array.toList_append] at hu
          rcases List.mem_append.1 hu with hu | hu
          · rcases List.mem_append.1 hu with hu | hu
            · exact byte_oct l u (by simpa using hu)
            · exact byte_oct m u (by simpa using hu)
          · exact zero_oct _ u hu
    refine wpList_plain hgd fun K hK2 => ?_
    have e : Lib.byteCells (l ++ m) = Lib.byteCells l ++ Lib.byteCells m := by simp [Lib.byteCells]
    have hk := hK v' w' ⟨⟨by rw [e, List.length_append]; exact h2, h.own.below.grown h3 h.own.below.size (fun k hk => Nat.le_trans h.own.ge (h.own.row.lt k hk).1), h.own.ge, Nat.le_trans h.own.le h3.size⟩, hall⟩ h3
    unfold Oper.wp execOp
    simp only [ho, resolve, invoke, builtin, Sem.run_bind, Sem.run_pure, Result.andThen_ok, List.map_toArray, List.map_cons, List.map_nil, hs, hx, hr]
    exact hK2 _ _ hk
/-- A reader is as it was where all but a row of octets is. -/
theorem Rdr.kept {B : Nat} {asks hd : Bool} {w w' : World} {g : Nat} {st : Ms.S} (h : Rdr B asks hd w g st) (hsz : w.heap.size ≤ w'.heap.size) (row : Option Nat) (hk : ∀ k, k < w.heap.size → some k ≠ row → w'.heap[k]? = w.heap[k]?)
    (hrow : ∀ k, row = some k → ∃ cur fz, w.heap[k]? = some (.cells cur 5 fz) ∧ ∀ u ∈ cur.toList, ∃ i : Int, u = .int .u8 i) : Rdr B asks hd w' g st := by
  obtain ⟨h1, h2, h3, d, fv, h4, h5, h6, h7, hR⟩ := h
  have hne : ∀ (k : Nat) (cs : Array Value) (T : TypeId) (fz : Nat × Nat), w.heap[k]? = some (.cells cs T fz) → T ≠ 5 → some k ≠ row := by
    intro k cs T fz hc hT he
    obtain ⟨cur, fz2, hh, _⟩ := hrow k he.symm
    rw [hc] at hh
    injection hh with hh
    injection hh with _ hh _
    exact hT hh
  refine ⟨h1, by omega, h3, d, fv, h4, by omega, h6, h7, ⟨hR.row.same (hk g hR.row.lt (hne g _ _ _ hR.row (by decide))), ?_, hR.nil, hR.fit, ?_, hR.off, hR.left, hR.short, hR.bare⟩⟩
  · obtain ⟨ao, cap, hv, hf⟩ := hR.fields
    refine ⟨ao, cap, hv, ?_⟩
    rcases hf with hf | ⟨b, o, e1, e2, e3⟩
    · exact .inl hf
    · by_cases hl : fieldsOf st = []
      · exact .inl hl
      · have hb : some b ≠ row := by
          intro he
          obtain ⟨cur, fz2, hh, hall⟩ := hrow b he.symm
          have hc := (e3 0 (List.length_pos_iff.2 hl)).1
          rw [cell_of_row _ _ _ _ _ _ hh, ← Array.getElem?_toList] at hc
          obtain ⟨i, hi⟩ := hall _ (List.mem_of_getElem? hc)
          cases hi
        have hbl := hk b e2 hb
        refine .inr ⟨b, o, e1, by omega, fun j hj => ?_⟩
        have := e3 j hj
        simp only [World.cell?] at this ⊢
        rw [hbl]; exact this
  · cases st with
    | chunk s fs c =>
      obtain ⟨q1, q2, q3⟩ := hR.dec
      obtain ⟨a, n, t, k, hD, _⟩ := q3.cells
      exact ⟨q1, q2, q3.same (hk d h5 (hne d _ _ _ hD (by decide)))⟩
    | first => trivial
    | head s => trivial
    | sized s fs n => trivial
theorem Rdr.later {B : Nat} {asks hd : Bool} {w w' : World} {g : Nat} {st : Ms.S} (h : Rdr B asks hd w g st) (hb : Below w.heap.size w w') : Rdr B asks hd w' g st :=
  h.kept hb.size none (fun k hk _ => hb.block k hk) (fun k hk => by cases hk)
theorem Rdr.grown {W : World} {B B2 : Nat} {asks hd : Bool} {w w' : World} {g : Nat} {st : Ms.S} {v : Value} {l : List UInt8} (h : Rdr B asks hd w g st) (ho : OctR W B2 w v l) (hg : w.grownBy w' v.ownBlock) : Rdr B asks hd w' g st := by
  refine h.kept hg.size v.ownBlock (fun k hk hne => hg.block k hk hne) (fun k hk => ?_)
  rcases ho.own.row.2 with ⟨h0, _⟩ | ⟨j, cap, cur, hv, _, hh, _⟩
  · rw [h0] at hk; cases hk
  · rw [hv] at hk
    simp only [Value.ownBlock, Option.some.injEq] at hk
    subst hk
    exact ⟨cur, (0, 0), hh, ho.all j _ _ hv cur _ hh⟩
theorem OctR.kin {W w w' : World} {B B2 : Nat} {v : Value} {l : List UInt8} (h : OctR W B w v l) (hk : Kin B2 w w') (hB : W.heap.size ≤ B2) : OctR W B w' v l := by
  have hb := hk.below
  refine ⟨⟨⟨h.own.row.1, ?_⟩, h.own.below.trans (hb.mono hB), h.own.ge, Nat.le_trans h.own.le hb.size⟩, fun g n c hv cur fz hh => ?_⟩
  · rcases h.own.row.2 with h0 | ⟨g, cap, cur, hv, hg, hh, rest⟩
    · exact .inl h0
    · exact .inr ⟨g, cap, cur, hv, hg, hk.octs g cur _ hh, rest⟩
  · rcases h.own.row.2 with ⟨h0, _⟩ | ⟨k, cap, cur0, hv0, _, hg, _⟩
    · rw [h0] at hv; injection hv with hv; cases hv
    · rw [hv0] at hv
      have hkg : k = g := by injection hv with hv; cases hv; rfl
      subst hkg
      rw [hk.octs k cur0 _ hg] at hh
      injection hh with hh
      injection hh with hh _ _
      subst hh
      exact h.all k _ _ hv0 _ _ hg
set_option maxRecDepth 100000 in
/-- What stands behind the first K octets, ahead of the E-th. -/
theorem slice_mid {w : World} {v : Value} {l : List UInt8} (h : BIn w v l) (hn : NilOk v) (K E : Nat) (hKE : K ≤ E) (hE : E ≤ l.length) :
    ∃ a n c, (∀ W, (Instr.sliceAt 22 v (some (.int .i64 K)) (some (.int .i64 E)) none).run Tryz.prog W = .ok (.slice a n c) W) ∧ (∀ W, BIn W v l → BIn W (.slice a n c) ((l.take E).drop K)) ∧ NilOk (.slice a n c) := by
  obtain ⟨ao, c, rfl, h1, h2, h3⟩ := h
  obtain ⟨L, v2⟩ : ∃ L, L = l.length := ⟨_, rfl⟩
  rw [← v2] at hn ⊢
  have hkL : (K : Int) ≤ E := by omega
  have hk0 : (0 : Int) ≤ K := by omega
  have he0 : (0 : Int) ≤ E := by omega
  have hEc : (E : Int) ≤ c := by omega
  have hl : ((l.take E).drop K).length = E - K := by rw [List.length_drop, List.length_take]; omega
  refine ⟨if c = K then ao else ao.map (·.add K), E - K, c - K, ?_, ?_, ?_⟩
  · intro W
    clear h3 h2 hn hE h1 v2 hl
    go_simp
  · rintro W ⟨ao', c', hv, q1, q2, q3⟩
    injection hv with v1 v3 v4
    subst v1 v4
    refine ⟨_, c - K, by rw [hl], by rw [hl]; omega, by omega, ?_⟩
    by_cases hkl : K = E
    · left; rw [List.drop_of_length_le (by rw [List.length_take]; omega)]
    · right
      rcases q3 with rfl | ⟨b, o, rfl, hb, hc⟩
      · simp at hE; omega
      · rw [if_neg (by omega)]
        simp only [Option.map_some]
        rw [Addr.add_lit]
        refine ⟨b, o + K, rfl, hb, fun j hj => ?_⟩
        rw [hl] at hj
        rw [Nat.add_assoc, hc (K + j) (by omega)]
        simp
  · intro x hx
    injection hx with k1 k2 k3
    cases ao with
    | none =>
      have hl0 : l = [] := by
        rcases h3 with h | ⟨b, o, h, _⟩
        · exact h
        · cases h
      subst hl0
      have hL0 : L = 0 := v2
      subst hL0
      have := hn c rfl
      omega
    | some ad =>
      split at k1
      · cases k1
      · cases k1
theorem set3 {w : World} {g : Nat} {a b c : Value} {t : TypeId} (hh : w.heap[g]? = some (.cells #[a, b, c] t (0, 0))) :
    w.cell? ⟨g, 0, none⟩ = some a ∧ w.cell? ⟨g, 1, none⟩ = some b ∧ w.cell? ⟨g, 2, none⟩ = some c := by
  simp [World.cell?, hh]
/-- Fields don't lie in a message's empty box. -/
theorem FIn.box_ne {w : World} {g : Nat} {v : Value} {fs : List Fld.F} (h : FIn w v fs) (hz : w.heap[g]? = some (.cells #[.string ⟨#[]⟩, .string ⟨#[]⟩, .int .i64 0, .string ⟨#[]⟩, .int .i64 0, .slice none 0 0, .slice none 0 0] 28 (0, 0))) (hname : ∀ f ∈ fs, f.1 ≠ []) (hl : fs ≠ []) (ad : Addr) (n c : Nat) (hv2 : v = .slice (some ad) n c) : ad.block ≠ g := by
  obtain ⟨ao, cap, hv, h⟩ := h
  rcases h with h | ⟨b, o, e1, e2, e3⟩
  · exact absurd h hl
  · rw [hv, e1] at hv2
    injection hv2 with hv2
    injection hv2 with hv2
    subst hv2
    have hpos := List.length_pos_iff.2 hl
    rintro rfl
    have hc := (e3 0 hpos).1
    rw [cell_of_row _ _ _ _ _ _ hz] at hc
    have hn := hname fs[0] (List.getElem_mem hpos)
    have hs : str fs[0].1 = ⟨#[]⟩ := by
      rcases o with _ | _ | _ | _ | _ | _ | _ | o <;> simp at hc <;> exact hc.symm
    exact hn (str_inj (hs.trans (rfl : (⟨#[]⟩ : ByteArray) = str [])))
/-- Fields read so where all but a block and a row of octets is as it was. -/
theorem FIn.far {w W : World} {g : Nat} {row : Option Nat} {v : Value} {fs : List Fld.F} (h : FIn w v fs) (hne : fs ≠ [] → ∀ ad n c, v = .slice (some ad) n c → ad.block ≠ g) (hsz : w.heap.size ≤ W.heap.size)
    (hrow : ∀ k, row = some k → ∃ cur fz, w.heap[k]? = some (.cells cur 5 fz) ∧ ∀ u ∈ cur.toList, ∃ i : Int, u = .int .u8 i) (hk : ∀ k, k < w.heap.size → k ≠ g → some k ≠ row → W.heap[k]? = w.heap[k]?) : FIn W v fs := by
  obtain ⟨ao, cap, hv, h⟩ := h
  refine ⟨ao, cap, hv, ?_⟩
  rcases h with h | ⟨b, o, e1, e2, e3⟩
  · exact .inl h
  · by_cases hl : fs = []
    · exact .inl hl
    · have hb : b ≠ g := hne hl ⟨b, o, none⟩ _ _ (by rw [hv, e1])
      have hr : some b ≠ row := by
        intro he
        obtain ⟨cur, fz2, hh, hall⟩ := hrow b he.symm
        have hc := (e3 0 (List.length_pos_iff.2 hl)).1
        rw [cell_of_row _ _ _ _ _ _ hh, ← Array.getElem?_toList] at hc
        obtain ⟨i, hi⟩ := hall _ (List.mem_of_getElem? hc)
        cases hi
      refine .inr ⟨b, o, e1, by omega, fun j hj => ?_⟩
      have := e3 j hj
      simp only [World.cell?] at this ⊢
      rw [hk b e2 hb hr]; exact this
theorem FIn.lt {w : World} {v : Value} {fs : List Fld.F} (h : FIn w v fs) (hl : fs ≠ []) (ad : Addr) (n c : Nat) (hv2 : v = .slice (some ad) n c) : ad.block < w.heap.size := by
  obtain ⟨ao, cap, hv, h⟩ := h
  rcases h with h | ⟨b, o, e1, e2, e3⟩
  · exact absurd h hl
  · rw [hv, e1] at hv2
    injection hv2 with hv2
    injection hv2 with hv2
    subst hv2
    exact e2
theorem put7 {W : World} {g : Nat} {a b c d e f h a' b' c' d' e' f' h' : Value} (hh : W.heap[g]? = some (.cells #[a, b, c, d, e, f, h] 28 (0, 0))) :
    (((((((W.setCell ⟨g, 0, none⟩ a').setCell ⟨g, 1, none⟩ b').setCell ⟨g, 2, none⟩ c').setCell ⟨g, 3, none⟩ d').setCell ⟨g, 4, none⟩ e').setCell ⟨g, 5, none⟩ f').setCell ⟨g, 6, none⟩ h').heap[g]? = some (.cells #[a', b', c', d', e', f', h'] 28 (0, 0)) := by
  simp [World.setCell, Array.getElem?_modify, hh]
theorem put7_buts (W : World) (g : Nat) (a' b' c' d' e' f' h' : Value) : Buts g g W (((((((W.setCell ⟨g, 0, none⟩ a').setCell ⟨g, 1, none⟩ b').setCell ⟨g, 2, none⟩ c').setCell ⟨g, 3, none⟩ d').setCell ⟨g, 4, none⟩ e').setCell ⟨g, 5, none⟩ f').setCell ⟨g, 6, none⟩ h') :=
  (((((((Buts.refl g g W).put 0 a').put 1 b').put 2 c').put 3 d').put 4 e').put 5 f').put 6 h'
/-- What is behind Told: a message in a block, whose fields lie elsewhere. -/
def Told9 (V : World) (W : World) (g N X : Nat) (fa ba : Option Addr) (fc bc : Nat) (z0 z1 z3 : ByteArray) (zs zm : Int) (fs : List Fld.F) : Prop :=
  W.heap[g]? = some (.cells #[.string z0, .string z1, .int .i64 zs, .string z3, .int .i64 zm, .slice fa N fc, .slice ba X bc] 28 (0, 0)) ∧ FIn W (.slice fa N fc) fs ∧ (fs ≠ [] → ∀ ad n c, (Value.slice fa N fc) = .slice (some ad) n c → ad.block ≠ g) ∧ Below V.heap.size V W ∧ V.heap.size ≤ g
theorem told9_new {V w : World} {N X : Nat} {fa ba : Option Addr} {fc bc : Nat} {fs : List Fld.F} (z0 z1 z3 : ByteArray) (zs zm : Int) (hf : FIn w (.slice fa N fc) fs) (hb : Below V.heap.size V w) :
    Told9 V (w.alloc (.cells #[.string z0, .string z1, .int .i64 zs, .string z3, .int .i64 zm, .slice fa N fc, .slice ba X bc] 28)) w.heap.size N X fa ba fc bc z0 z1 z3 zs zm fs :=
  ⟨heap_alloc_new w _, hf.later ((Below.refl _ w).alloc (Nat.le_refl _) _), fun hl ad n c hv => Nat.ne_of_lt (hf.lt hl ad n c hv), hb.alloc hb.size _, hb.size⟩
theorem told9_put {V w : World} {g N X : Nat} {fa ba : Option Addr} {fc bc : Nat} {fs : List Fld.F} (z0 z1 z3 : ByteArray) (zs zm : Int) (hf : FIn w (.slice fa N fc) fs) (hname : ∀ f ∈ fs, f.1 ≠ []) (hb : Below V.heap.size V w) (hg : V.heap.size ≤ g)
    (hz : w.heap[g]? = some (.cells #[.string ⟨#[]⟩, .string ⟨#[]⟩, .int .i64 0, .string ⟨#[]⟩, .int .i64 0, .slice none 0 0, .slice none 0 0] 28 (0, 0))) :
    ∃ W, W = (((((((w.setCell ⟨g, 0, none⟩ (.string z0)).setCell ⟨g, 1, none⟩ (.string z1)).setCell ⟨g, 2, none⟩ (.int .i64 zs)).setCell ⟨g, 3, none⟩ (.string z3)).setCell ⟨g, 4, none⟩ (.int .i64 zm)).setCell ⟨g, 5, none⟩ (.slice fa N fc)).setCell ⟨g, 6, none⟩ (.slice ba X bc)) ∧
      Told9 V W g N X fa ba fc bc z0 z1 z3 zs zm fs := by
  have hq := put7_buts w g (.string z0) (.string z1) (.int .i64 zs) (.string z3) (.int .i64 zm) (.slice fa N fc) (.slice ba X bc)
  refine ⟨_, rfl, put7 hz, hf.far (row := none) (fun hl ad n c hv => hf.box_ne hz hname hl ad n c hv) hq.size (fun k hk => by cases hk) (fun k hk hne _ => hq.block k hk hne hne), fun hl ad n c hv => hf.box_ne hz hname hl ad n c hv, hb.trans (hq.below hb.size hg hg), hg⟩
theorem OctR.msg {W w : World} {B : Nat} {v : Value} {l : List UInt8} {g : Nat} {C : Array Value} {fz : Nat × Nat} (h : OctR W B w v l) (hg : w.heap[g]? = some (.cells C 28 fz)) (hgW : W.heap.size ≤ g) (j : Nat) (y : Value) : OctR W B (w.setCell ⟨g, j, none⟩ y) v l := by
  have hsame : ∀ k, k ≠ g → (w.setCell ⟨g, j, none⟩ y).heap[k]? = w.heap[k]? := fun k hk => Below.heap_setCell _ _ _ _ (by simpa using hk)
  have hne : ∀ (k : Nat) (cur : Array Value) (fz2 : Nat × Nat), w.heap[k]? = some (.cells cur 5 fz2) → k ≠ g := by
    rintro k cur fz2 hc rfl
    rw [hg] at hc
    injection hc with hc
    injection hc with _ hc _
    exact absurd hc (by decide)
  refine ⟨⟨⟨h.own.row.1, ?_⟩, h.own.below.trans (putM_below _ hgW _), h.own.ge, by have := h.own.le; simp; omega⟩, fun g2 n c hv cur fz2 hh => ?_⟩
  · rcases h.own.row.2 with h0 | ⟨k, cap, cur, hv, hk, hh, rest⟩
    · exact .inl h0
    · exact .inr ⟨k, cap, cur, hv, hk, by rw [hsame k (hne k _ _ hh)]; exact hh, rest⟩
  · rcases h.own.row.2 with ⟨h0, _⟩ | ⟨k, cap, cur0, hv0, _, hk, _⟩
    · rw [h0] at hv; injection hv with hv; cases hv
    · rw [hv0] at hv
      have hkg : k = g2 := by injection hv with hv; cases hv; rfl
      subst hkg
      rw [hsame k (hne k _ _ hk)] at hh
      exact h.all k _ _ hv0 cur fz2 hh
/-- Of what was there, a row of octets alone may have changed. -/
structure Pres (w : World) (row : Option Nat) (W : World) : Prop where
  size : w.heap.size ≤ W.heap.size
  block : ∀ k, k < w.heap.size → some k ≠ row → W.heap[k]? = w.heap[k]?
theorem Pres.of {w W : World} (row : Option Nat) (h : Below w.heap.size w W) : Pres w row W := ⟨h.size, fun k hk _ => h.block k hk⟩
theorem Pres.below {w V W : World} {row : Option Nat} (h : Pres w row V) (hb : Below V.heap.size V W) : Pres w row W :=
  ⟨Nat.le_trans h.size hb.size, fun k hk hne => (hb.block k (Nat.lt_of_lt_of_le hk h.size)).trans (h.block k hk hne)⟩
theorem Pres.grown {w V W : World} {row : Option Nat} (h : Below w.heap.size w V) (hg : V.grownBy W row) : Pres w row W :=
  ⟨Nat.le_trans h.size hg.size, fun k hk hne => (hg.block k (Nat.lt_of_lt_of_le hk h.size) hne).trans (h.block k hk)⟩
theorem Pres.put {w V : World} {row : Option Nat} (h : Pres w row V) {g : Nat} (hg : w.heap.size ≤ g) (j : Nat) (y : Value) : Pres w row (V.setCell ⟨g, j, none⟩ y) :=
  ⟨by simp only [World.size_setCell]; exact h.size, fun k hk hne => by rw [Below.heap_setCell _ _ _ _ (by simp; omega)]; exact h.block k hk hne⟩
theorem Rdr.pres {W0 : World} {B B2 : Nat} {asks hd : Bool} {w W : World} {g : Nat} {st : Ms.S} {v : Value} {l : List UInt8} (h : Rdr B asks hd w g st) (ho : OctR W0 B2 w v l) (hp : Pres w v.ownBlock W) : Rdr B asks hd W g st := by
  refine h.kept hp.size v.ownBlock hp.block (fun k hk => ?_)
  rcases ho.own.row.2 with ⟨h0, _⟩ | ⟨j, cap, cur, hv, _, hh, _⟩
  · rw [h0] at hk; cases hk
  · rw [hv] at hk
    simp only [Value.ownBlock, Option.some.injEq] at hk
    subst hk
    exact ⟨cur, (0, 0), hh, ho.all j _ _ hv cur _ hh⟩
theorem Pres.keep {W0 : World} {B2 : Nat} {w W : World} {v : Value} {l : List UInt8} {p : Nat} {o : Obj} (hp : Pres w v.ownBlock W) (ho : OctR W0 B2 w v l) (hlt : p < B2) (h : w.heap[p]? = some o) : W.heap[p]? = some o := by
  rw [hp.block p (by
    rcases Nat.lt_or_ge p w.heap.size with h1 | h1
    · exact h1
    · rw [Array.getElem?_eq_none h1] at h; cases h) (fun e => by have := (ho.own.row.lt p e.symm).1; omega)]
  exact h
end Go.Proofs.YtlbjjeonchcgbaaGreatDoor
