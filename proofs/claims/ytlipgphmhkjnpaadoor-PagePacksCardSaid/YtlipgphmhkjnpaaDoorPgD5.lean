/- The document's own device (layer 13): octets laid into new memory; a row of writes grown. -/
import Derived.Test.YtlipgphmhkjnpaaDoorPgD4
import Derived.Test.YtlipgphmhkjnpaaDoorDvP3
namespace Go.Proofs.YtlipgphmhkjnpaaDoor
open Go.RowKit

/-- 'append(b, c..)' of octets of the call's own, as one operation. -/
theorem wp_append_octets {o : Oper} {a : Act} {K : Act → World → Prop} {Q : Exit → Act → World → Prop} {W w : World} {v u : Value} {l m : List UInt8} (h : Buf W w v l) (hu : BIn w u m) (hnil : NilOk u) (hlen : l.length + m.length ≤ 1000000000)
    (s x : Operand) (ho : o.op = .call { callee := .builtin .append, args := #[s, x], argTypes := #[23, 23] })
    (hs : a.eval s = v) (hx : a.eval x = u)
    (hK : ∀ v' w', Buf W w' v' (l ++ m) → (v ≠ .slice none 0 0 → v' ≠ .slice none 0 0) → K (a.put o.dst v') w') : o.wp Tryd.prog a w K Q := by
  obtain ⟨i0, hi, hz0, hz1, hz2⟩ := info_parts bytes_info
  obtain ⟨ao, cap, rfl, hlc, _, hg⟩ := hu
  cases ao with
  | none =>
    have h0 : m = [] := by
      rcases hg with h | ⟨b, o, h, _⟩
      · exact h
      · cases h
    subst h0
    obtain rfl : cap = 0 := hnil cap rfl
    have hrun := run_append_owned_none (P := Tryd.prog) (w := w) W.heap.size 23 o.type 5 i0 1 Tryd.underlying23 hi v l.length (Lib.byteCells l) h.1
    have hx' : a.eval x = .slice none 0 0 := hx
    unfold Oper.wp
    simp [execOp, ho, resolve, invoke, builtin, hs, hx', hrun, Result.andThen]
    have := hK v w
    rw [List.append_nil] at this
    exact this h id
  | some ad =>
    refine wp_append_own _ s x _ ho W.heap.size 5 i0 (.int .u8 0) 1 1 Tryd.underlying23 hi hz0 hz1 hz2 rfl (by decide) v l.length (Lib.byteCells l) hs h.1 ad m.length cap (Lib.byteCells m) hx (by rw [Lib.byteCells_length]; omega) ?_ ?_ (by unfold maxLen; omega) (by omega) h.2.size (fun v' w' h1 h2 h3 => ?_)
    · intro j c hj
      have hjl : j < m.length := by
        have := (List.getElem?_eq_some_iff.1 hj).1
        rw [Lib.byteCells_length] at this; exact this
      rcases hg with h | ⟨b, o, h, hb, hc⟩
      · subst h; simp at hjl
      · cases h
        rw [Addr.add_lit, hc j hjl]
        rw [← hj]; simp [Lib.byteCells, hjl]
    · intro c hc
      unfold Lib.byteCells at hc
      obtain ⟨d, _, rfl⟩ := List.mem_map.1 hc
      rfl
    · refine hK v' w' ⟨?_, h.2.grown h2 h.2.size (fun k hk => (h.1.lt k hk).1)⟩ (fun hv e => hv (h3.1 e).1)
      have e : Lib.byteCells (l ++ m) = Lib.byteCells l ++ Lib.byteCells m := by simp [Lib.byteCells]
      rw [e, List.length_append]; exact h1
/-- Octets of the call's own, in new memory. -/
theorem Buf.oin {F : Nat → Prop} {W w : World} {v : Value} {l : List UInt8} (h : Buf W w v l) (hl : l ≠ []) (hF : ∀ k, W.heap.size ≤ k → F k) : OIn F w v l := by
  rcases h.1.2 with ⟨_, h0⟩ | ⟨g, cap, cur, hv, hb, hh, h1, h2, h3, h4⟩
  · exact absurd (List.eq_nil_of_length_eq_zero h0) hl
  · refine ⟨g, 0, cap, cur, _, hv, h1, by unfold maxLen at h2; omega, hF g hb, hh, fun j hj => ?_⟩
    have e : (cur.toList.take (l.length * 1))[j]? = (Lib.byteCells l)[j]? := by rw [h4]
    rw [List.getElem?_take_of_lt (by omega)] at e
    rw [Nat.zero_add]
    simpa [Lib.byteCells, hj] using e
theorem rwrite_info : (Tryd.prog.info? 84).map (fun i => (i.zero.map (·.cells.size), i.size, i.bytes)) = some (some 2, 2, 32) := by kernel_rfl
theorem load_rwaits {w : World} {g k : Nat} {x : Option Addr} {l c : Nat} (h : w.cell? ⟨g, k, none⟩ = some (.slice x l c)) : (Instr.loadAt 79 (.pointer (some ⟨g, k, none⟩))).run Tryd.prog w = .ok (.slice x l c) w := by go_simp
theorem store_rwaits {w : World} {g k : Nat} {u : Value} {x : Option Addr} {l c : Nat} (h : w.cell? ⟨g, k, none⟩ = some u) (hf : w.frozen? ⟨g, k, none⟩ = false) : (Instr.storeAt 79 (.pointer (some ⟨g, k, none⟩)) (.slice x l c)).run Tryd.prog w = .ok () (w.setCell ⟨g, k, none⟩ (.slice x l c)) := by go_simp
theorem load_octs {w : World} {b k : Nat} {x : Option Addr} {l c : Nat} (h : w.cell? ⟨b, k, none⟩ = some (.slice x l c)) : (Instr.loadAt 23 (.pointer (some ⟨b, k, none⟩))).run Tryd.prog w = .ok (.slice x l c) w := by go_simp
/-- Behind an append onto the waits: all but their row is as it was. -/
theorem RMed.grown_waits {w w' : World} {g B : Nat} {F : Nat → Prop} {vs vw vb : Value} {us : List Value} {ws : List (Nat × Value)} {d : Dv.S} (h : RMed w g F B vs vw vb us ws d) (hg : w.grownBy w' vw.ownBlock) :
    w'.cell? ⟨g, 1, none⟩ = some vw ∧ w'.frozen? ⟨g, 1, none⟩ = false ∧ ∀ (vw' : Value) (ws' : List (Nat × Value)) (wt : List (Nat × Dv.Sec)), w'.ownsRow 0 84 2 vw' ws'.length (ws'.flatMap rwcells) → ws'.length = wt.length → (∀ j (h1 : j < ws'.length) (h2 : j < wt.length), ws'[j].1 = wt[j].1 ∧ OIn F w ws'[j].2 wt[j].2) → (∀ k, vw'.ownBlock = some k → F k) → (∀ x ∈ wt, x.1 < d.safe.length ∧ x.2.length = 64) →
      RMed (w'.setCell ⟨g, 1, none⟩ vw') g F B vs vw' vb us ws' { d with wait := wt } := by
  have ne : ∀ (k : Nat) (C : Array Value) (T : TypeId), w.heap[k]? = some (.cells C T (0, 0)) → T ≠ 84 → w'.heap[k]? = w.heap[k]? := fun k C T hb hT => hg.block k (lt_of_block hb) (fun e => by
    obtain ⟨C2, hC2⟩ := row_type h.wait e.symm
    exact ne_block hb hC2 hT rfl)
  have kg := ne g _ _ h.blk (by decide)
  have hb := kg.trans h.blk
  have ho : ∀ k C fr, F k → w.heap[k]? = some (.cells C 5 fr) → w'.heap[k]? = w.heap[k]? := fun k C fr _ hb9 => hg.block k (lt_of_block hb9) (fun e => by
    obtain ⟨C2, hC2⟩ := row_type h.wait e.symm
    exact ne_block hb9 hC2 (by decide) rfl)
  refine ⟨(blk_cell hb 1 _ rfl).1, (blk_cell hb 1 _ rfl).2, fun vw' ws' wt hw hl ht hF hgd => ?_⟩
  have hk2 : ∀ j, j ≠ g → (w'.setCell ⟨g, 1, none⟩ vw').heap[j]? = w'.heap[j]? := fun j hj => heap_setCell_other w' ⟨g, 1, none⟩ j vw' hj
  have ho2 : ∀ j C fr, F j → w.heap[j]? = some (.cells C 5 fr) → (w'.setCell ⟨g, 1, none⟩ vw').heap[j]? = w.heap[j]? := fun j C fr hf hb9 => (hk2 j (ne_block hb9 h.blk (by decide))).trans (ho j C fr hf hb9)
  refine ⟨heap_setCell_same w' g 1 _ _ vw' hb, ownsRow_keep h.safe (fun j hj => ?_), ownsRow_keep hw (fun j hj => ?_), h.lus, hl, fun j h1 h2 => (h.sec j h1 h2).keep (fun _ hf => hf) ho2, fun j h1 h2 => ⟨(ht j h1 h2).1, (ht j h1 h2).2.keep (fun _ hf => hf) ho2⟩, h.bad.keep (by simpa using hg.size) (fun j hjB hjs => ?_), h.hg, h.hs, hF, h.le, h.gS, hgd, h.hB, h.left⟩
  · obtain ⟨C2, hC2⟩ := row_type h.safe hj
    exact (hk2 j (ne_block hC2 h.blk (by decide))).trans (ne j C2 _ hC2 (by decide))
  · obtain ⟨C2, hC2⟩ := row_type hw hj
    exact hk2 j (ne_block hC2 hb (by decide))
  · refine (hk2 j (fun e => by have := h.hB g h.hg; omega)).trans (hg.block j hjs (fun e => ?_))
    have := h.hB j (h.hw j e.symm)
    omega
end Go.Proofs.YtlipgphmhkjnpaaDoor
