/- Whose memory a map is, how extents lie in memory, and what the program's package space is to answer, in one pack. -/
import Derived.Test.YtgfgafondiipoaaSpMathB
import Derived.Test.YtgfgafondiipoaaDvB
namespace Go.Proofs.Ytgfgafondiipoaa
open Go.RowKit

/-- All but the blocks of F is as it was. -/
structure Touch (F : Nat → Prop) (w w' : World) : Prop where
  os : w'.os = w.os
  tape : w'.tape = w.tape
  output : w'.output = w.output
  size : w.heap.size ≤ w'.heap.size
  block : ∀ k, k < w.heap.size → ¬ F k → w'.heap[k]? = w.heap[k]?
theorem Touch.of {F : Nat → Prop} {w w' : World} (h : Below w.heap.size w w') : Touch F w w' := ⟨h.os, h.tape, h.output, h.size, fun k hk _ => h.block k hk⟩
theorem Touch.below {F : Nat → Prop} {B : Nat} {a w w' : World} (h : Touch F w w') (hF : ∀ k, F k → B ≤ k) (hb : Below B a w) (hB : B ≤ w.heap.size) : Below B a w' :=
  hb.trans ⟨h.os, h.tape, h.output, h.size, fun k hk => h.block k (Nat.lt_of_lt_of_le hk hB) (fun hf => by have := hF k hf; omega)⟩
theorem Touch.refl (F : Nat → Prop) (w : World) : Touch F w w := ⟨rfl, rfl, rfl, Nat.le_refl _, fun _ _ _ => rfl⟩
theorem Touch.trans {F : Nat → Prop} {a b c : World} (h : Touch F a b) (h' : Touch F b c) : Touch F a c :=
  ⟨h'.os.trans h.os, h'.tape.trans h.tape, h'.output.trans h.output, Nat.le_trans h.size h'.size, fun k hk hn => (h'.block k (Nat.lt_of_lt_of_le hk h.size) hn).trans (h.block k hk hn)⟩
theorem Touch.mono {F F' : Nat → Prop} {a b : World} (h : Touch F a b) (hF : ∀ k, k < a.heap.size → F k → F' k) : Touch F' a b :=
  ⟨h.os, h.tape, h.output, h.size, fun k hk hn => h.block k hk (fun hf => hn (hF k hk hf))⟩
theorem Touch.cell {F : Nat → Prop} {w : World} {g : Nat} (hg : F g) (k : Nat) (v : Value) : Touch F w (w.setCell ⟨g, k, none⟩ v) :=
  ⟨rfl, rfl, rfl, by simp, fun j _ hn => heap_setCell_other w ⟨g, k, none⟩ j v (fun e => hn (by rw [e]; exact hg))⟩
theorem Touch.grown {F : Nat → Prop} {w w' : World} {row : Option Nat} (h : w.grownBy w' row) (hr : ∀ k, row = some k → F k) : Touch F w w' :=
  ⟨h.os, h.tape, h.output, h.size, fun j hj hn => h.block j hj (fun e => hn (hr j e.symm))⟩
/-- What was the map's own stays so, and new memory may be. -/
def More (F F' : Nat → Prop) (w : World) : Prop := ∀ k, F' k → F k ∨ w.heap.size ≤ k
/-- A thing in memory that lies behind what came in, below which nothing has turned. -/
structure Side (W w : World) (T : World → (Nat → Prop) → Prop) (F : Nat → Prop) : Prop where
  thing : T w F
  high : ∀ k, F k → W.heap.size ≤ k
  below : Below W.heap.size W w
theorem More.up {F F' : Nat → Prop} {B : Nat} {w : World} (h : More F F' w) (hF : ∀ k, F k → B ≤ k) (hB : B ≤ w.heap.size) : ∀ k, F' k → B ≤ k := fun k hk => by
  rcases h k hk with h | h
  · exact hF k h
  · omega
theorem Side.step {W w w' : World} {T T' : World → (Nat → Prop) → Prop} {F F' : Nat → Prop} (h : Side W w T F) (hT : T' w' F') (ht : Touch F w w') (hm : More F F' w) : Side W w' T' F' :=
  ⟨hT, hm.up h.high h.below.size, ht.below h.high h.below h.below.size⟩
theorem Side.later {W w w' : World} {T : World → (Nat → Prop) → Prop} {F : Nat → Prop} (h : Side W w T F) (hk : T w F → w.heap.size ≤ w'.heap.size → (∀ k, F k → w'.heap[k]? = w.heap[k]?) → T w' F) (hl : ∀ k, F k → k < w.heap.size) (hb : Below w.heap.size w w') : Side W w' T F :=
  ⟨hk h.thing hb.size (fun k hf => hb.block k (hl k hf)), h.high, bt5 h.below hb⟩

/-! ### cells, rows -/
theorem blk_cell {w : World} {g : Nat} {C : Array Value} {T : TypeId} (h : w.heap[g]? = some (.cells C T (0, 0))) (k : Nat) (v : Value) (hk : C[k]? = some v) : w.cell? ⟨g, k, none⟩ = some v ∧ w.frozen? ⟨g, k, none⟩ = false := by
  constructor
  · simp only [World.cell?, h]; simpa using hk
  · simp only [World.frozen?, h]; simp
theorem ownsRow_keep {w w' : World} {base : Nat} {e : TypeId} {size n : Nat} {v : Value} {xs : List Value} (h : w.ownsRow base e size v n xs) (hk : ∀ k, v.ownBlock = some k → w'.heap[k]? = w.heap[k]?) : w'.ownsRow base e size v n xs := by
  refine ⟨h.1, ?_⟩
  rcases h.2 with h0 | ⟨g, cap, cur, hv, hb, hh, rest⟩
  · exact .inl h0
  · exact .inr ⟨g, cap, cur, hv, hb, by rw [hk g (by rw [hv]; rfl)]; exact hh, rest⟩
theorem row_mono {w : World} {base base' e s n : Nat} {v : Value} {xs : List Value} (h : w.ownsRow base e s v n xs) (hb : base' ≤ base) : w.ownsRow base' e s v n xs := by
  refine ⟨h.1, ?_⟩
  rcases h.2 with h0 | ⟨g, cap, cur, hv, hg, hh, rest⟩
  · exact .inl h0
  · exact .inr ⟨g, cap, cur, hv, Nat.le_trans hb hg, hh, rest⟩
theorem own_shape {w : World} {base : Nat} {e : TypeId} {size n : Nat} {v : Value} {xs : List Value} (h : w.ownsRow base e size v n xs) : ∃ a c, v = .slice a n c ∧ n ≤ c ∧ c ≤ 9223372036854775807 := by
  rcases h.2 with ⟨hv, h0⟩ | ⟨g, cap, cur, hv, hb, hh, h1, h2, _⟩
  · exact ⟨none, 0, by rw [hv, h0], by omega, by decide⟩
  · exact ⟨_, cap, hv, h1, by unfold maxLen at h2; omega⟩
/-- An int64 in its range. -/
def I64 (x : Int) : Prop := -9223372036854775808 ≤ x ∧ x ≤ 9223372036854775807
/-- An extent by value. -/
def ext (e : Sp.Ext) : Value := .agg #[.int .i64 e.1, .int .i64 e.2]
def ecells (e : Sp.Ext) : List Value := [.int .i64 e.1, .int .i64 e.2]
/-- v reads as the extents, out of none of F's blocks. -/
def EsOut (F : Nat → Prop) (w : World) (v : Value) (es : List Sp.Ext) : Prop := ∃ ao cap, v = .slice ao es.length cap ∧ es.length ≤ cap ∧ cap ≤ 9223372036854775807 ∧
  (es = [] ∨ ∃ b o, ao = some ⟨b, o, none⟩ ∧ b < w.heap.size ∧ ¬ F b ∧ ∀ k (hk : k < es.length), w.cell? ⟨b, o + k * 2, none⟩ = some (.int .i64 es[k].1) ∧ w.cell? ⟨b, o + k * 2 + 1, none⟩ = some (.int .i64 es[k].2))
theorem EsOut.nil (F : Nat → Prop) (w : World) : EsOut F w (.slice none 0 0) [] := ⟨none, 0, rfl, Nat.le_refl _, by decide, .inl rfl⟩
theorem EsOut.touch {F F' : Nat → Prop} {w w' : World} {v : Value} {es : List Sp.Ext} (h : EsOut F w v es) (ht : Touch F w w') (hm : More F F' w) : EsOut F' w' v es := by
  obtain ⟨ao, cap, hv, h1, h2, h3⟩ := h
  refine ⟨ao, cap, hv, h1, h2, ?_⟩
  rcases h3 with h | ⟨b, o, e, hb, hF, hc⟩
  · exact .inl h
  · refine .inr ⟨b, o, e, Nat.lt_of_lt_of_le hb ht.size, fun hf => ?_, fun k hk => ?_⟩
    · rcases hm _ hf with h | h
      · exact hF h
      · exact absurd hb (Nat.not_lt.2 h)
    · rw [← (hc k hk).1, ← (hc k hk).2]
      exact ⟨World.cell?_of_block (a := ⟨b, o + k * 2, none⟩) (ht.block b hb hF), World.cell?_of_block (a := ⟨b, o + k * 2 + 1, none⟩) (ht.block b hb hF)⟩
theorem EsOut.later {F : Nat → Prop} {w w' : World} {v : Value} {es : List Sp.Ext} (h : EsOut F w v es) (hb : Below w.heap.size w w') : EsOut F w' v es := h.touch (Touch.of hb) (fun _ hk => .inl hk)
/-- Extents of a literal. -/
theorem es_lit {F : Nat → Prop} (w : World) (C : Array Value) (T : TypeId) (es : List Sp.Ext) (n : Nat) (hn : es.length = n) (h9 : n ≤ 1000000) (hF : ∀ k, F k → k < w.heap.size)
    (h : ∀ k (hk : k < es.length), C[k * 2]? = some (.int .i64 es[k].1) ∧ C[k * 2 + 1]? = some (.int .i64 es[k].2)) :
    EsOut F (w.alloc (.cells C T)) (.slice (some ⟨w.heap.size, 0, none⟩) n n) es := by
  have hr := heap_alloc_new w (.cells C T)
  refine ⟨_, n, by rw [hn], by omega, by omega, .inr ⟨w.heap.size, 0, rfl, by simp, fun hf => Nat.lt_irrefl _ (hF _ hf), fun k hk => ?_⟩⟩
  rw [Nat.zero_add]
  exact ⟨(blk_cell hr _ _ (h k hk).1).1, (blk_cell hr _ _ (h k hk).2).1⟩

/-- A box of the call's own, with an extent in it, that isn't the map's. -/
def Bx (F : Nat → Prop) (w : World) (g : Nat) (a n : Int) : Prop := w.heap[g]? = some (.cells #[.int .i64 a, .int .i64 n] 35 (0, 0)) ∧ ¬ F g
theorem Bx.made {F : Nat → Prop} (w : World) (a n : Int) (hF : ∀ k, F k → k < w.heap.size) : Bx F (w.alloc (.cells #[.int .i64 a, .int .i64 n] 35)) w.heap.size a n := ⟨heap_alloc_new w _, fun hf => Nat.lt_irrefl _ (hF _ hf)⟩
theorem Bx.touch {F F' : Nat → Prop} {w w' : World} {g : Nat} {a n : Int} (h : Bx F w g a n) (ht : Touch F w w') (hm : More F F' w) : Bx F' w' g a n := by
  have hl := lt_of_block h.1
  refine ⟨by rw [ht.block g hl h.2]; exact h.1, fun hf => ?_⟩
  rcases hm g hf with hf | hf
  · exact h.2 hf
  · omega
theorem Bx.later {F : Nat → Prop} {w w' : World} {g : Nat} {a n : Int} (h : Bx F w g a n) (hb : Below w.heap.size w w') : Bx F w' g a n := h.touch (Touch.of hb) (fun _ hk => .inl hk)
theorem Bx.c0 {F : Nat → Prop} {w : World} {g : Nat} {a n : Int} (h : Bx F w g a n) : w.cell? ⟨g, 0, none⟩ = some (.int .i64 a) := (blk_cell h.1 0 _ rfl).1
theorem Bx.c1 {F : Nat → Prop} {w : World} {g : Nat} {a n : Int} (h : Bx F w g a n) : w.cell? ⟨g, 1, none⟩ = some (.int .i64 n) := (blk_cell h.1 1 _ rfl).1
/-- One extent as a literal. -/
theorem es_one {F : Nat → Prop} (w : World) (a n : Int) (hF : ∀ k, F k → k < w.heap.size) : EsOut F (w.alloc (.cells #[.int .i64 a, .int .i64 n] 35)) (.slice (some ⟨w.heap.size, 0, none⟩) 1 1) [(a, n)] :=
  es_lit w _ _ _ 1 rfl (by decide) hF (fun k hk => by
    match k, hk with
    | 0, _ => exact ⟨rfl, rfl⟩)

/-- What the program's calls answer: MD w q m F says that the map at block q is m, and that all of it lies in F's blocks. -/
structure Prog16 (Env : World → Prop) (MD : World → Nat → Sp.M → (Nat → Prop) → Prop) : Prop where
  env : ∀ {w w' : World}, Env w → Below w.heap.size w w' → Env w'
  lt : ∀ {w : World} {q : Nat} {m : Sp.M} {F : Nat → Prop}, MD w q m F → ∀ k, F k → k < w.heap.size
  keep : ∀ {w w' : World} {q : Nat} {m : Sp.M} {F : Nat → Prop}, MD w q m F → w.heap.size ≤ w'.heap.size → (∀ k, F k → w'.heap[k]? = w.heap[k]?) → MD w' q m F
  new : ∀ (n : Int) (w : World), 1 ≤ n → n ≤ 65536 → Env w →
    Calls Try.prog 8 #[.int .i64 n] w fun e w' => ∃ q F, e = .returned (.tuple #[.pointer (some ⟨q, 0, none⟩), .int .i64 0]) ∧ MD w' q (Sp.new n.toNat) F ∧ Below w.heap.size w w' ∧ (∀ k, F k → w.heap.size ≤ k)
  new_no : ∀ (n : Int) (w : World), ¬ (1 ≤ n ∧ n ≤ 65536) → I64 n → Env w →
    Calls Try.prog 8 #[.int .i64 n] w fun e w' => e = .returned (.tuple #[.pointer none, .int .i64 2]) ∧ Below w.heap.size w w'
  take : ∀ (q : Nat) (m : Sp.M) (F : Nat → Prop) (n : Int) (w : World), MD w q m F → m.length ≤ 65536 → I64 n → Env w →
    Calls Try.prog 11 #[.pointer (some ⟨q, 0, none⟩), .int .i64 n] w fun e w' => ∃ F', e = .returned (.tuple #[ext (Sp.take n m).2.1, .bool (Sp.take n m).2.2]) ∧ MD w' q (Sp.take n m).1 F' ∧ Touch F w w' ∧ More F F' w
  pieces : ∀ (q : Nat) (m : Sp.M) (F : Nat → Prop) (n most : Int) (w : World), MD w q m F → m.length ≤ 65536 → I64 n → I64 most → Env w →
    Calls Try.prog 13 #[.pointer (some ⟨q, 0, none⟩), .int .i64 n, .int .i64 most] w fun e w' => ∃ F' v, e = .returned (.tuple #[v, .bool (Sp.pieces n most m).2.2]) ∧ MD w' q (Sp.pieces n most m).1 F' ∧ Touch F w w' ∧ More F F' w ∧ EsOut F' w' v ((Sp.pieces n most m).2.1.map Sp.ie) ∧ ∀ k, v.ownBlock = some k → w.heap.size ≤ k
  hold : ∀ (q : Nat) (m : Sp.M) (F : Nat → Prop) (v : Value) (es : List Sp.Ext) (w : World), MD w q m F → m.length ≤ 65536 → EsOut F w v es → (∀ e ∈ es, I64 e.1 ∧ I64 e.2) → es.length ≤ 1000 → Env w →
    Calls Try.prog 16 #[.pointer (some ⟨q, 0, none⟩), v] w fun e w' => ∃ F', e = .returned (.bool (Sp.hold es m).2) ∧ MD w' q (Sp.hold es m).1 F' ∧ Touch F w w' ∧ More F F' w
  give : ∀ (q : Nat) (m : Sp.M) (F : Nat → Prop) (v : Value) (es : List Sp.Ext) (w : World), MD w q m F → m.length ≤ 65536 → EsOut F w v es → (∀ e ∈ es, I64 e.1 ∧ I64 e.2) → es.length ≤ 1000 → Env w →
    Calls Try.prog 18 #[.pointer (some ⟨q, 0, none⟩), v] w fun e w' => ∃ F', e = .returned (.bool (Sp.give es m).2) ∧ MD w' q (Sp.give es m).1 F' ∧ Touch F w w' ∧ More F F' w
  commit : ∀ (q : Nat) (m : Sp.M) (F : Nat → Prop) (w : World), MD w q m F → m.length ≤ 65536 → Env w →
    Calls Try.prog 20 #[.pointer (some ⟨q, 0, none⟩)] w fun e w' => ∃ F' x, e = .returned x ∧ MD w' q (Sp.commit m) F' ∧ Touch F w w' ∧ More F F' w
  abort : ∀ (q : Nat) (m : Sp.M) (F : Nat → Prop) (w : World), MD w q m F → m.length ≤ 65536 → Env w →
    Calls Try.prog 22 #[.pointer (some ⟨q, 0, none⟩)] w fun e w' => ∃ F' x, e = .returned x ∧ MD w' q (Sp.abort m) F' ∧ Touch F w w' ∧ More F F' w
  free : ∀ (q : Nat) (m : Sp.M) (F : Nat → Prop) (w : World), MD w q m F → m.length ≤ 65536 → Env w →
    Calls Try.prog 9 #[.pointer (some ⟨q, 0, none⟩)] w fun e w' => ∃ F', e = .returned (.int .i64 (Sp.free m)) ∧ MD w' q m F' ∧ Touch F w w' ∧ More F F' w
  waiting : ∀ (q : Nat) (m : Sp.M) (F : Nat → Prop) (w : World), MD w q m F → m.length ≤ 65536 → Env w →
    Calls Try.prog 25 #[.pointer (some ⟨q, 0, none⟩)] w fun e w' => ∃ F', e = .returned (.int .i64 (Sp.waiting m)) ∧ MD w' q m F' ∧ Touch F w w' ∧ More F F' w
  runs : ∀ (q : Nat) (m : Sp.M) (F : Nat → Prop) (w : World), MD w q m F → m.length ≤ 65536 → Env w →
    Calls Try.prog 27 #[.pointer (some ⟨q, 0, none⟩)] w fun e w' => ∃ F' v, e = .returned v ∧ MD w' q m F' ∧ Touch F w w' ∧ More F F' w ∧ EsOut F' w' v ((Sp.runs 0 m).map Sp.ie)
end Go.Proofs.Ytgfgafondiipoaa
