/- Both devices in one memory; acts as they come in. -/
import Derived.Test.YtlipgphmhkjnpaaDoorPgN
namespace Go.Proofs.YtlipgphmhkjnpaaDoor
open Go.RowKit

structure Both (Dev : World → Nat → Dv.S → (Nat → Prop) → Prop) (W w : World) (g r : Nat) (D E : Dv.S) (F R : Nat → Prop) : Prop where
  dev : Dev w g D F
  ref : RDev W.heap.size w r E R
  apart : ∀ k, F k → ¬ R k
  high : ∀ k, F k → W.heap.size ≤ k
  below : Below W.heap.size W w
section
variable {Env : World → Prop} {Dev : World → Nat → Dv.S → (Nat → Prop) → Prop} {W w w' : World} {g r : Nat} {D E D' E' : Dv.S} {F R F' R' : Nat → Prop}
theorem Both.later (Q : Prog13 Env Dev) (h : Both Dev W w g r D E F R) (hb : Below w.heap.size w w') : Both Dev W w' g r D E F R :=
  ⟨Q.keep h.dev hb.size (fun k hk => hb.block k (Q.lt h.dev k hk)), h.ref.keep hb.size (fun k hk _ => hb.block k hk), h.apart, h.high, bt5 h.below hb⟩
theorem Both.left (h : Both Dev W w g r D E F R) (hd : Dev w' g D' F') (ht : Touch F w w') (hm : More F F' w) : Both Dev W w' g r D' E F' R :=
  ⟨hd, h.ref.keep ht.size (fun k hk h9 => ht.block k hk (fun hf => by
    rcases h9 with h9 | h9
    · exact h.apart k hf h9
    · have := h.high k hf; omega)), fun k hk hr => by
    rcases hm k hk with h9 | h9
    · exact h.apart k h9 hr
    · have := h.ref.1 k hr; omega, fun k hk => by
    rcases hm k hk with h9 | h9
    · exact h.high k h9
    · have := h.below.size; omega, ht.below h.high h.below h.below.size⟩
theorem Both.right (Q : Prog13 Env Dev) (h : Both Dev W w g r D E F R) (hd : RDev W.heap.size w' r E' R') (ht : Touch R w w') (hm : More R R' w) : Both Dev W w' g r D E' F R' :=
  ⟨Q.keep h.dev ht.size (fun k hk => ht.block k (Q.lt h.dev k hk) (h.apart k hk)), hd, fun k hk hr => by
    rcases hm k hr with h9 | h9
    · exact h.apart k hk h9
    · have := Q.lt h.dev k hk; omega, h.high, ht.below h.ref.2.1 h.below h.below.size⟩
end

/-- .. and a block beside them. -/
structure Duo (Dev : World → Nat → Dv.S → (Nat → Prop) → Prop) (W w : World) (g r t : Nat) (o : Obj) (D E : Dv.S) (F R : Nat → Prop) : Prop where
  both : Both Dev W w g r D E F R
  blk : w.heap[t]? = some o
  nF : ¬ F t
  nR : ¬ R t
section
variable {Env : World → Prop} {Dev : World → Nat → Dv.S → (Nat → Prop) → Prop} {W w w' : World} {g r t : Nat} {o : Obj} {D E D' E' : Dv.S} {F R F' R' : Nat → Prop}
theorem heap_lt {w : World} {t : Nat} {o : Obj} (h : w.heap[t]? = some o) : t < w.heap.size := by
  by_cases h9 : t < w.heap.size
  · exact h9
  · rw [Array.getElem?_eq_none (by omega)] at h; cases h
theorem Duo.later (Q : Prog13 Env Dev) (h : Duo Dev W w g r t o D E F R) (hb : Below w.heap.size w w') : Duo Dev W w' g r t o D E F R :=
  ⟨h.both.later Q hb, by rw [hb.block t (heap_lt h.blk)]; exact h.blk, h.nF, h.nR⟩
theorem Duo.left (h : Duo Dev W w g r t o D E F R) (hd : Dev w' g D' F') (ht : Touch F w w') (hm : More F F' w) : Duo Dev W w' g r t o D' E F' R :=
  ⟨h.both.left hd ht hm, by rw [ht.block t (heap_lt h.blk) h.nF]; exact h.blk, fun hf => by
    rcases hm t hf with h9 | h9
    · exact h.nF h9
    · have := heap_lt h.blk; omega, h.nR⟩
theorem Duo.right (Q : Prog13 Env Dev) (h : Duo Dev W w g r t o D E F R) (hd : RDev W.heap.size w' r E' R') (ht : Touch R w w') (hm : More R R' w) : Duo Dev W w' g r t o D E' F R' :=
  ⟨h.both.right Q hd ht hm, by rw [ht.block t (heap_lt h.blk) h.nR]; exact h.blk, h.nF, fun hf => by
    rcases hm t hf with h9 | h9
    · exact h.nR h9
    · have := heap_lt h.blk; omega⟩
end
/-- .. and a sector of the law's own beside them. -/
structure Tri (Dev : World → Nat → Dv.S → (Nat → Prop) → Prop) (W w : World) (g r t : Nat) (o : Obj) (D E : Dv.S) (F R : Nat → Prop) (sb : Nat) (sec : List UInt8) : Prop where
  duo : Duo Dev W w g r t o D E F R
  blk : Blk w sb sec
  nF : ¬ F sb
  nR : ¬ R sb
theorem Blk.keep {w w' : World} {sb : Nat} {sec : List UInt8} (h : Blk w sb sec) (hk : w'.heap[sb]? = w.heap[sb]?) : Blk w' sb sec := by
  obtain ⟨C, h1, h2, h3⟩ := h
  exact ⟨C, by rw [hk]; exact h1, h2, h3⟩
section
variable {Env : World → Prop} {Dev : World → Nat → Dv.S → (Nat → Prop) → Prop} {W w w' : World} {g r t : Nat} {o : Obj} {D E D' E' : Dv.S} {F R F' R' : Nat → Prop} {sb : Nat} {sec : List UInt8}
theorem Tri.later (Q : Prog13 Env Dev) (h : Tri Dev W w g r t o D E F R sb sec) (hb : Below w.heap.size w w') : Tri Dev W w' g r t o D E F R sb sec :=
  ⟨h.duo.later Q hb, h.blk.keep (hb.block sb h.blk.lt), h.nF, h.nR⟩
theorem Tri.left (h : Tri Dev W w g r t o D E F R sb sec) (hd : Dev w' g D' F') (ht : Touch F w w') (hm : More F F' w) : Tri Dev W w' g r t o D' E F' R sb sec :=
  ⟨h.duo.left hd ht hm, h.blk.keep (ht.block sb h.blk.lt h.nF), fun hf => by
    rcases hm sb hf with h9 | h9
    · exact h.nF h9
    · have := h.blk.lt; omega, h.nR⟩
theorem Tri.right (Q : Prog13 Env Dev) (h : Tri Dev W w g r t o D E F R sb sec) (hd : RDev W.heap.size w' r E' R') (ht : Touch R w w') (hm : More R R' w) : Tri Dev W w' g r t o D E' F R' sb sec :=
  ⟨h.duo.right Q hd ht hm, h.blk.keep (ht.block sb h.blk.lt h.nR), h.nF, fun hf => by
    rcases hm sb hf with h9 | h9
    · exact h.nR h9
    · have := h.blk.lt; omega⟩
theorem Tri.box (Q : Prog13 Env Dev) (h : Tri Dev W w g r t o D E F R sb sec) (hs : sec.length = 64) :
    Tri Dev W (w.alloc (.cells #[.slice (some ⟨sb, 0, none⟩) 64 64] 23)) g r t o D E F R sb sec ∧ BsOut (fun k => F k ∨ R k) (w.alloc (.cells #[.slice (some ⟨sb, 0, none⟩) 64 64] 23)) (.slice (some ⟨w.heap.size, 0, none⟩) 1 1) [sec] := by
  refine ⟨h.later Q ((Below.refl _ w).alloc (Nat.le_refl _) _), bso_lit (F := fun k => F k ∨ R k) w #[.slice (some ⟨sb, 0, none⟩) 64 64] [sec] 1 rfl (by decide) (fun k hk => ?_) (fun j9 hj9 => ?_)⟩
  · rcases hk with hk | hk
    · exact Q.lt h.duo.both.dev k hk
    · exact h.duo.both.ref.1 k hk
  · match j9, hj9 with
    | 0, _ => exact ⟨_, rfl, h.blk.out (by show 64 = sec.length; rw [hs]) (by decide) (fun hf => by
        rcases hf with hf | hf
        · exact h.nF hf
        · exact h.nR hf)⟩
theorem bs_later {v : Value} {ls : List (List UInt8)} (h : BsOut F w v ls) (hb : Below w.heap.size w w') : BsOut F w' v ls := h.touch (Touch.of hb) (fun _ hk => .inl hk)
theorem bs_left {v : Value} {ls : List (List UInt8)} (h : BsOut (fun k => F k ∨ R k) w v ls) (ht : Touch F w w') (hm : More F F' w) : BsOut (fun k => F' k ∨ R k) w' v ls :=
  h.touch (ht.mono (fun k _ hk => .inl hk)) (fun k hk => by
    rcases hk with hk | hk
    · rcases hm k hk with h9 | h9
      · exact .inl (.inl h9)
      · exact .inr h9
    · exact .inl (.inr hk))
end
theorem wpOp_calls {P : Program} {ops : Array Oper} {Q : Exit → Act → World → Prop} {i : Nat} {o : Oper} {a : Act} {w : World} {J : Act → World → Prop} {f : FuncId} {args : Array Value} (ho : ops[i]? = some o) (hg : o.guard = none)
    (hr : (execOp a.eval o).run P w = .ok (.enter f args) w) (hc : Calls P f args w fun e w' => ∃ v, e = .returned v ∧ J (a.put o.dst v) w') : wpOp P ops Q i J a w := by
  refine wpOp_plain ho hg ?_
  unfold Oper.wp
  rw [hr]
  exact hc.mono fun e w' ⟨v, he, h⟩ => by subst he; exact h

/-! ### what came in -/
def ICame (W : World) (v : Value) (l : List Int) : Prop := ∃ ao cap, v = .slice ao l.length cap ∧ l.length ≤ cap ∧ cap ≤ 9223372036854775807 ∧ (l = [] ∨ ∃ b o, ao = some ⟨b, o, none⟩ ∧ b < W.heap.size ∧ ∀ j (hj : j < l.length), W.cell? ⟨b, o + j, none⟩ = some (.int .i64 l[j]))
def KCame14 (W : World) (v : Value) (l : List Bool) : Prop := ∃ ao cap, v = .slice ao l.length cap ∧ l.length ≤ cap ∧ cap ≤ 9223372036854775807 ∧ (l = [] ∨ ∃ b o, ao = some ⟨b, o, none⟩ ∧ b < W.heap.size ∧ ∀ j (hj : j < l.length), W.cell? ⟨b, o + j, none⟩ = some (.bool l[j]))
section
variable {W w : World} {F : Nat → Prop} {v : Value}
theorem bout_of {l : List UInt8} (h : BIn W v l) (hn : NilOk v) (hF : ∀ k, F k → W.heap.size ≤ k) (hb : Below W.heap.size W w) : BOut F w v l := by
  refine ⟨h.later hb, hn, fun ad n c e hl hf => ?_⟩
  obtain ⟨ao, cap, hv, _, _, h9 | ⟨b, o, e2, hb2, _⟩⟩ := h
  · exact hl h9
  · subst e2
    rw [hv] at e
    cases e
    have := hF _ hf
    simp only at this
    omega
theorem ICame.out {l : List Int} (h : ICame W v l) (hF : ∀ k, F k → W.heap.size ≤ k) (hb : Below W.heap.size W w) : IOut F w v l := by
  obtain ⟨ao, cap, hv, h1, h2, h3⟩ := h
  refine ⟨ao, cap, hv, h1, h2, ?_⟩
  rcases h3 with h3 | ⟨b, o, e, hb2, hc⟩
  · exact .inl h3
  · exact .inr ⟨b, o, e, Nat.lt_of_lt_of_le hb2 hb.size, fun hf => by have := hF _ hf; omega, fun j hj => cell_later hb (hc j hj)⟩
theorem ICame.bad {l : List Int} (h : ICame W v l) (hb : Below W.heap.size W w) : IBad W.heap.size w v l := by
  obtain ⟨ao, cap, hv, h1, h2, h3⟩ := h
  refine ⟨ao, cap, hv, h1, h2, ?_⟩
  rcases h3 with h3 | ⟨b, o, e, hb2, hc⟩
  · exact .inl h3
  · exact .inr ⟨b, o, e, Nat.lt_of_lt_of_le hb2 hb.size, hb2, fun j hj => cell_later hb (hc j hj)⟩
theorem KCame14.in_ {l : List Bool} (h : KCame14 W v l) (hF : ∀ k, F k → W.heap.size ≤ k) (hb : Below W.heap.size W w) : KIn F w v l := by
  obtain ⟨ao, cap, hv, h1, h2, h3⟩ := h
  refine ⟨ao, cap, hv, h1, h2, ?_⟩
  rcases h3 with h3 | ⟨b, o, e, hb2, hc⟩
  · exact .inl h3
  · exact .inr ⟨b, o, e, Nat.lt_of_lt_of_le hb2 hb.size, fun hf => by have := hF _ hf; omega, fun j hj => cell_later hb (hc j hj)⟩
end
structure ActV where
  do_ : Int
  at_ : Int
  kind : Int
  torn : Int
  part : Int
  body : List UInt8
  x : UInt8
  calls : List Int
  keep : List Bool
  vb : Value
  vc : Value
  vk : Value
def Word (n : Int) : Prop := -9223372036854775808 ≤ n ∧ n ≤ 9223372036854775807
structure ActIn (W : World) (b o : Nat) (a : ActV) : Prop where
  c0 : W.cell? ⟨b, o, none⟩ = some (.int .i64 a.do_)
  c1 : W.cell? ⟨b, o + 1, none⟩ = some (.int .i64 a.at_)
  c2 : W.cell? ⟨b, o + 2, none⟩ = some (.int .i64 a.kind)
  c3 : W.cell? ⟨b, o + 3, none⟩ = some a.vb
  c4 : W.cell? ⟨b, o + 4, none⟩ = some (.int .u8 (a.x.toNat : Int))
  c5 : W.cell? ⟨b, o + 5, none⟩ = some a.vc
  c6 : W.cell? ⟨b, o + 6, none⟩ = some a.vk
  c7 : W.cell? ⟨b, o + 7, none⟩ = some (.int .i64 a.torn)
  c8 : W.cell? ⟨b, o + 8, none⟩ = some (.int .i64 a.part)
  body : BIn W a.vb a.body ∧ NilOk a.vb
  calls : ICame W a.vc a.calls
  keep : KCame14 W a.vk a.keep
  words : Word a.at_ ∧ Word a.kind ∧ Word a.torn ∧ Word a.part
def ActsIn (W : World) (v : Value) (l : List ActV) : Prop := ∃ ao cap, v = .slice ao l.length cap ∧ l.length ≤ cap ∧ cap ≤ 9223372036854775807 ∧ (l = [] ∨ ∃ b o, ao = some ⟨b, o, none⟩ ∧ b < W.heap.size ∧ ∀ j (hj : j < l.length), ActIn W b (o + j * 9) l[j])
theorem mod40 (a : Int) : ∃ (q : Int) (k : Nat), a.tmod 40 = q ∧ IntKind.i64.wrap (q + 40) = q + 40 ∧ (q + 40).tmod 40 = k ∧ k < 40 ∧ IntKind.i64.wrap (1 + (k : Int)) = 1 + k := by
  have h1 : -40 < a.tmod 40 := by have := Int.lt_tmod_of_pos a (b := 40) (by decide); omega
  have h2 : a.tmod 40 < 40 := Int.tmod_lt_of_pos a (by decide)
  generalize a.tmod 40 = q at h1 h2
  have h4 := Int.emod_nonneg (q + 40) (b := 40) (by decide)
  have h5 := Int.emod_lt_of_pos (q + 40) (b := 40) (by decide)
  refine ⟨q, ((q + 40) % 40).toNat, rfl, ?_, ?_, ?_, ?_⟩
  · rw [IntKind.wrap_i64]; omega
  · rw [Int.tmod_eq_emod_of_nonneg (by omega)]; omega
  · omega
  · rw [IntKind.wrap_i64]; omega
end Go.Proofs.YtlipgphmhkjnpaaDoor
