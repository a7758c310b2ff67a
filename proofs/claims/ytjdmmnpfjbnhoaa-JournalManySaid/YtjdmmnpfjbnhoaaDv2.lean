/- Whose memory: blocks that are a device's own, and what stays as it was beside them; what the program's calls are to answer, in one pack. -/
import Derived.Test.YtjdmmnpfjbnhoaaDv1
namespace Go.Proofs.Ytjdmmnpfjbnhoaa
open Go.RowKit

/-- All but the blocks of F is as it was. -/
structure Touch (F : Nat → Prop) (w w' : World) : Prop where
  os : w'.os = w.os
  tape : w'.tape = w.tape
  output : w'.output = w.output
  size : w.heap.size ≤ w'.heap.size
  block : ∀ k, k < w.heap.size → ¬ F k → w'.heap[k]? = w.heap[k]?
theorem Touch.of {F : Nat → Prop} {w w' : World} (h : Below w.heap.size w w') : Touch F w w' := ⟨h.os, h.tape, h.output, h.size, fun k hk _ => h.block k hk⟩
theorem Touch.below {F : Nat → Prop} {B : Nat} {a w w' : World} (h : Touch F w w') (hF : ∀ k, F k → B ≤ k) (hb : Below B a w) (hB : B ≤ w.heap.size) : Below B a w' :=
  hb.trans ⟨h.os, h.tape, h.output, h.size, fun k hk => h.block k (Nat.lt_of_lt_of_le hk hB) (fun hf => by have := hF k hf; omega)⟩
/-- What was the device's own stays so, and new memory may be. -/
def More (F F' : Nat → Prop) (w : World) : Prop := ∀ k, F' k → F k ∨ w.heap.size ≤ k
/-- v reads as the octets, out of none of F's blocks. -/
def BOut (F : Nat → Prop) (w : World) (v : Value) (l : List UInt8) : Prop := BIn w v l ∧ NilOk v ∧ ∀ ad n c, v = .slice (some ad) n c → l ≠ [] → ¬ F ad.block
theorem BOut.touch {F F' : Nat → Prop} {w w' : World} {v : Value} {l : List UInt8} (h : BOut F w v l) (ht : Touch F w w') (hm : More F F' w) : BOut F' w' v l := by
  obtain ⟨⟨ao, cap, hv, h1, h2, h3⟩, hn, hF⟩ := h
  refine ⟨⟨ao, cap, hv, h1, h2, ?_⟩, hn, fun ad n c e hl hf => ?_⟩
  · rcases h3 with h | ⟨b, o, e, hb, hc⟩
    · exact .inl h
    · by_cases hl : l = []
      · exact .inl hl
      · refine .inr ⟨b, o, e, Nat.lt_of_lt_of_le hb ht.size, fun j hj => ?_⟩
        rw [← hc j hj]
        subst e
        exact World.cell?_of_block (a := ⟨b, o + j, none⟩) (ht.block b hb (hF _ _ _ hv hl))
  · rcases h3 with h | ⟨b, o, e2, hb, hc⟩
    · exact hl h
    · subst e2
      rw [hv] at e
      cases e
      rcases hm _ hf with h | h
      · exact hF _ _ _ hv hl h
      · exact absurd hb (Nat.not_lt.2 h)
/-- v reads as the sectors, out of none of F's blocks. -/
def BsOut (F : Nat → Prop) (w : World) (v : Value) (ls : List (List UInt8)) : Prop := ∃ ao cap, v = .slice ao ls.length cap ∧ ls.length ≤ cap ∧ cap ≤ 9223372036854775807 ∧
  (ls = [] ∨ ∃ b o, ao = some ⟨b, o, none⟩ ∧ b < w.heap.size ∧ ¬ F b ∧ ∀ j (hj : j < ls.length), ∃ u, w.cell? ⟨b, o + j, none⟩ = some u ∧ BOut F w u ls[j])
theorem BsOut.touch {F F' : Nat → Prop} {w w' : World} {v : Value} {ls : List (List UInt8)} (h : BsOut F w v ls) (ht : Touch F w w') (hm : More F F' w) : BsOut F' w' v ls := by
  obtain ⟨ao, cap, hv, h1, h2, h3⟩ := h
  refine ⟨ao, cap, hv, h1, h2, ?_⟩
  rcases h3 with h | ⟨b, o, e, hb, hF, hc⟩
  · exact .inl h
  · refine .inr ⟨b, o, e, Nat.lt_of_lt_of_le hb ht.size, fun hf => ?_, fun j hj => ?_⟩
    · rcases hm _ hf with h | h
      · exact hF h
      · exact absurd hb (Nat.not_lt.2 h)
    · obtain ⟨u, hu, hB⟩ := hc j hj
      exact ⟨u, by rw [← hu]; exact World.cell?_of_block (a := ⟨b, o + j, none⟩) (ht.block b hb hF), hB.touch ht hm⟩
theorem BsOut.in_ {F : Nat → Prop} {w : World} {v : Value} {ls : List (List UInt8)} (h : BsOut F w v ls) : BsIn w v ls := by
  obtain ⟨ao, cap, hv, h1, h2, h3⟩ := h
  refine ⟨ao, cap, hv, h1, h2, ?_⟩
  rcases h3 with h | ⟨b, o, e, hb, hF, hc⟩
  · exact .inl h
  · refine .inr ⟨b, o, e, hb, fun j hj => ?_⟩
    obtain ⟨u, hu, hB⟩ := hc j hj
    exact ⟨u, hu, hB.1, hB.2.1⟩
theorem Blk.out {F : Nat → Prop} {w : World} {g n : Nat} {l : List UInt8} (h : Blk w g l) (hn : n = l.length) (h9 : n ≤ 1000000) (hF : ¬ F g) : BOut F w (.slice (some ⟨g, 0, none⟩) n n) l :=
  ⟨h.in_ hn (Nat.le_refl _) (by omega), some_ok _ _ _, fun ad k c e _ => by cases e; exact hF⟩
/-- A literal row of sectors. -/
theorem bso_lit {F : Nat → Prop} (w : World) (C : Array Value) (ls : List (List UInt8)) (n : Nat) (hn : ls.length = n) (hl : n ≤ 1000000) (hF : ∀ k, F k → k < w.heap.size) (h : ∀ j (hj : j < ls.length), ∃ u, C[j]? = some u ∧ BOut F w u ls[j]) : BsOut F (w.alloc (.cells C 22)) (.slice (some ⟨w.heap.size, 0, none⟩) n n) ls := by
  refine ⟨_, n, by rw [hn], by rw [hn]; exact Nat.le_refl _, by omega, .inr ⟨w.heap.size, 0, rfl, by simp, fun hf => Nat.lt_irrefl _ (hF _ hf), fun j hj => ?_⟩⟩
  obtain ⟨u, hu, hb⟩ := h j hj
  refine ⟨u, ?_, hb.touch (Touch.of ((Below.refl _ w).alloc (Nat.le_refl _) _)) (fun k hk => .inl hk)⟩
  rw [Nat.zero_add, World.cell?_alloc_at _ _ _ _ rfl]; exact hu

/-- v reads as Bools, out of none of F's blocks. -/
def KIn (F : Nat → Prop) (w : World) (v : Value) (l : List Bool) : Prop := ∃ ao cap, v = .slice ao l.length cap ∧ l.length ≤ cap ∧ cap ≤ 9223372036854775807 ∧ (l = [] ∨ ∃ b o, ao = some ⟨b, o, none⟩ ∧ b < w.heap.size ∧ ¬ F b ∧ ∀ j (hj : j < l.length), w.cell? ⟨b, o + j, none⟩ = some (.bool l[j]))
/-- v reads as numbers, out of none of F's blocks. -/
def IOut (F : Nat → Prop) (w : World) (v : Value) (l : List Int) : Prop := ∃ ao cap, v = .slice ao l.length cap ∧ l.length ≤ cap ∧ cap ≤ 9223372036854775807 ∧ (l = [] ∨ ∃ b o, ao = some ⟨b, o, none⟩ ∧ b < w.heap.size ∧ ¬ F b ∧ ∀ j (hj : j < l.length), w.cell? ⟨b, o + j, none⟩ = some (.int .i64 l[j]))
/-- api.Crash by value. -/
def mkCrash (v : Value) (torn p : Int) : Value := .agg #[v, .int .i64 torn, .int .i64 p]
/-- Sizes in reach. -/
def Fair (d : Dv.S) : Prop := d.n ≤ 1000000 ∧ d.wait.length ≤ 100000 ∧ d.safe.length ≤ 65536 ∧ d.bad.length ≤ 100000
/-- What the program's calls answer, where the world is as Env says: Dev w g d F says that the device at block g is d, and that all of it lies in F's blocks. -/
structure Prog13 (Env : World → Prop) (Dev : World → Nat → Dv.S → (Nat → Prop) → Prop) : Prop where
  env : ∀ {w w' : World}, Env w → Below w.heap.size w w' → Env w'
  lt : ∀ {w : World} {g : Nat} {d : Dv.S} {F : Nat → Prop}, Dev w g d F → ∀ k, F k → k < w.heap.size
  keep : ∀ {w w' : World} {g : Nat} {d : Dv.S} {F : Nat → Prop}, Dev w g d F → w.heap.size ≤ w'.heap.size → (∀ k, F k → w'.heap[k]? = w.heap[k]?) → Dev w' g d F
  new : ∀ (k : Nat) (w : World), 1 ≤ k → k ≤ 65536 → Env w →
    Calls Try.prog 5 #[.int .i64 k] w fun e w' => ∃ g F, e = .returned (.tuple #[.pointer (some ⟨g, 0, none⟩), .int .i64 0]) ∧ Dev w' g (Dv.init k) F ∧ Below w.heap.size w w' ∧ (∀ k, F k → w.heap.size ≤ k)
  write : ∀ (g : Nat) (d : Dv.S) (F : Nat → Prop) (at_ : Int) (v : Value) (ls : List (List UInt8)) (w : World), Dev w g d F → Fair d → BsOut F w v ls → ls.length ≤ 1000 → -9223372036854775808 ≤ at_ ∧ at_ ≤ 9223372036854775807 → Env w →
    Calls Try.prog 56 #[.pointer (some ⟨g, 0, none⟩), .int .i64 at_, v] w fun e w' => ∃ F', e = .returned (.int .i64 (Dv.write d at_ ls).2) ∧ Dev w' g (Dv.write d at_ ls).1 F' ∧ Touch F w w' ∧ More F F' w
  flush : ∀ (g : Nat) (d : Dv.S) (F : Nat → Prop) (w : World), Dev w g d F → Fair d → Env w →
    Calls Try.prog 21 #[.pointer (some ⟨g, 0, none⟩)] w fun e w' => ∃ F', e = .returned (.int .i64 (Dv.flush d).2) ∧ Dev w' g (Dv.flush d).1 F' ∧ Touch F w w' ∧ More F F' w
  read : ∀ (g : Nat) (d : Dv.S) (F : Nat → Prop) (at_ k : Int) (w : World), Dev w g d F → Fair d → -9223372036854775808 ≤ at_ ∧ at_ ≤ 9223372036854775807 → -9223372036854775808 ≤ k ∧ k ≤ 9223372036854775807 → Env w →
    Calls Try.prog 12 #[.pointer (some ⟨g, 0, none⟩), .int .i64 at_, .int .i64 k] w fun e w' => ∃ F' v, e = .returned (.tuple #[v, .int .i64 (Dv.read d at_ k).2.2]) ∧ Dev w' g (Dv.read d at_ k).1 F' ∧ Touch F w w' ∧ More F F' w ∧ BsOut F' w' v (Dv.read d at_ k).2.1
  crash : ∀ (g : Nat) (d : Dv.S) (F : Nat → Prop) (v : Value) (keep : List Bool) (torn p : Int) (w : World), Dev w g d F → Fair d → KIn F w v keep → -9223372036854775808 ≤ torn ∧ torn ≤ 9223372036854775807 → -9223372036854775808 ≤ p ∧ p ≤ 9223372036854775807 → Env w →
    Calls Try.prog 11 #[.pointer (some ⟨g, 0, none⟩), mkCrash v torn p] w fun e w' => ∃ F' x, e = .returned x ∧ Dev w' g (Dv.crash d keep torn p) F' ∧ Touch F w w' ∧ More F F' w
end Go.Proofs.Ytjdmmnpfjbnhoaa
