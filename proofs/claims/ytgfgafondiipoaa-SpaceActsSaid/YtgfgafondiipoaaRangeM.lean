/- A range over a method value ('for e := range m.runs'): the iterator is a function that takes its receiver ahead of yield. What the loop owes and is owed is as for a closure; the call of the iterator differs. -/
import Derived.Test.YtgfgafondiipoaaProg
import Derived.RangeFuncNested
import Derived.RangeFuncBound
import Derived.RangeFuncCalls
import Derived.RangeFuncLeaves
import Derived.RangeFuncBox
import Derived.WalkKit
namespace Go.Proofs.Ytgfgafondiipoaa
open Go.RowKit

/-- What a method that hands out one thing after another promises to every loop body: rv is its receiver. -/
def SeqM {α : Type} (F : Fence) (n : Nat) (P : Program) (gf : Nat) (rv : Value) (encs : α → Array Value) (Kp : World → World → Prop) (S Sp : List α → Prop) (N : Nat) (w : World) : Prop :=
  ∀ (l : Nat) (J Jx : List α → World → Prop) (W : World), Below w.heap.size w W → AbidesFrom W.heap.size J → AbidesFrom W.heap.size Jx →
    (∀ pre x X, J pre X → pre.length < N → YieldAt F (n - 1) P l (encs x) X fun e Y => (e = .returned (.bool true) ∧ J (pre ++ [x]) Y ∧ Kp X Y) ∨ (e = .returned (.bool false) ∧ Jx (pre ++ [x]) Y)) →
    J [] W → CallsIn F n P gf #[rv, .func (.yield l) #[] #[]] W fun e Y => (∃ v, e = .returned v) ∧ ((∃ xs, S xs ∧ J xs Y) ∨ (∃ pre, Sp pre ∧ Jx pre Y))

namespace RM
variable {F : Fence} {n : Nat} {P : Program} {w : World}
/-- The loop's record stands at the second block behind w, the block for deferred calls at the first. -/
structure Books (w : World) (r : Loop) (W : World) : Prop where
  rec_ : W.heap[w.heap.size + 1]? = some (.loop r)
  def_ : W.heap[w.heap.size]? = some (.deferred (some []))
theorem Books.abide {r : Loop} {A B : World} {row : Option Nat} (h : Books w r A) (hg : A.grownBy B row) (hr : ∀ k, row = some k → ∃ o : Obj, A.heap[k]? = some o ∧ o.isWalk = true) : Books w r B :=
  ⟨(grownBy_keeps hg hr h.rec_ rfl).trans h.rec_, (grownBy_keeps hg hr h.def_ rfl).trans h.def_⟩
theorem Books.keep {r : Loop} {A B : World} (h : Books w r A) (hk : KeepsFrom w.heap.size A B) : Books w r B :=
  ⟨hk.same _ _ (by omega) h.rec_ rfl, hk.same _ _ (Nat.le_refl _) h.def_ rfl⟩
theorem Books.put {r : Loop} {A : World} (h : Books w r A) (r' : Loop) : Books w r' (A.putObj (w.heap.size + 1) (.loop r')) :=
  ⟨World.putObj_heap_same (Array.getElem?_eq_some_iff.1 h.rec_).1, (World.putObj_heap_other (by omega)).trans h.def_⟩
/-- The body's word: on, or away by a jump. -/
abbrev Word {α : Type} (w : World) (Kp : World → World → Prop) (I : List α → World → Prop) (Ix : Code → List α → World → Prop) (s : List α) (W : World) : Exit → Act → World → Prop := ownPostG w.heap.size Kp I Ix s W

set_option maxHeartbeats 1000000 in
theorem wpIn_range {α : Type} {g : Operand} {ps : Array Tmp} {assign body : Code} {Q : Exit → Act → World → Prop} {a : Act}
    (hro : F.round = none) (h1 : 1 ≤ n) {gf : Nat} {rv : Value} (hg : a.eval g = .func (.func gf) #[rv] #[]) (hFg : F.fn gf) (eg : ∀ args w, (callFunc gf args).run P w = .ok (.enter gf args) w)
    {encs : α → Array Value} {Kp : World → World → Prop} {S Sp : List α → Prop} {N : Nat} {w0 : World} (hseq : SeqM F (n - 1) P gf rv encs Kp S Sp N w0)
    (hKt : ∀ {A B C : World}, Kp A B → Kp B C → Kp A C) (hKb : ∀ (W : World) (l : Nat) (o o' : Obj), w.heap.size ≤ l → W.heap[l]? = some o → o.isCells = false → o.isWalk = false → Kp W (W.putObj l o'))
    (hb0 : Below w0.heap.size w0 w) (hps : ∀ x, (encs x).size = ps.size)
    (I : List α → World → Prop) (Ix : Code → List α → World → Prop) (hI : OwnFrom w.heap.size I) (hIx : ∀ c, OwnFrom w.heap.size (Ix c)) (h0 : I [] w) (Ax : α → Act → World → Prop) (hAx : ∀ x a', OwnFrom w.heap.size (fun (_ : Unit) W => Ax x a' W))
    (hassign : ∀ (l : Nat) (pre : List α) (x : α) (W : World) (K : Act → World → Prop), I pre W → (∀ a' W', KeepsFrom w.heap.size W W' → Kp W W' → I pre W' → Ax x a' W' → K a' W') →
      assign.wpIn (F.inRound l) (n - 1 - 1) P (Exit.then K (fun _ _ _ => False)) { tmps := (ps.zip (encs x)).foldl (fun t (p, v) => t.setIfInBounds p v) a.tmps, defers := [] } W)
    (hbody : ∀ (l : Nat) (pre : List α) (x : α) (a' : Act) (W : World), w.heap.size ≤ l → I pre W → Ax x a' W → pre.length < N → body.wpIn (F.inRound l) (n - 1 - 1) P (Word w Kp I Ix (pre ++ [x]) W) a' W)
    (hdone : ∀ (D : Nat) (xs : List α) (W : World), w.heap.size ≤ D → S xs → I xs W → W.heap[D]? = some (.deferred (some [])) → Q .normal { a with defers := { target := .collected D, args := #[] } :: a.defers } W)
    (hstop : ∀ (D : Nat) (c : Code) (pre : List α) (W : World), w.heap.size ≤ D → Sp pre → Ix c pre W → W.heap[D]? = some (.deferred (some [])) → c.wpIn F n P Q { a with defers := { target := .collected D, args := #[] } :: a.defers } W) :
    (Code.rangeFunc g ps assign body).wpIn F n P Q a w := by
  refine wpIn_rangeFunc fun fn hfn => ?_
  rw [hro]
  obtain ⟨R, hR⟩ : ∃ R : LoopState → Option Code → Loop, R = fun st pe => { state := st, pending := pe, fn, tmps := a.tmps, params := ps, assign, body, defers := w.heap.size } := ⟨_, rfl⟩
  obtain ⟨X, hX⟩ : ∃ X, X = (w.alloc (.deferred (some []))).alloc (.loop (R .ready none)) := ⟨_, rfl⟩
  have bk : Books w (R .ready none) X := by
    rw [hX]
    have := World.alloc_heap_new (w.alloc (.deferred (some []))) (.loop (R .ready none))
    rw [World.size_alloc] at this
    exact ⟨this, (Below.heap_alloc _ _ _ (by simp)).trans (World.alloc_heap_new w _)⟩
  have hXw : X.heap.size = w.heap.size + 2 := by rw [hX]; simp
  have hIX : I [] X := by rw [hX]; exact hI.alloc _ (hI.alloc _ h0)
  have hbX : Below w0.heap.size w0 X := by rw [hX]; exact hb0.trans ((((Below.refl _ w).alloc (Nat.le_refl _) _).alloc (by simp) _).mono hb0.size)
  refine ⟨w.heap.size + 1, [{ target := .collected w.heap.size, args := #[] }], X, { target := .fn (.func gf) #[], args := #[rv, .func (.yield (w.heap.size + 1)) #[] #[]] }, X, gf, #[rv, .func (.yield (w.heap.size + 1)) #[] #[]], X, ?_, ?_, ?_, ?_, fun _ => h1, ?_⟩
  · rw [hX, hR]; exact run_enterLoop_outer _ _ _ _ _
  · simp only [resolve, hg]
    simp [go_sem]
  · intro f hf; simp [Target.leads] at hf; subst hf; exact hFg
  · simp [invoke, go_sem, eg]
  · have up : ∀ {A : World} {row : Option Nat}, (∀ r, row = some r → X.heap.size ≤ r ∧ ∃ o : Obj, A.heap[r]? = some o ∧ o.isWalk = true) → (∀ r, row = some r → w.heap.size ≤ r ∧ ∃ o : Obj, A.heap[r]? = some o ∧ o.isCells = false) :=
      fun hr r e => by obtain ⟨hB, o, ho, hw⟩ := hr r e; exact ⟨by omega, o, ho, Obj.not_cells_of_walk hw⟩
    refine (hseq (w.heap.size + 1) (fun pre W => I pre W ∧ Books w (R .ready none) W) (fun pre W => ∃ c, Ix c pre W ∧ Books w (R .done (some c)) W) X hbX
      (fun s A B row hs hg' hr => ⟨hI s A B row hs.1 hg' (up hr), hs.2.abide hg' (fun r e => (hr r e).2)⟩)
      (fun s A B row hs hg' hr => by
        obtain ⟨c, hc, hb⟩ := hs
        exact ⟨c, hIx c s A B row hc hg' (up hr), hb.abide hg' (fun r e => (hr r e).2)⟩) ?_ ⟨hIX, bk⟩).mono ?_
    · rintro pre x W ⟨hi, hb⟩ hlen
      have hy := run_yield (P := P) (args := encs x) hb.rec_ (by rw [hR]; exact hps x)
      rw [hR] at hy
      refine ⟨fn, _, assign, body, hy, roundIn_of_wpIn hfn (hassign _ pre x W _ hi ?_)⟩
      clear hy
      intro a' Wa hkf hkp hia hax
      have hba := hb.keep hkf
      refine ⟨_, run_beginRound hba.rec_ (by rw [hR]), ?_⟩
      have hbb := hba.put { R .ready none with state := .busy }
      have hkb : Kp Wa (Wa.putObj (w.heap.size + 1) (.loop { R .ready none with state := .busy })) := hKb _ _ _ _ (by omega) hba.rec_ rfl rfl
      refine wpIn_mono (hbody _ pre x a' _ (by omega) (hI.putObj _ hia (by omega) hba.rec_ rfl) ((hAx x a').putObj (s := ()) _ hax (by omega) hba.rec_ rfl) hlen) ?_
      have fin : ∀ (jump : Option Code) (Y : World), KeepsFrom w.heap.size (Wa.putObj (w.heap.size + 1) (.loop { R .ready none with state := .busy })) Y →
          (Instr.endRound (w.heap.size + 1) jump).run P Y = .ok (.bool jump.isNone) (Y.putObj (w.heap.size + 1) (.loop (R (if jump.isNone then .ready else .done) jump))) ∧ Books w { R .ready none with state := .busy } Y := fun jump Y hk => by
        have hbY := hbb.keep hk
        refine ⟨?_, hbY⟩
        have := run_endRound (P := P) jump hbY.rec_
        rw [hR] at this ⊢
        exact this
      rintro e a3 Y hp
      have away : ∀ c : Code, KeepsFrom w.heap.size (Wa.putObj (w.heap.size + 1) (.loop { R .ready none with state := .busy })) Y → Ix c (pre ++ [x]) Y →
          ∃ v Z, (Instr.endRound (w.heap.size + 1) (some c)).run P Y = .ok v Z ∧ v = .bool false ∧ Ix c (pre ++ [x]) Z ∧ Books w (R .done (some c)) Z := fun c hk hi => by
        obtain ⟨hr, hbY⟩ := fin (some c) Y hk
        exact ⟨_, _, hr, rfl, (hIx c).putObj _ hi (by omega) hbY.rec_ rfl, hbY.put _⟩
      cases e with
      | normal =>
        obtain ⟨hk, hkp3, hi3⟩ := hp
        obtain ⟨hr, hbY⟩ := fin none Y hk
        exact ⟨_, _, hr, .inl ⟨rfl, ⟨hI.putObj _ hi3 (by omega) hbY.rec_ rfl, hbY.put _⟩, hKt hkp (hKt (hKt hkb hkp3) (hKb _ _ _ _ (by omega) hbY.rec_ rfl rfl))⟩⟩
      | ret =>
        obtain ⟨v, Z, hr, rfl, h3, h4⟩ := away .ret hp.1 hp.2
        exact ⟨_, _, hr, .inr ⟨rfl, _, h3, h4⟩⟩
      | exit id =>
        obtain ⟨v, Z, hr, rfl, h3, h4⟩ := away (.exit id) hp.1 hp.2
        exact ⟨_, _, hr, .inr ⟨rfl, _, h3, h4⟩⟩
      | goto t =>
        obtain ⟨v, Z, hr, rfl, h3, h4⟩ := away (.goto t) hp.1 hp.2
        exact ⟨_, _, hr, .inr ⟨rfl, _, h3, h4⟩⟩
      | panic ch => exact hp.elim
      | outgrown => exact hp.elim
    · rintro e Y ⟨⟨v, rfl⟩, (⟨xs, hS, hi, hb⟩ | ⟨pre, hSp, c, hi, hb⟩)⟩
      · have hrun := run_endLoop (P := P) hb.rec_ (by rw [hR]; simp)
        rw [hR] at hrun
        exact ⟨none, _, hrun, hdone _ xs _ (Nat.le_refl _) hS (hI.putObj _ hi (by omega) hb.rec_ rfl) ((World.putObj_heap_other (by omega)).trans hb.def_)⟩
      · have hrun := run_endLoop (P := P) hb.rec_ (by rw [hR]; simp)
        rw [hR] at hrun
        exact ⟨some c, _, hrun, hstop _ c pre _ (Nat.le_refl _) hSp ((hIx c).putObj _ hi (by omega) hb.rec_ rfl) ((World.putObj_heap_other (by omega)).trans hb.def_)⟩
end RM
end Go.Proofs.Ytgfgafondiipoaa
