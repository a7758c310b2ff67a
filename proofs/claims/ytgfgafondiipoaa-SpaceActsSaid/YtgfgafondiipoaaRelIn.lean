/- A region that draws its order, inside a round of a loop over an iterator, at the fence that asks nothing: what lib/RelT says of a region anywhere is said of it there. -/
import Derived.Test.YtgfgafondiipoaaRelT
import Derived.RangeFuncCalls
import Derived.OrdersIn
import Derived.OwnWalkIn
namespace Go.Proofs.Ytgfgafondiipoaa
open Go.RowKit

namespace Rel
section
variable {P : Program} {ops : Array Oper} {Q : Exit → Act → World → Prop} {a0 : Act} {w0 : World}
/-- Ends normally, and so. -/
def Plain (Q : Exit → Act → World → Prop) : Exit → Act → World → Prop := fun e a w => e = .normal ∧ Q .normal a w
theorem plain_out (Q : Exit → Act → World → Prop) : ¬ LetsOut (Plain Q) := fun ⟨_, _, h, _⟩ => by cases h
theorem upon_in {o : Oper} {a : Act} {n l : Nat} {K : Act → World → Prop} (r : Result Next) (h : o.upon P a K (Plain Q) r) : o.uponIn (Fence.wide.inRound l) n P a K Q r := by
  cases r with
  | ok x w' =>
    cases x with
    | value v => exact h
    | skip => exact h
    | defer d => exact h
    | enter f args =>
      refine ⟨fun hd => (by cases hd), CallsIn.inRound l (callsIn_wide.2 (Calls.mono h (fun e w'' he => ?_)))⟩
      cases e with
      | returned v => exact he
      | panicked c => exact nomatch he.1
      | outgrown => exact absurd he (plain_out Q)
    | row row args =>
      refine ⟨fun hd => (by cases hd), fun c cs _ => ?_⟩
      obtain ⟨v, w2, h1, h2⟩ := h c cs
      exact ⟨v, w2, h1, stepsIn_wide.2 h2⟩
    | _ => exact h.elim
  | halt x w' =>
    cases x with
    | panic v => exact nomatch h.1
    | _ => exact h.elim
theorem op_in {n l i : Nat} {K K' : Act → World → Prop} (hnd : ∀ o ∈ ops, ∀ c, o.op ≠ .defer c) (hK : ∀ a w, K a w → K' a w) {a : Act} {w : World} (h : wpOp P ops (Plain Q) i K a w) : wpOpIn (Fence.wide.inRound l) n P ops Q i K' a w := by
  unfold wpOp at h
  unfold wpOpIn
  cases ho : ops[i]? with
  | none => simp only [ho] at h ⊢; exact hK _ _ h
  | some o =>
    simp only [ho] at h ⊢
    split
    · next hw =>
      rw [if_pos hw] at h
      rcases h with h | ⟨_, h⟩
      · refine ⟨fun _ _ => trivial, ?_⟩
        rw [Oper.semAt_plain _ _ _ (hnd o (Array.mem_of_getElem? ho))]
        exact upon_in _ (Oper.wp_mono hK h)
      · exact absurd h (plain_out Q)
    · next hw =>
      rw [if_neg hw] at h
      exact ⟨fun _ _ => trivial, hK _ _ h⟩
theorem any_in {n l : Nat} {md : Region.Mode} (hnd : ∀ o ∈ ops, ∀ c, o.op ≠ .defer c) : ∀ (fuel : Nat) (listed : Array Bool) (a : Act) (w : World), wpAny P md ops (Plain Q) fuel listed a w → wpAnyIn (Fence.wide.inRound l) n P md ops Q fuel listed a w := by
  intro fuel
  induction fuel with
  | zero => intro listed a w h; exact ⟨h.1, h.2.2⟩
  | succ fuel ih => intro listed a w h; exact ⟨fun h0 => (h.1 h0).2, fun i hi => op_in hnd (fun a w hh => ih _ _ _ hh) (h.2 i hi)⟩
/-- No operation that defers. -/
def noDefer (ops : Array Oper) : Bool := ops.all fun o => match o.op with | .defer _ => false | _ => true
theorem noDefer_spec (h : noDefer ops = true) : ∀ o ∈ ops, ∀ c, o.op ≠ .defer c := fun o ho c e => by
  have := Array.all_eq_true_iff_forall_mem.1 h o ho
  rw [e] at this; cases this
/-- **The head by a list of what its values are; then the tail, in one order: inside a round.** -/
theorem region_tailIn {l : List Oper} {id k N : Nat} (n : Nat) (hm : P.follows .mixedOrders = true) (ds : List (Option Tmp)) (hds : l.map (·.dst) = ds) (hB : okB l.toArray a0.tmps.size = true)
    (hT : (Region.sinkB .any l.toArray n && Region.chainB .any l.toArray n && decide (n < l.length) && Region.seqB .any l.toArray (l.length - n) n ((List.range l.length).map fun i => decide (i < n)).toArray) = true) (hnd : noDefer l.toArray = true) (S : List Spec) (steps : Steps P l.toArray S ds a0 w0 0 (l.take n))
    (fin : ∀ u w, Below w0.heap.size w0 w → (∀ i, i < n → (at_ S i).p (u i) w) → wpList P l.toArray (Plain Q) (l.drop n) (canD u 0 (ds.take n) a0) w) : (Code.region id l.toArray true).wpIn (Fence.wide.inRound k) N P Q a0 w0 := by
  subst hds
  simp only [Bool.and_eq_true, decide_eq_true_eq] at hT
  obtain ⟨⟨⟨t1, t2⟩, t3⟩, t4⟩ := hT
  have hnl : n < l.toArray.size := by simpa using t3
  refine wpIn_region_any hm (any_in (noDefer_spec hnd) _ _ _ _ ?_)
  have h := any_of_head (Q := Plain Q) (n := n) (R := fun i => (at_ S i).p) (a0 := a0) (w0 := w0) (ok_of hB) (fun i => (at_ S i).mono) (fun i o hi ho => steps_head 0 (l.take n) rfl (by omega) steps i o (Nat.zero_le _) hi (by simpa using ho)) t1 t2 hnl (fun u listed w hls hl hb hR => ?_) n (Array.replicate l.toArray.size false) (fun _ => undef) [] a0 w0.drew
    ⟨rfl, List.nodup_nil, fun i => ⟨fun h => (by cases h), fun ⟨h1, h2⟩ => by simp at h1; simp [h1] at h2⟩, by simp, (Below.refl _ w0).drew, (fun i hi => by cases hi), (fun i hi => by cases hi)⟩
    ⟨by simp, fun j oj _ hj => (by rw [getD_replicate_false] at hj; exact Bool.noConfusion hj), fun t _ hlt => getD_in (by simpa using hlt) (getD_replicate_false _ _)⟩ (fun i hi => by cases hi) rfl
  · rw [show n + (l.toArray.size - n) = l.toArray.size by omega] at h
    exact h
  · have hd : (l.drop n).length = l.toArray.size - n := by simp
    have hle : listed = ((List.range l.length).map fun i => decide (i < n)).toArray := by
      refine Array.ext (by simpa using hls) fun i h1 h2 => ?_
      have := hl i (by rw [hls] at h1; exact h1)
      simp [h1] at this ⊢
      exact this
    have h2 := canD_eq (l := l) u a0 n 0 _ rfl (by omega)
    rw [List.drop_zero] at h2
    rw [List.range_eq_range', h2]
    have h3 := wpAny_of_seq (md := .any) (Q' := Plain Q) (ops := l.toArray) (l.drop n) n listed _ w (fun j => by simp [List.getElem?_drop]) (by rw [hd, hle]; simpa using t4) (fin u w hb hR)
    rwa [hd] at h3
end
end Rel
end Go.Proofs.Ytgfgafondiipoaa
