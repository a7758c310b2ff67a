/- A region that draws its order, whose operations only read and whose callees may make memory, but for its end: the last operations stand in one order, and write. One walk in the text's order. -/
import Derived.Test.YtgfgafondiipoaaQuiet
import Derived.StillTail
namespace Go.Proofs.Ytgfgafondiipoaa
open Go.RowKit

section
variable {P : Program} {ops : Array Oper} {C : World → Prop} {n : Nat}

/-- The head's operations, in whatever order they come up; L: what is asked behind the last of them. -/
def headQ (P : Program) (ops : Array Oper) (C : World → Prop) (n : Nat) (L : Array Bool → Act → Prop) : Nat → Array Bool → Act → Prop
  | 0 => L
  | k + 1 => fun d a => (∃ i, i ∈ Region.ready .any ops d) ∧ ∀ i, i ∈ Region.ready .any ops d → i < n ∧ qOp P ops C i (fun b => headQ P ops C n L k (d.setIfInBounds i true) b) a

theorem headQ_any {Q' : Exit → Act → World → Prop} {L : Array Bool → Act → Prop} {g : Nat} (hL : ∀ d a w, C w → L d a → wpAny P .any ops Q' g d a w) (k : Nat) :
    ∀ (d : Array Bool) (a : Act) (w : World), C w → headQ P ops C n L k d a → wpAny P .any ops Q' (k + g) d a w := by
  induction k with
  | zero => intro d a w hw h; rw [Nat.zero_add]; exact hL d a w hw h
  | succ k ih =>
    intro d a w hw ⟨⟨j, hj⟩, h⟩
    have hs : k + 1 + g = (k + g) + 1 := by omega
    rw [hs]
    refine ⟨fun h0 => ?_, fun i hi => wpOp_of_qOp hw (fun b w' hw' hb => ih _ b w' hw' hb) (h i hi).2⟩
    rw [h0] at hj; cases hj

/-- Number i may be taken first. -/
theorem headQ_take {i : Nat} {oi : Oper} {v : Value} {L : Array Bool → Act → Prop} (hi : ops[i]? = some oi) (hsel : ∀ (j : Nat) (o : Oper) cs b, ops[j]? = some o → o.op ≠ .select cs b)
    (hs : Region.sinkB .any ops n = true) (hc : Region.chainB .any ops n = true) (hn : n < ops.size) (hin : i < n) (hL : ∀ d a, L d a → ∀ j ∈ Region.ready .any ops d, n ≤ j) (k : Nat) :
    ∀ (d : Array Bool) (a : Act), HeadInv .any ops n d →
      (∀ j oj, ops[j]? = some oj → j ≠ i → d.getD j true = false → (∀ e ∈ oj.after, Region.binds .any e = true → e.on ≠ i) → oi.apart ops oj = true) →
      i ∈ Region.ready .any ops d → YieldsIn P ops C oi v a → headQ P ops C n L k (d.setIfInBounds i true) (a.put oi.dst v) → headQ P ops C n L (k + 1) d a := by
  have low : ∀ d, HeadInv .any ops n d → i ∈ Region.ready .any ops d → ∀ j, j ∈ Region.ready .any ops d → j < n := fun d inv hr j hj => by
    by_cases hjn : j < n
    · exact hjn
    · exact (tail_waits hs hc hn inv (n - i) i rfl hin (mem_ready.1 hr).1 j (Nat.le_of_not_lt hjn) hj).elim
  induction k with
  | zero =>
    intro d a inv _ hr hy H
    refine ⟨⟨i, hr⟩, fun j hj => ⟨low d inv hr j hj, ?_⟩⟩
    by_cases hji : j = i
    · rw [hji]; exact hy.qOp hi H
    · have h1 := low d inv hr j hj
      have h2 := hL _ _ H j (ready_mono hj hji)
      exact absurd h1 (Nat.not_lt.2 h2)
  | succ k ih =>
    intro d a inv hfree hr hy H
    refine ⟨⟨i, hr⟩, fun j hj => ⟨low d inv hr j hj, ?_⟩⟩
    by_cases hji : j = i
    · rw [hji]; exact hy.qOp hi H
    · obtain ⟨hjd, oj, hoj, hall⟩ := mem_ready.1 hj
      have hno : ∀ e ∈ oj.after, Region.binds .any e = true → e.on ≠ i := fun e he hb hei => by
        have h0 := hall e he hb
        rw [hei, getD_both (mem_ready.1 hr).1] at h0
        exact Bool.noConfusion h0
      have hA := hfree j oj hoj hji hjd hno
      have hq := qOp_put hoj hA (fun cs b => hsel i oi cs b hi) (fun cs b => hsel j oj cs b hoj) hy (H.2 j (ready_mono hj hji)).2
      refine qOp_mono (fun b hb => ?_) hq
      refine ih _ b (inv.set hj (low d inv hr j hj)) (fun m om hm hmi hmd hmo => ?_) (ready_mono hr (Ne.symm hji)) hb.1 ?_
      · refine hfree m om hm hmi ?_ hmo
        by_cases hjm : j = m
        · rw [← hjm]; exact hjd
        · rwa [getD_set_ne true hjm] at hmd
      · rw [Array.setIfInBounds_comm _ _ hji]; exact hb.2

theorem headQ_lex {g : Nat} {R : Act → Prop} (hsel : Region.noSelect ops = true) (hs : Region.sinkB .any ops n = true) (hc : Region.chainB .any ops n = true) (hn : n < ops.size) (l : List Oper) :
    ∀ (k : Nat) (d : Array Bool) (a : Act), (∀ j, j < l.length → l[j]? = ops[k + j]?) → k + l.length = n → HeadInv .any ops n d → Region.lexHead .any ops g l.length k d = true → wpQuiet P ops C R l a →
      headQ P ops C n (fun d' a' => Region.seqB .any ops g n d' = true ∧ R a') l.length d a := by
  induction l with
  | nil =>
    intro k d a _ hk _ hB h
    obtain rfl : k = n := by simpa using hk
    exact ⟨by simpa [Region.lexHead] using hB, h⟩
  | cons o l ih =>
    intro k d a hl hk inv hB h
    simp only [List.length_cons, Region.lexHead, Bool.and_eq_true, List.contains_iff_mem] at hB hk
    have h0 : ops[k]? = some o := by have := hl 0 (by simp); simpa using this.symm
    have hq : qOp P ops C k (wpQuiet P ops C R l) a := by unfold qOp; simp only [h0]; exact h
    obtain ⟨v, hy, hK⟩ := yieldsIn_of_qOp h0 hq
    refine headQ_take h0 (Region.noSelect_spec hsel) hs hc hn (by omega) (fun d' a' hd => seqB_ready hd.1) l.length d a inv (Region.free_spec h0 hB.1.2) hB.1.1 hy ?_
    refine ih (k + 1) _ _ (fun j hj => ?_) (by omega) (inv.set hB.1.1 (by omega)) hB.2 hK
    have h1 := hl (j + 1) (by simp; omega)
    rw [List.getElem?_cons_succ] at h1
    rw [h1]; congr 1; omega
end

/-- The head's callees may make memory; what stands in the tail is walked in each world that keeps what lay. -/
theorem wp_region_late_tail {P : Program} {id : Nat} {Q : Exit → Act → World → Prop} {a : Act} {W : World} {l : List Oper} (n : Nat) (hm : P.follows .mixedOrders = true) (hB : Region.lexTailB .any l.toArray n = true)
    (h : wpQuiet P l.toArray (fun w' => ∃ p : LateOf W, w' = p.w) (fun a' => ∀ w', (∃ p : LateOf W, w' = p.w) → wpList P l.toArray Q (l.drop n) a' w') (l.take n) a) : (Code.region id l.toArray true).wp P Q a W := by
  simp only [Region.lexTailB, Bool.and_eq_true, decide_eq_true_eq] at hB
  obtain ⟨⟨⟨⟨b1, b2⟩, b3⟩, b4⟩, b5⟩ := hB
  have hn : n < l.length := by simpa using b2
  have ht : (l.take n).length = n := by rw [List.length_take]; omega
  have hd : (l.drop n).length = l.toArray.size - n := by simp
  have inv : HeadInv .any l.toArray n (Array.replicate l.toArray.size false) := by
    refine ⟨by simp, fun j oj _ hj => ?_, fun t _ hlt => getD_in (by simpa using hlt) (getD_replicate_false _ _)⟩
    rw [getD_replicate_false] at hj; exact Bool.noConfusion hj
  have H := headQ_lex (g := l.toArray.size - n) b1 b3 b4 b2 (l.take n) 0 _ a (fun j hj => by rw [ht] at hj; rw [Nat.zero_add, List.getElem?_take_of_lt hj]; simp) (by omega) inv (by rw [ht]; exact b5) h
  have hw : ∃ p : LateOf W, W.drew = p.w := ⟨⟨W.drew, (Below.refl _ W).drew⟩, rfl⟩
  have K := headQ_any (Q' := Q) (g := l.toArray.size - n) (fun d a' w' hw' hL => by
    have h1 := wpAny_of_seq (md := .any) (Q' := Q) (l.drop n) n d a' w' (fun j => by simp [List.getElem?_drop]) (by rw [hd]; exact hL.1) (hL.2 w' hw')
    rwa [hd] at h1) (l.take n).length _ a W.drew hw H
  rw [ht] at K
  have e : n + (l.toArray.size - n) = l.toArray.size := by simp; omega
  rw [e] at K
  exact wp_region_any hm K
end Go.Proofs.Ytgfgafondiipoaa
