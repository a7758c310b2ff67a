/- A region that draws its order, whose last operations stand in one order, and may write: the first n by lib/Rel (one goal for each), then the tail, in the text's order. -/
import Derived.Test.YtgfgafondiipoaaRel
import Derived.Test.YtgfgafondiipoaaTail
namespace Go.Proofs.Ytgfgafondiipoaa
open Go.RowKit

namespace Rel
section
variable {P : Program} {ops : Array Oper} {Q : Exit → Act → World → Prop} {R : Nat → Value → World → Prop} {a0 a : Act} {w0 w : World} {listed : Array Bool} {u : Nat → Value} {L : List Nat} {n : Nat}
theorem any_of_head (hok : Ok ops a0.tmps.size) (mono : ∀ i v w w', R i v w → Below w.heap.size w w' → R i v w') (step : ∀ i o, i < n → ops[i]? = some o → Step P ops R a0 w0 i o)
    (hs : Region.sinkB .any ops n = true) (hc : Region.chainB .any ops n = true) (hn : n < ops.size)
    (fin : ∀ u listed w, listed.size = ops.size → (∀ i, i < ops.size → listed.getD i true = decide (i < n)) → Below w0.heap.size w0 w → (∀ i, i < n → R i (u i) w) → wpAny P .any ops Q (ops.size - n) listed (can ops u (List.range n) a0) w) :
    ∀ (fuel : Nat) (listed : Array Bool) (u : Nat → Value) (L : List Nat) (a : Act) (w : World), Inv P ops R a0 w0 listed u L a w → HeadInv .any ops n listed → (∀ i ∈ L, i < n) → fuel + L.length = n → wpAny P .any ops Q (fuel + (ops.size - n)) listed a w := by
  intro fuel
  induction fuel with
  | zero =>
    intro listed u L a w hI inv hLn hlen
    have hall : ∀ i, i < n → i ∈ L := by
      intro i hi
      apply Classical.byContradiction
      intro hc
      have h1 : (i :: L).Nodup := List.nodup_cons.2 ⟨hc, hI.nodup⟩
      have h2 := nodup_le (m := List.range n) h1 (fun x hx => by
        rcases List.mem_cons.1 hx with rfl | hx
        · exact List.mem_range.2 hi
        · exact List.mem_range.2 (hLn x hx))
      rw [List.length_cons, List.length_range] at h2
      omega
    have e : a = can ops u (List.range n) a0 := by
      rw [hI.act]
      have e1 : (can ops u L a0).tmps = (can ops u (List.range n) a0).tmps := by
        refine Array.ext_getElem? fun t => ?_
        by_cases hex : ∃ j, j < n ∧ dstOf ops j = some t
        · obtain ⟨j, hjn, hj⟩ := hex
          rw [can_at u L a0 t j (hall j hjn) hj (hok.small j t hj) (fun k _ hk => hok.lone k j t hk hj), can_at u _ a0 t j (List.mem_range.2 hjn) hj (hok.small j t hj) (fun k _ hk => hok.lone k j t hk hj)]
        · rw [can_other u L a0 t (fun k hk e => hex ⟨k, hLn k hk, e⟩), can_other u _ a0 t (fun k hk e => hex ⟨k, List.mem_range.1 hk, e⟩)]
      have e2 : (can ops u L a0).defers = (can ops u (List.range n) a0).defers := by rw [can_defers, can_defers]
      generalize can ops u L a0 = x at e1 e2 ⊢
      generalize can ops u (List.range n) a0 = y at e1 e2 ⊢
      obtain ⟨xt, xd⟩ := x
      obtain ⟨yt, yd⟩ := y
      subst e1 e2
      rfl
    rw [e, Nat.zero_add]
    refine fin u listed w hI.size (fun i hi => ?_) hI.below (fun i hi => hI.rel i (hall i hi))
    by_cases hin : i < n
    · rw [decide_eq_true hin]; exact ((hI.mem i).1 (hall i hin)).2
    · rw [decide_eq_false hin]; exact inv.tail i (by omega) hi
  | succ fuel ih =>
    intro listed u L a w hI inv hLn hlen
    rw [show fuel + 1 + (ops.size - n) = (fuel + (ops.size - n)) + 1 by omega]
    have hex : ∃ i, i < n ∧ i ∉ L := by
      apply Classical.byContradiction
      intro hc
      have h3 := nodup_le (m := L) (List.nodup_range (n := n)) (fun x hx => by
        apply Classical.byContradiction
        intro hx2
        exact hc ⟨x, List.mem_range.1 hx, hx2⟩)
      rw [List.length_range] at h3
      omega
    obtain ⟨i0, hi0, hL0⟩ := hex
    refine ⟨fun h0 => absurd h0 (hI.goes hok i0 (by omega) hL0), fun i hi => ?_⟩
    have hin : i < n := by
      apply Classical.byContradiction
      intro hni
      refine tail_waits hs hc hn inv (n - i0) i0 rfl hi0 ?_ i (by omega) hi
      cases hx : listed.getD i0 true with
      | false => rfl
      | true => exact absurd ((hI.mem i0).2 ⟨by omega, hx⟩) hL0
    obtain ⟨hun, o, ho, hr⟩ := mem_ready.1 hi
    have hinn := (Array.getElem?_eq_some_iff.1 ho).1
    have hiL : i ∉ L := fun h => by
      have := ((hI.mem i).1 h).2
      rw [hun] at this; cases this
    have hw := hI.waits_in hok ho hr
    have hlk := hI.looks hok ho hw hiL
    have hsel := fun cs c => Region.noSelect_spec hok.sel i o cs c ho
    have hdst : dstOf ops i = o.dst := by unfold dstOf; rw [ho]; rfl
    have h1 := one (Q := Q) (a := a) (J := fun v w' => Below w.heap.size w w' ∧ R i v w') ho (same_exec hsel hlk) (same_wanted hlk) (fun d hd => by rw [can_size]; exact hok.small i d (by rw [hdst, hd]))
      (by
        have hs := step i o hin ho u w hI.below (fun j hj => hI.rel j (hw j hj))
        rw [can_defers]
        exact hs)
    refine wpOp_mono (fun a' w' hq => ?_) h1
    obtain ⟨v, rfl, hb, hR⟩ := hq
    refine ih (listed.setIfInBounds i true) (fun k => if k = i then left o v else u k) (L ++ [i]) _ w' ⟨?_, ?_, fun k => ?_, by simp [hI.size], hI.below.trans (hb.mono hI.below.size), fun k hk => ?_, fun k hk ok hok' j hj => ?_⟩ (inv.set hi hin) (fun k hk => ?_) (by rw [List.length_append, List.length_singleton]; omega)
    · rw [can_snoc, can_congr (u' := u) L a0 (fun k hk => by show (if k = i then left o v else u k) = u k; rw [if_neg (fun e : k = i => hiL (by rw [← e]; exact hk))]), ← hI.act, hdst, if_pos rfl]
      unfold left
      cases o.dst <;> rfl
    · refine List.nodup_append.2 ⟨hI.nodup, by simp, fun x hx y hy => ?_⟩
      rw [List.mem_singleton] at hy
      subst hy
      exact fun e => hiL (e ▸ hx)
    · rw [List.mem_append, List.mem_singleton, hI.mem]
      by_cases hki : k = i
      · subst hki
        have hs : k < listed.size := by rw [hI.size]; exact hinn
        simp [hinn, hs]
      · rw [getD_set_ne true (Ne.symm hki)]
        simp [hki]
    · rcases List.mem_append.1 hk with hk | hk
      · show R k (if k = i then left o v else u k) w'
        rw [if_neg (fun e : k = i => hiL (by rw [← e]; exact hk))]
        exact mono _ _ _ _ (hI.rel k hk) hb
      · rw [List.mem_singleton] at hk
        subst hk
        show R k (if k = k then left o v else u k) w'
        rw [if_pos rfl]
        exact hR
    · rcases List.mem_append.1 hk with hk | hk
      · exact List.mem_append_left _ (hI.closed k hk ok hok' j hj)
      · rw [List.mem_singleton] at hk
        subst hk
        obtain rfl := Option.some.inj (ho.symm.trans hok')
        exact List.mem_append_left _ (hw j hj)
    · rcases List.mem_append.1 hk with hk | hk
      · exact hLn k hk
      · rw [List.mem_singleton.1 hk]; exact hin

theorem steps_head {l : List Oper} {S : List Spec} {m : Nat} (n : Nat) : ∀ (os : List Oper), os = (l.take m).drop n → m ≤ l.length → Steps P l.toArray S (l.map (·.dst)) a0 w0 n os → ∀ i o, n ≤ i → i < m → l[i]? = some o → Step P l.toArray (fun i => (at_ S i).p) a0 w0 i o := by
  intro os
  induction os generalizing n with
  | nil =>
    intro h hml _ i o hi him ho
    have h1 := List.length_eq_zero_iff.2 h.symm
    rw [List.length_drop, List.length_take] at h1
    omega
  | cons x os ih =>
    intro h hml hs i o hi him ho
    have hn : n < (l.take m).length := by
      have h1 := congrArg List.length h
      rw [List.length_cons, List.length_drop] at h1
      omega
    have hnl : n < l.length := by rw [List.length_take] at hn; omega
    rw [List.drop_eq_getElem_cons hn] at h
    injection h with hx ho2
    by_cases hin : i = n
    · subst hin
      rw [List.getElem?_eq_getElem hnl] at ho
      obtain rfl := Option.some.inj ho
      rw [List.getElem_take] at hx
      subst hx
      intro u w hb hd
      have h1 := (hs.1 u w hb (fun j hj => hd j (by simpa using hj))).out
      rw [List.range_eq_range', canD_eq u a0 i 0 _ rfl (by omega), List.drop_zero]
      exact h1
    · exact ih (n + 1) ho2 hml hs.2 i o (by omega) him ho
/-- **The head by a list of what its values are; then the tail, in one order.** -/
theorem region_tail {l : List Oper} {id : Nat} (n : Nat) (hm : P.follows .mixedOrders = true) (ds : List (Option Tmp)) (hds : l.map (·.dst) = ds) (hB : okB l.toArray a0.tmps.size = true)
    (hT : (Region.sinkB .any l.toArray n && Region.chainB .any l.toArray n && decide (n < l.length) && Region.seqB .any l.toArray (l.length - n) n ((List.range l.length).map fun i => decide (i < n)).toArray) = true) (S : List Spec) (steps : Steps P l.toArray S ds a0 w0 0 (l.take n))
    (fin : ∀ u w, Below w0.heap.size w0 w → (∀ i, i < n → (at_ S i).p (u i) w) → wpList P l.toArray Q (l.drop n) (canD u 0 (ds.take n) a0) w) : (Code.region id l.toArray true).wp P Q a0 w0 := by
  subst hds
  simp only [Bool.and_eq_true, decide_eq_true_eq] at hT
  obtain ⟨⟨⟨t1, t2⟩, t3⟩, t4⟩ := hT
  have hnl : n < l.toArray.size := by simpa using t3
  refine wp_region_any hm ?_
  have h := any_of_head (Q := Q) (n := n) (R := fun i => (at_ S i).p) (a0 := a0) (w0 := w0) (ok_of hB) (fun i => (at_ S i).mono) (fun i o hi ho => steps_head 0 (l.take n) rfl (by omega) steps i o (Nat.zero_le _) hi (by simpa using ho)) t1 t2 hnl (fun u listed w hls hl hb hR => ?_) n (Array.replicate l.toArray.size false) (fun _ => undef) [] a0 w0.drew
    ⟨rfl, List.nodup_nil, fun i => ⟨fun h => (by cases h), fun ⟨h1, h2⟩ => by simp at h1; simp [h1] at h2⟩, by simp, (Below.refl _ w0).drew, (fun i hi => by cases hi), (fun i hi => by cases hi)⟩
    ⟨by simp, fun j oj _ hj => (by rw [getD_replicate_false] at hj; exact Bool.noConfusion hj), fun t _ hlt => getD_in (by simpa using hlt) (getD_replicate_false _ _)⟩ (fun i hi => by cases hi) rfl
  · rw [show n + (l.toArray.size - n) = l.toArray.size by omega] at h
    exact h
  · have hd : (l.drop n).length = l.toArray.size - n := by simp
    have hle : listed = ((List.range l.length).map fun i => decide (i < n)).toArray := by
      refine Array.ext (by simpa using hls) fun i h1 h2 => ?_
      have := hl i (by rw [hls] at h1; exact h1)
      simp [h1] at this ⊢
      exact this
    have h2 := canD_eq (l := l) u a0 n 0 _ rfl (by omega)
    rw [List.drop_zero] at h2
    rw [List.range_eq_range', h2]
    have h3 := wpAny_of_seq (md := .any) (Q' := Q) (ops := l.toArray) (l.drop n) n listed _ w (fun j => by simp [List.getElem?_drop]) (by rw [hd, hle]; simpa using t4) (fin u w hb hR)
    rwa [hd] at h3
end
end Rel
end Go.Proofs.Ytgfgafondiipoaa
