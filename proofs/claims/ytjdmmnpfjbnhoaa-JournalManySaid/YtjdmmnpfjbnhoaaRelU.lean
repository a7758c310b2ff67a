/- As lib/RelT, where the region's first operation is waited for by the tail alone (a move of the receiver, of an assignment that ends with an append): it is taken ahead of all. -/
import Derived.Test.YtjdmmnpfjbnhoaaRelT
import Derived.Deep.RegionHeld3
namespace Go.Proofs.Ytjdmmnpfjbnhoaa
open Go.RowKit

namespace Rel
section
variable {P : Program} {ops : Array Oper} {Q : Exit → Act → World → Prop} {R : Nat → Value → World → Prop} {a0 a : Act} {w0 w : World} {listed : Array Bool} {u : Nat → Value} {L : List Nat} {n : Nat}
/-- As 'sinkB', but for the first operation. -/
def sink1 (ops : Array Oper) (n : Nat) : Bool :=
  (List.range n).all fun i => decide (i = 0) || (List.range (n + 1)).any fun j => decide (i < j) && Region.waitsFor .any ops j i
theorem tail_waits1 (hs : sink1 ops n = true) (hc : Region.chainB .any ops n = true) (hn : n < ops.size) (inv : HeadInv .any ops n listed) :
    ∀ (d i : Nat), n - i = d → i < n → i ≠ 0 → listed.getD i true = false → ∀ t, n ≤ t → t ∉ Region.ready .any ops listed := by
  intro d
  induction d using Nat.strongRecOn with
  | _ d ih =>
    intro i hd hi hi0 hun t ht hr
    obtain ⟨_, ot, hot, hall⟩ := mem_ready.1 hr
    have htlt : t < ops.size := (Array.getElem?_eq_some_iff.1 hot).1
    by_cases htn : t = n
    · have h1 := List.all_eq_true.1 hs i (List.mem_range.2 hi)
      rw [decide_eq_false hi0, Bool.false_or] at h1
      obtain ⟨j, hj, hj2⟩ := List.any_eq_true.1 h1
      simp only [Bool.and_eq_true, decide_eq_true_eq] at hj2
      obtain ⟨oj, hoj, e, he, hb, hon⟩ := Region.waitsFor_spec hj2.2
      have hjle : j ≤ n := by have := List.mem_range.1 hj; omega
      by_cases hjt : j = t
      · have : oj = ot := Option.some.inj (by rw [← hoj, ← hot, hjt])
        rw [this] at he
        have h2 := hall e he hb
        rw [hon, getD_both hun] at h2
        cases h2
      · cases hl : listed.getD j false with
        | true =>
          have h2 := inv.closed j oj hoj hl e he hb
          rw [hon, getD_both hun] at h2
          cases h2
        | false =>
          have hjs : j < listed.size := by rw [inv.size]; omega
          exact ih (n - j) (by omega) j rfl (by omega) (by omega) (getD_in hjs hl) t ht hr
    · have h1 := List.all_eq_true.1 hc t (List.mem_range.2 htlt)
      simp only [Bool.or_eq_true, decide_eq_true_eq] at h1
      rcases h1 with h1 | h1
      · omega
      · obtain ⟨o', ho', e, he, hb, hon⟩ := Region.waitsFor_spec h1
        have : o' = ot := Option.some.inj (ho'.symm.trans hot)
        rw [this] at he
        have h2 := hall e he hb
        rw [hon, getD_both (inv.tail (t - 1) (by omega) (by omega))] at h2
        cases h2
theorem any_of_head1 (hok : Ok ops a0.tmps.size) (mono : ∀ i v w w', R i v w → Below w.heap.size w w' → R i v w') (step : ∀ i o, i < n → ops[i]? = some o → Step P ops R a0 w0 i o)
    (hs : sink1 ops n = true) (hc : Region.chainB .any ops n = true) (hn : n < ops.size)
    (fin : ∀ u listed w, listed.size = ops.size → (∀ i, i < ops.size → listed.getD i true = decide (i < n)) → Below w0.heap.size w0 w → (∀ i, i < n → R i (u i) w) → wpAny P .any ops Q (ops.size - n) listed (can ops u (List.range n) a0) w) :
    ∀ (fuel : Nat) (listed : Array Bool) (u : Nat → Value) (L : List Nat) (a : Act) (w : World), Inv P ops R a0 w0 listed u L a w → HeadInv .any ops n listed → 0 ∈ L → (∀ i ∈ L, i < n) → fuel + L.length = n → wpAny P .any ops Q (fuel + (ops.size - n)) listed a w := by
  intro fuel
  induction fuel with
  | zero =>
    intro listed u L a w hI inv h0L hLn hlen
    have hall : ∀ i, i < n → i ∈ L := by
      intro i hi
      apply Classical.byContradiction
      intro hc
      have h1 : (i :: L).Nodup := List.nodup_cons.2 ⟨hc, hI.nodup⟩
      have h2 := nodup_le (m := List.range n) h1 (fun x hx => by
        rcases List.mem_cons.1 hx with rfl | hx
        · exact List.mem_range.2 hi
        · exact List.mem_range.2 (hLn x hx))
      rw [List.length_cons, List.length_range] at h2
      omega
    have e : a = can ops u (List.range n) a0 := by
      rw [hI.act]
      have e1 : (can ops u L a0).tmps = (can ops u (List.range n) a0).tmps := by
        refine Array.ext_getElem? fun t => ?_
        by_cases hex : ∃ j, j < n ∧ dstOf ops j = some t
        · obtain ⟨j, hjn, hj⟩ := hex
          rw [can_at u L a0 t j (hall j hjn) hj (hok.small j t hj) (fun k _ hk => hok.lone k j t hk hj), can_at u _ a0 t j (List.mem_range.2 hjn) hj (hok.small j t hj) (fun k _ hk => hok.lone k j t hk hj)]
        · rw [can_other u L a0 t (fun k hk e => hex ⟨k, hLn k hk, e⟩), can_other u _ a0 t (fun k hk e => hex ⟨k, List.mem_range.1 hk, e⟩)]
      have e2 : (can ops u L a0).defers = (can ops u (List.range n) a0).defers := by rw [can_defers, can_defers]
      generalize can ops u L a0 = x at e1 e2 ⊢
      generalize can ops u (List.range n) a0 = y at e1 e2 ⊢
      obtain ⟨xt, xd⟩ := x
      obtain ⟨yt, yd⟩ := y
      subst e1 e2
      rfl
    rw [e, Nat.zero_add]
    refine fin u listed w hI.size (fun i hi => ?_) hI.below (fun i hi => hI.rel i (hall i hi))
    by_cases hin : i < n
    · rw [decide_eq_true hin]; exact ((hI.mem i).1 (hall i hin)).2
    · rw [decide_eq_false hin]; exact inv.tail i (by omega) hi
  | succ fuel ih =>
    intro listed u L a w hI inv h0L hLn hlen
    rw [show fuel + 1 + (ops.size - n) = (fuel + (ops.size - n)) + 1 by omega]
    have hex : ∃ i, i < n ∧ i ∉ L := by
      apply Classical.byContradiction
      intro hc
      have h3 := nodup_le (m := L) (List.nodup_range (n := n)) (fun x hx => by
        apply Classical.byContradiction
        intro hx2
        exact hc ⟨x, List.mem_range.1 hx, hx2⟩)
      rw [List.length_range] at h3
      omega
    obtain ⟨i0, hi0, hL0⟩ := hex
    refine ⟨fun h0 => absurd h0 (hI.goes hok i0 (by omega) hL0), fun i hi => ?_⟩
    have hin : i < n := by
      apply Classical.byContradiction
      intro hni
      refine tail_waits1 hs hc hn inv (n - i0) i0 rfl hi0 (fun e => hL0 (e ▸ h0L)) ?_ i (by omega) hi
      cases hx : listed.getD i0 true with
      | false => rfl
      | true => exact absurd ((hI.mem i0).2 ⟨by omega, hx⟩) hL0
    obtain ⟨hun, o, ho, hr⟩ := mem_ready.1 hi
    have hinn := (Array.getElem?_eq_some_iff.1 ho).1
    have hiL : i ∉ L := fun h => by
      have := ((hI.mem i).1 h).2
      rw [hun] at this; cases this
    have hw := hI.waits_in hok ho hr
    have hlk := hI.looks hok ho hw hiL
    have hsel := fun cs c => Region.noSelect_spec hok.sel i o cs c ho
    have hdst : dstOf ops i = o.dst := by unfold dstOf; rw [ho]; rfl
    have h1 := one (Q := Q) (a := a) (J := fun v w' => Below w.heap.size w w' ∧ R i v w') ho (same_exec hsel hlk) (same_wanted hlk) (fun d hd => by rw [can_size]; exact hok.small i d (by rw [hdst, hd]))
      (by
        have hs := step i o hin ho u w hI.below (fun j hj => hI.rel j (hw j hj))
        rw [can_defers]
        exact hs)
    refine wpOp_mono (fun a' w' hq => ?_) h1
    obtain ⟨v, rfl, hb, hR⟩ := hq
    refine ih (listed.setIfInBounds i true) (fun k => if k = i then left o v else u k) (L ++ [i]) _ w' ⟨?_, ?_, fun k => ?_, by simp [hI.size], hI.below.trans (hb.mono hI.below.size), fun k hk => ?_, fun k hk ok hok' j hj => ?_⟩ (inv.set hi hin) (List.mem_append_left _ h0L) (fun k hk => ?_) (by rw [List.length_append, List.length_singleton]; omega)
    · rw [can_snoc, can_congr (u' := u) L a0 (fun k hk => by show (if k = i then left o v else u k) = u k; rw [if_neg (fun e : k = i => hiL (by rw [← e]; exact hk))]), ← hI.act, hdst, if_pos rfl]
      unfold left
      cases o.dst <;> rfl
    · refine List.nodup_append.2 ⟨hI.nodup, by simp, fun x hx y hy => ?_⟩
      rw [List.mem_singleton] at hy
      subst hy
      exact fun e => hiL (e ▸ hx)
    · rw [List.mem_append, List.mem_singleton, hI.mem]
      by_cases hki : k = i
      · subst hki
        have hs : k < listed.size := by rw [hI.size]; exact hinn
        simp [hinn, hs]
      · rw [getD_set_ne true (Ne.symm hki)]
        simp [hki]
    · rcases List.mem_append.1 hk with hk | hk
      · show R k (if k = i then left o v else u k) w'
        rw [if_neg (fun e : k = i => hiL (by rw [← e]; exact hk))]
        exact mono _ _ _ _ (hI.rel k hk) hb
      · rw [List.mem_singleton] at hk
        subst hk
        show R k (if k = k then left o v else u k) w'
        rw [if_pos rfl]
        exact hR
    · rcases List.mem_append.1 hk with hk | hk
      · exact List.mem_append_left _ (hI.closed k hk ok hok' j hj)
      · rw [List.mem_singleton] at hk
        subst hk
        obtain rfl := Option.some.inj (ho.symm.trans hok')
        exact List.mem_append_left _ (hw j hj)
    · rcases List.mem_append.1 hk with hk | hk
      · exact hLn k hk
      · rw [List.mem_singleton.1 hk]; exact hin

theorem ready_set {m : Nat} (l : List Oper) (hm : m = l.length) : (∀ j oj, l.toArray[j]? = some oj → ((Array.replicate m false).setIfInBounds 0 true).getD j false = true → j = 0) := fun j oj _ h => by
  by_cases hj : j = 0
  · exact hj
  · exfalso
    rw [getD_set_ne false (Ne.symm hj), getD_replicate_false] at h
    cases h
/-- As 'region_tail', where the first operation may be taken ahead of all (a move that only the tail waits for). -/
theorem region_tail1 {l : List Oper} {id : Nat} (n : Nat) (v0 : Value) (hm : P.follows .mixedOrders = true) (ds : List (Option Tmp)) (hds : l.map (·.dst) = ds) (hB : okB l.toArray a0.tmps.size = true) (hn0 : 0 < n)
    (hT : (sink1 l.toArray n && Region.chainB .any l.toArray n && decide (n < l.length) && Region.seqB .any l.toArray (l.length - n) n ((List.range l.length).map fun i => decide (i < n)).toArray && Region.free .any l.toArray (Array.replicate l.toArray.size false) 0 && (Region.ready .any l.toArray (Array.replicate l.toArray.size false)).contains 0 && (match l.toArray[0]? with | some o => o.after.toList.isEmpty | none => false)) = true) (S : List Spec) (hy : ∀ o, l.toArray[0]? = some o → Yields P l.toArray o v0 a0) (h0 : ∀ w, (at_ S 0).p v0 w) (steps : Steps P l.toArray S ds a0 w0 0 (l.take n))
    (fin : ∀ u w, Below w0.heap.size w0 w → (∀ i, i < n → (at_ S i).p (u i) w) → wpList P l.toArray (NoPanic Q) (l.drop n) (canD u 0 (ds.take n) a0) w) : (Code.region id l.toArray true).wp P Q a0 w0 := by
  subst hds
  simp only [Bool.and_eq_true, decide_eq_true_eq] at hT
  obtain ⟨⟨⟨⟨⟨⟨t1, t2⟩, t3⟩, t4⟩, t5⟩, t6⟩, t7⟩ := hT
  have hnl : n < l.toArray.size := by simpa using t3
  have hok := ok_of hB
  have hl0 : 0 < l.toArray.size := by omega
  have ho0 := Array.getElem?_eq_getElem hl0
  generalize l.toArray[0] = o0 at ho0
  rw [ho0] at t7
  simp only [List.isEmpty_iff] at t7
  have hd0 : dstOf l.toArray 0 = o0.dst := by unfold dstOf; rw [ho0]; rfl
  refine wp_region_noPanic ?_
  refine wp_region_any hm ?_
  rw [show l.toArray.size = (l.toArray.size - 1) + 1 by omega]
  refine wpAny_take (i := 0) ho0 hok.sel (by rw [show l.toArray.size - 1 + 1 = l.toArray.size by omega]; exact t5) (by rw [show l.toArray.size - 1 + 1 = l.toArray.size by omega]; exact t6) (fun _ _ _ h => h) (hy o0 ho0) ?_
  rw [show l.toArray.size - 1 + 1 = l.toArray.size by omega]
  have hset := ready_set (m := l.toArray.size) l (by simp)
  have h := any_of_head1 (Q := NoPanic Q) (n := n) (R := fun i => (at_ S i).p) (a0 := a0) (w0 := w0) hok (fun i => (at_ S i).mono) (fun i o hi ho => steps_head 0 (l.take n) rfl (by omega) steps i o (Nat.zero_le _) hi (by simpa using ho)) t1 t2 hnl (fun u listed w hls hl hb hR => ?_) (n - 1) ((Array.replicate l.toArray.size false).setIfInBounds 0 true) (fun _ => v0) [0] (a0.put o0.dst v0) w0.drew
    ⟨by unfold can; rw [List.foldl_cons, List.foldl_nil, hd0], by simp, fun i => ⟨fun h => (by rw [List.mem_singleton.1 h]; exact ⟨hl0, by simp⟩), fun ⟨h1, h2⟩ => List.mem_singleton.2 (Classical.byContradiction fun hne => by
        rw [getD_set_ne true (Ne.symm hne)] at h2
        have h1' : i < l.length := by simpa using h1
        simp [h1'] at h2)⟩, by simp, (Below.refl _ w0).drew, (fun i hi => by rw [List.mem_singleton.1 hi]; exact h0 _), (fun i hi o ho j hj => by
        rw [List.mem_singleton.1 hi] at ho
        obtain rfl := Option.some.inj (ho0.symm.trans ho)
        unfold waits at hj
        rw [t7] at hj
        cases hj)⟩
    ⟨by simp, fun j oj hoj hj e he hb => (by
        obtain rfl := hset j oj hoj hj
        obtain rfl := Option.some.inj (ho0.symm.trans hoj)
        have : e ∈ o0.after.toList := by simpa using he
        rw [t7] at this; cases this), fun t ht hlt => by rw [getD_set_ne true (by omega)]; exact getD_in (by simpa using hlt) (getD_replicate_false _ _)⟩ (List.mem_singleton.2 rfl) (fun i hi => by rw [List.mem_singleton.1 hi]; exact hn0) (by rw [List.length_singleton]; omega)
  · rw [show n - 1 + (l.toArray.size - n) = l.toArray.size - 1 by omega] at h
    exact h
  · have hd : (l.drop n).length = l.toArray.size - n := by simp
    have hle : listed = ((List.range l.length).map fun i => decide (i < n)).toArray := by
      refine Array.ext (by simpa using hls) fun i h1 h2 => ?_
      have := hl i (by rw [hls] at h1; exact h1)
      simp [h1] at this ⊢
      exact this
    have h2 := canD_eq (l := l) u a0 n 0 _ rfl (by omega)
    rw [List.drop_zero] at h2
    rw [List.range_eq_range', h2]
    have h3 := wpAny_of_seq (md := .any) (Q' := NoPanic Q) (ops := l.toArray) (l.drop n) n listed _ w (fun j => by simp [List.getElem?_drop]) (by rw [hd, hle]; simpa using t4) (fin u w hb hR)
    rwa [hd] at h3
end
end Rel
end Go.Proofs.Ytjdmmnpfjbnhoaa
