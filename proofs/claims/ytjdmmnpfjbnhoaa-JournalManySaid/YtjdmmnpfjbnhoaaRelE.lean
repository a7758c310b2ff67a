/- As lib/RelT, where one of the head's operations, e, is waited for by the tail's later ones alone (a move of the receiver ahead of an append; 'v, ok := f()': the second one's extract): it turns nothing, so it may be taken ahead of the tail. -/
import Derived.Test.YtjdmmnpfjbnhoaaRelT
import Derived.Deep.RegionHeld3
namespace Go.Proofs.Ytjdmmnpfjbnhoaa
open Go.RowKit

namespace Rel
section
variable {P : Program} {ops : Array Oper} {Q : Exit → Act → World → Prop} {R : Nat → Value → World → Prop} {a0 a : Act} {w0 w : World} {listed : Array Bool} {u : Nat → Value} {L : List Nat} {n e : Nat}
/-- As 'sinkB', but for operation e, and without it. -/
def sinkE (ops : Array Oper) (n e : Nat) : Bool :=
  (List.range n).all fun i => decide (i = e) || (List.range (n + 1)).any fun j => decide (i < j ∧ j ≠ e) && Region.waitsFor .any ops j i
theorem tail_waitsE (hs : sinkE ops n e = true) (hc : Region.chainB .any ops n = true) (hn : n < ops.size) (inv : HeadInv .any ops n listed) :
    ∀ (d i : Nat), n - i = d → i < n → i ≠ e → listed.getD i true = false → ∀ t, n ≤ t → t ∉ Region.ready .any ops listed := by
  intro d
  induction d using Nat.strongRecOn with
  | _ d ih =>
    intro i hd hi hi0 hun t ht hr
    obtain ⟨_, ot, hot, hall⟩ := mem_ready.1 hr
    have htlt : t < ops.size := (Array.getElem?_eq_some_iff.1 hot).1
    by_cases htn : t = n
    · have h1 := List.all_eq_true.1 hs i (List.mem_range.2 hi)
      rw [decide_eq_false hi0, Bool.false_or] at h1
      obtain ⟨j, hj, hj2⟩ := List.any_eq_true.1 h1
      simp only [Bool.and_eq_true, decide_eq_true_eq] at hj2
      obtain ⟨oj, hoj, ed, he, hb, hon⟩ := Region.waitsFor_spec hj2.2
      have hjle : j ≤ n := by have := List.mem_range.1 hj; omega
      by_cases hjt : j = t
      · have : oj = ot := Option.some.inj (by rw [← hoj, ← hot, hjt])
        rw [this] at he
        have h2 := hall ed he hb
        rw [hon, getD_both hun] at h2
        cases h2
      · cases hl : listed.getD j false with
        | true =>
          have h2 := inv.closed j oj hoj hl ed he hb
          rw [hon, getD_both hun] at h2
          cases h2
        | false =>
          have hjs : j < listed.size := by rw [inv.size]; omega
          exact ih (n - j) (by omega) j rfl (by omega) hj2.1.2 (getD_in hjs hl) t ht hr
    · have h1 := List.all_eq_true.1 hc t (List.mem_range.2 htlt)
      simp only [Bool.or_eq_true, decide_eq_true_eq] at h1
      rcases h1 with h1 | h1
      · omega
      · obtain ⟨o', ho', ed, he, hb, hon⟩ := Region.waitsFor_spec h1
        have : o' = ot := Option.some.inj (ho'.symm.trans hot)
        rw [this] at he
        have h2 := hall ed he hb
        rw [hon, getD_both (inv.tail (t - 1) (by omega) (by omega))] at h2
        cases h2
theorem any_of_headE (hok : Ok ops a0.tmps.size) (mono : ∀ i v w w', R i v w → Below w.heap.size w w' → R i v w') (step : ∀ i o, i < n → ops[i]? = some o → Step P ops R a0 w0 i o)
    (hs : sinkE ops n e = true) (hc : Region.chainB .any ops n = true) (hn : n < ops.size) (hen : e < n) (hQ : ∀ (d : Option Tmp) (v : Value) c a w, Q (.panic c) (a.put d v) w → Q (.panic c) a w)
    (hleft : ∀ o, ops[e]? = some o → ∀ v, left o v = v) (hfr : ∀ listed : Array Bool, listed.size = ops.size → (∀ i, i < ops.size → listed.getD i true = decide (i < n ∧ i ≠ e)) → Region.free .any ops listed e = true)
    (hy : ∀ o, ops[e]? = some o → ∀ u w, Below w0.heap.size w0 w → (∀ j ∈ waits o, R j (u j) w) → ∃ v, Yields P ops o v (can ops u (List.range e) a0) ∧ R e (left o v) w)
    (fin : ∀ u listed w, listed.size = ops.size → (∀ i, i < ops.size → listed.getD i true = decide (i < n)) → Below w0.heap.size w0 w → (∀ i, i < n → R i (u i) w) → wpAny P .any ops Q (ops.size - n) listed (can ops u (List.range n) a0) w) :
    ∀ (fuel : Nat) (listed : Array Bool) (u : Nat → Value) (L : List Nat) (a : Act) (w : World), Inv P ops R a0 w0 listed u L a w → HeadInv .any ops n listed → (∀ i ∈ L, i < n) → fuel + L.length = n → wpAny P .any ops Q (fuel + (ops.size - n)) listed a w := by
  intro fuel
  induction fuel with
  | zero =>
    intro listed u L a w hI inv hLn hlen
    have hall : ∀ i, i < n → i ∈ L := by
      intro i hi
      apply Classical.byContradiction
      intro hc
      have h1 : (i :: L).Nodup := List.nodup_cons.2 ⟨hc, hI.nodup⟩
      have h2 := nodup_le (m := List.range n) h1 (fun x hx => by
        rcases List.mem_cons.1 hx with rfl | hx
        · exact List.mem_range.2 hi
        · exact List.mem_range.2 (hLn x hx))
      rw [List.length_cons, List.length_range] at h2
      omega
    have e : a = can ops u (List.range n) a0 := by
      rw [hI.act]
      have e1 : (can ops u L a0).tmps = (can ops u (List.range n) a0).tmps := by
        refine Array.ext_getElem? fun t => ?_
        by_cases hex : ∃ j, j < n ∧ dstOf ops j = some t
        · obtain ⟨j, hjn, hj⟩ := hex
          rw [can_at u L a0 t j (hall j hjn) hj (hok.small j t hj) (fun k _ hk => hok.lone k j t hk hj), can_at u _ a0 t j (List.mem_range.2 hjn) hj (hok.small j t hj) (fun k _ hk => hok.lone k j t hk hj)]
        · rw [can_other u L a0 t (fun k hk e => hex ⟨k, hLn k hk, e⟩), can_other u _ a0 t (fun k hk e => hex ⟨k, List.mem_range.1 hk, e⟩)]
      have e2 : (can ops u L a0).defers = (can ops u (List.range n) a0).defers := by rw [can_defers, can_defers]
      generalize can ops u L a0 = x at e1 e2 ⊢
      generalize can ops u (List.range n) a0 = y at e1 e2 ⊢
      obtain ⟨xt, xd⟩ := x
      obtain ⟨yt, yd⟩ := y
      subst e1 e2
      rfl
    rw [e, Nat.zero_add]
    refine fin u listed w hI.size (fun i hi => ?_) hI.below (fun i hi => hI.rel i (hall i hi))
    by_cases hin : i < n
    · rw [decide_eq_true hin]; exact ((hI.mem i).1 (hall i hin)).2
    · rw [decide_eq_false hin]; exact inv.tail i (by omega) hi
  | succ fuel ih =>
    intro listed u L a w hI inv hLn hlen
    rw [show fuel + 1 + (ops.size - n) = (fuel + (ops.size - n)) + 1 by omega]
    have hex : ∃ i, i < n ∧ i ∉ L := by
      apply Classical.byContradiction
      intro hc
      have h3 := nodup_le (m := L) (List.nodup_range (n := n)) (fun x hx => by
        apply Classical.byContradiction
        intro hx2
        exact hc ⟨x, List.mem_range.1 hx, hx2⟩)
      rw [List.length_range] at h3
      omega
    by_cases hex2 : ∃ i, i < n ∧ i ∉ L ∧ i ≠ e
    case neg =>
      obtain ⟨i1, hi1, hL1⟩ := hex
      obtain rfl : i1 = e := Classical.byContradiction fun hne => hex2 ⟨i1, hi1, hL1, hne⟩
      have hall : ∀ i, i < n → i ≠ i1 → i ∈ L := fun i hi hne => Classical.byContradiction fun hx => hex2 ⟨i, hi, hx, hne⟩
      have hinn : i1 < ops.size := by omega
      have ho := Array.getElem?_eq_getElem hinn
      generalize ops[i1] = o at ho
      have hw : ∀ j ∈ waits o, j ∈ L := fun j hj => by
        have := hok.early i1 o ho j hj
        exact hall j (by omega) (by omega)
      have hlk := hI.looks hok ho hw hL1
      have hsel := fun cs c => Region.noSelect_spec hok.sel i1 o cs c ho
      have hdst : dstOf ops i1 = o.dst := by unfold dstOf; rw [ho]; rfl
      obtain ⟨v, hyv, hRv⟩ := hy o ho u w hI.below (fun j hj => hI.rel j (hw j hj))
      have hun : listed.getD i1 true = false := by
        cases hx : listed.getD i1 true with
        | false => rfl
        | true => exact absurd ((hI.mem i1).2 ⟨hinn, hx⟩) hL1
      have hlist : ∀ i, i < ops.size → listed.getD i true = decide (i < n ∧ i ≠ i1) := fun i hi => by
        by_cases hin : i < n
        · by_cases hie : i = i1
          · subst hie; rw [hun, decide_eq_false (fun h => h.2 rfl)]
          · rw [decide_eq_true ⟨hin, hie⟩]; exact ((hI.mem i).1 (hall i hin hie)).2
        · rw [decide_eq_false (fun h => hin h.1)]; exact inv.tail i (by omega) hi
      have hready : i1 ∈ Region.ready .any ops listed := mem_ready.2 ⟨hun, o, ho, fun e he hb => by
        have hj : e.on ∈ waits o := List.mem_map.2 ⟨e, List.mem_filter.2 ⟨by simpa using he, hb⟩, rfl⟩
        have h1 := (hI.mem _).1 (hw _ hj)
        have hs : e.on < listed.size := by rw [hI.size]; exact h1.1
        have h2 := h1.2
        simp [hs] at h2 ⊢
        exact h2⟩
      refine wpAny_take (v := v) ho hok.sel (hfr listed hI.size hlist) (by simpa using hready) (fun _ _ _ h => hQ _ _ _ _ _ h) ?_ ?_
      · unfold Yields at hyv ⊢
        rw [same_exec hsel hlk, same_wanted hlk]
        exact hyv
      refine ih (listed.setIfInBounds i1 true) (fun k => if k = i1 then v else u k) (L ++ [i1]) _ w ⟨?_, ?_, fun k => ?_, by simp [hI.size], hI.below, fun k hk => ?_, fun k hk ok hok' j hj => ?_⟩ (inv.set hready hi1) (fun k hk => ?_) (by rw [List.length_append, List.length_singleton]; omega)
      · rw [can_snoc, can_congr (u' := u) L a0 (fun k hk => by show (if k = i1 then v else u k) = u k; rw [if_neg (fun e : k = i1 => hL1 (by rw [← e]; exact hk))]), ← hI.act, hdst, if_pos rfl]
      · refine List.nodup_append.2 ⟨hI.nodup, by simp, fun x hx y hy => ?_⟩
        rw [List.mem_singleton] at hy
        subst hy
        exact fun e => hL1 (e ▸ hx)
      · rw [List.mem_append, List.mem_singleton, hI.mem]
        by_cases hki : k = i1
        · subst hki
          have hs : k < listed.size := by rw [hI.size]; exact hinn
          simp [hinn, hs]
        · rw [getD_set_ne true (Ne.symm hki)]
          simp [hki]
      · rcases List.mem_append.1 hk with hk | hk
        · show R k (if k = i1 then v else u k) w
          rw [if_neg (fun e : k = i1 => hL1 (by rw [← e]; exact hk))]
          exact hI.rel k hk
        · rw [List.mem_singleton] at hk
          subst hk
          show R k (if k = k then v else u k) w
          rw [if_pos rfl]
          rw [show left o v = v from hleft o ho v] at hRv
          exact hRv
      · rcases List.mem_append.1 hk with hk | hk
        · exact List.mem_append_left _ (hI.closed k hk ok hok' j hj)
        · rw [List.mem_singleton] at hk
          subst hk
          obtain rfl := Option.some.inj (ho.symm.trans hok')
          exact List.mem_append_left _ (hw j hj)
      · rcases List.mem_append.1 hk with hk | hk
        · exact hLn k hk
        · rw [List.mem_singleton.1 hk]; exact hi1
    obtain ⟨i0, hi0, hL0, hie⟩ := hex2
    refine ⟨fun h0 => absurd h0 (hI.goes hok i0 (by omega) hL0), fun i hi => ?_⟩
    have hin : i < n := by
      apply Classical.byContradiction
      intro hni
      refine tail_waitsE hs hc hn inv (n - i0) i0 rfl hi0 hie ?_ i (by omega) hi
      cases hx : listed.getD i0 true with
      | false => rfl
      | true => exact absurd ((hI.mem i0).2 ⟨by omega, hx⟩) hL0
    obtain ⟨hun, o, ho, hr⟩ := mem_ready.1 hi
    have hinn := (Array.getElem?_eq_some_iff.1 ho).1
    have hiL : i ∉ L := fun h => by
      have := ((hI.mem i).1 h).2
      rw [hun] at this; cases this
    have hw := hI.waits_in hok ho hr
    have hlk := hI.looks hok ho hw hiL
    have hsel := fun cs c => Region.noSelect_spec hok.sel i o cs c ho
    have hdst : dstOf ops i = o.dst := by unfold dstOf; rw [ho]; rfl
    have h1 := one (Q := Q) (a := a) (J := fun v w' => Below w.heap.size w w' ∧ R i v w') ho (same_exec hsel hlk) (same_wanted hlk) (fun d hd => by rw [can_size]; exact hok.small i d (by rw [hdst, hd]))
      (by
        have hs := step i o hin ho u w hI.below (fun j hj => hI.rel j (hw j hj))
        rw [can_defers]
        exact hs)
    refine wpOp_mono (fun a' w' hq => ?_) h1
    obtain ⟨v, rfl, hb, hR⟩ := hq
    refine ih (listed.setIfInBounds i true) (fun k => if k = i then left o v else u k) (L ++ [i]) _ w' ⟨?_, ?_, fun k => ?_, by simp [hI.size], hI.below.trans (hb.mono hI.below.size), fun k hk => ?_, fun k hk ok hok' j hj => ?_⟩ (inv.set hi hin) (fun k hk => ?_) (by rw [List.length_append, List.length_singleton]; omega)
    · rw [can_snoc, can_congr (u' := u) L a0 (fun k hk => by show (if k = i then left o v else u k) = u k; rw [if_neg (fun e : k = i => hiL (by rw [← e]; exact hk))]), ← hI.act, hdst, if_pos rfl]
      unfold left
      cases o.dst <;> rfl
    · refine List.nodup_append.2 ⟨hI.nodup, by simp, fun x hx y hy => ?_⟩
      rw [List.mem_singleton] at hy
      subst hy
      exact fun e => hiL (e ▸ hx)
    · rw [List.mem_append, List.mem_singleton, hI.mem]
      by_cases hki : k = i
      · subst hki
        have hs : k < listed.size := by rw [hI.size]; exact hinn
        simp [hinn, hs]
      · rw [getD_set_ne true (Ne.symm hki)]
        simp [hki]
    · rcases List.mem_append.1 hk with hk | hk
      · show R k (if k = i then left o v else u k) w'
        rw [if_neg (fun e : k = i => hiL (by rw [← e]; exact hk))]
        exact mono _ _ _ _ (hI.rel k hk) hb
      · rw [List.mem_singleton] at hk
        subst hk
        show R k (if k = k then left o v else u k) w'
        rw [if_pos rfl]
        exact hR
    · rcases List.mem_append.1 hk with hk | hk
      · exact List.mem_append_left _ (hI.closed k hk ok hok' j hj)
      · rw [List.mem_singleton] at hk
        subst hk
        obtain rfl := Option.some.inj (ho.symm.trans hok')
        exact List.mem_append_left _ (hw j hj)
    · rcases List.mem_append.1 hk with hk | hk
      · exact hLn k hk
      · rw [List.mem_singleton.1 hk]; exact hin

theorem region_tailE {l : List Oper} {id : Nat} (n e : Nat) (hm : P.follows .mixedOrders = true) (ds : List (Option Tmp)) (hds : l.map (·.dst) = ds) (hB : okB l.toArray a0.tmps.size = true)
    (hT : (sinkE l.toArray n e && Region.chainB .any l.toArray n && decide (n < l.length) && decide (e < n) && Region.seqB .any l.toArray (l.length - n) n ((List.range l.length).map fun i => decide (i < n)).toArray && Region.free .any l.toArray ((List.range l.length).map fun i => decide (i < n ∧ i ≠ e)).toArray e && (match l[e]? with | some o => o.dst.isSome | none => false)) = true) (S : List Spec)
    (hy : ∀ o, l[e]? = some o → ∀ u w, (∀ j, (waits o).contains j = true → (at_ S j).p (u j) w) → ∃ v, Yields P l.toArray o v (canD u 0 (ds.take e) a0) ∧ (at_ S e).p v w) (steps : Steps P l.toArray S ds a0 w0 0 (l.take n))
    (fin : ∀ u w, Below w0.heap.size w0 w → (∀ i, i < n → (at_ S i).p (u i) w) → wpList P l.toArray (NoPanic Q) (l.drop n) (canD u 0 (ds.take n) a0) w) : (Code.region id l.toArray true).wp P Q a0 w0 := by
  subst hds
  simp only [Bool.and_eq_true, decide_eq_true_eq] at hT
  obtain ⟨⟨⟨⟨⟨⟨t1, t2⟩, t3⟩, t5⟩, t4⟩, t6⟩, t7⟩ := hT
  have hnl : n < l.toArray.size := by simpa using t3
  have hlf : ∀ o, l.toArray[e]? = some o → ∀ v, left o v = v := fun o ho v => by
    have ho' : l[e]? = some o := by simpa using ho
    rw [ho'] at t7
    unfold left
    cases hd : o.dst with
    | none => simp [hd] at t7
    | some d => rfl
  refine wp_region_noPanic ?_
  refine wp_region_any hm ?_
  have h := any_of_headE (Q := NoPanic Q) (n := n) (e := e) (R := fun i => (at_ S i).p) (a0 := a0) (w0 := w0) (ok_of hB) (fun i => (at_ S i).mono) (fun i o hi ho => steps_head 0 (l.take n) rfl (by omega) steps i o (Nat.zero_le _) hi (by simpa using ho)) t1 t2 hnl t5 (fun _ _ _ _ _ h => h) hlf
    (fun listed hls hl => by
      have hle : listed = ((List.range l.length).map fun i => decide (i < n ∧ i ≠ e)).toArray := by
        refine Array.ext (by simpa using hls) fun i h1 h2 => ?_
        have := hl i (by rw [hls] at h1; exact h1)
        simp [h1] at this ⊢
        exact this
      rw [hle]; exact t6)
    (fun o ho u w hb hd => by
      have ho' : l[e]? = some o := by simpa using ho
      obtain ⟨v, h1, h2⟩ := hy o ho' u w (fun j hj => hd j (by simpa using hj))
      refine ⟨v, ?_, by rw [hlf o ho]; exact h2⟩
      rw [List.range_eq_range', canD_eq u a0 e 0 _ rfl (by omega), List.drop_zero]
      exact h1)
    (fun u listed w hls hl hb hR => ?_) n (Array.replicate l.toArray.size false) (fun _ => undef) [] a0 w0.drew
    ⟨rfl, List.nodup_nil, fun i => ⟨fun h => (by cases h), fun ⟨h1, h2⟩ => by simp at h1; simp [h1] at h2⟩, by simp, (Below.refl _ w0).drew, (fun i hi => by cases hi), (fun i hi => by cases hi)⟩
    ⟨by simp, fun j oj _ hj => (by rw [getD_replicate_false] at hj; exact Bool.noConfusion hj), fun t _ hlt => getD_in (by simpa using hlt) (getD_replicate_false _ _)⟩ (fun i hi => by cases hi) rfl
  · rw [show n + (l.toArray.size - n) = l.toArray.size by omega] at h
    exact h
  · have hd : (l.drop n).length = l.toArray.size - n := by simp
    have hle : listed = ((List.range l.length).map fun i => decide (i < n)).toArray := by
      refine Array.ext (by simpa using hls) fun i h1 h2 => ?_
      have := hl i (by rw [hls] at h1; exact h1)
      simp [h1] at this ⊢
      exact this
    have h2 := canD_eq (l := l) u a0 n 0 _ rfl (by omega)
    rw [List.drop_zero] at h2
    rw [List.range_eq_range', h2]
    have h3 := wpAny_of_seq (md := .any) (Q' := NoPanic Q) (ops := l.toArray) (l.drop n) n listed _ w (fun j => by simp [List.getElem?_drop]) (by rw [hd, hle]; simpa using t4) (fin u w hb hR)
    rwa [hd] at h3
end
end Rel
end Go.Proofs.Ytjdmmnpfjbnhoaa
