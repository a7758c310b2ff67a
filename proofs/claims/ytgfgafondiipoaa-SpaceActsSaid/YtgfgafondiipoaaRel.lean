/- A region that draws its order, in which calls, loads, allocs stand side by side: EACH OPERATION BY ITSELF, under what is known of the values that it waits for. What an operation yields is held by a relation of the value and the world ('R i v w'), which more memory doesn't undo; so no order is walked: there is one goal for each operation, and one behind them all. -/
import Derived.Test.YtgfgafondiipoaaProg
import Derived.Orders
import Derived.WalkKit
namespace Go.Proofs.Ytgfgafondiipoaa
open Go.RowKit

namespace Rel
section
variable {P : Program} {ops : Array Oper} {Q : Exit → Act → World → Prop}

def dstOf (ops : Array Oper) (i : Nat) : Option Tmp := (ops[i]?).bind (·.dst)
/-- The frame in which the operations of a list have yielded. -/
def can (ops : Array Oper) (u : Nat → Value) (L : List Nat) (a : Act) : Act := L.foldl (fun a i => a.put (dstOf ops i) (u i)) a
/-- What an operation waits for. -/
def waits (o : Oper) : List Nat := (o.after.toList.filter (Region.binds .any)).map (·.on)
/-- What it leaves in its slot. -/
def left (o : Oper) (v : Value) : Value := match o.dst with | some _ => v | none => undef
def slot (o : Oper) (a : Act) : Value := match o.dst with | some d => a.eval (.tmp d) | none => undef

/-- What is asked of the region's text: no select; no slot written twice, nor beyond the frame; whoever looks at a slot that another one writes waits for it, or is waited for by it; nobody waits for a later one. -/
def okB (ops : Array Oper) (size : Nat) : Bool :=
  Region.noSelect ops && (List.range ops.size).all fun i => match ops[i]? with
    | none => true
    | some o =>
      (match o.dst with | some d => decide (d < size) && (List.range ops.size).all (fun j => j == i || dstOf ops j != some d) | none => true) &&
      (waits o).all (fun j => decide (j < i)) &&
      (o.looksAt ops).all fun t => (List.range ops.size).all fun j => dstOf ops j != some t || (waits o).contains j || (decide (i < j) && match ops[j]? with | some oj => (waits oj).contains i | none => false)

theorem put_size (a : Act) (d : Option Tmp) (v : Value) : (a.put d v).tmps.size = a.tmps.size := by cases d <;> simp [Act.put]
theorem put_defers (a : Act) (d : Option Tmp) (v : Value) : (a.put d v).defers = a.defers := by cases d <;> rfl
theorem can_size (u : Nat → Value) (L : List Nat) (a : Act) : (can ops u L a).tmps.size = a.tmps.size := by
  unfold can
  induction L generalizing a with
  | nil => rfl
  | cons i L ih => rw [List.foldl_cons, ih, put_size]
theorem can_defers (u : Nat → Value) (L : List Nat) (a : Act) : (can ops u L a).defers = a.defers := by
  unfold can
  induction L generalizing a with
  | nil => rfl
  | cons i L ih => rw [List.foldl_cons, ih, put_defers]
theorem can_snoc (u : Nat → Value) (L : List Nat) (i : Nat) (a : Act) : can ops u (L ++ [i]) a = (can ops u L a).put (dstOf ops i) (u i) := by
  unfold can; rw [List.foldl_append]; rfl
theorem put_get (a : Act) (d t : Tmp) (v : Value) (h : d ≠ t) : (a.put (some d) v).tmps[t]? = a.tmps[t]? := by
  simp [Act.put, Array.getElem?_setIfInBounds_ne h]
/-- A slot that nobody of the list writes. -/
theorem can_other (u : Nat → Value) (L : List Nat) (a : Act) (t : Tmp) (h : ∀ j ∈ L, dstOf ops j ≠ some t) : (can ops u L a).tmps[t]? = a.tmps[t]? := by
  unfold can
  induction L generalizing a with
  | nil => rfl
  | cons i L ih =>
    rw [List.foldl_cons, ih _ (fun j hj => h j (List.mem_cons_of_mem _ hj))]
    have h1 := h i (List.mem_cons_self ..)
    cases hd : dstOf ops i with
    | none => rfl
    | some d => exact put_get _ _ _ _ (fun e => h1 (by rw [hd, e]))
/-- A slot that one of the list writes. -/
theorem can_at (u : Nat → Value) (L : List Nat) (a : Act) (t : Tmp) (j : Nat) (hj : j ∈ L) (hd : dstOf ops j = some t) (ht : t < a.tmps.size) (hone : ∀ k ∈ L, dstOf ops k = some t → k = j) : (can ops u L a).tmps[t]? = some (u j) := by
  unfold can
  induction L generalizing a with
  | nil => cases hj
  | cons i L ih =>
    rw [List.foldl_cons]
    by_cases hL : j ∈ L
    · exact ih _ hL (by rw [put_size]; exact ht) (fun k hk => hone k (List.mem_cons_of_mem _ hk))
    · obtain rfl : j = i := by
        rcases List.mem_cons.1 hj with h | h
        · exact h
        · exact absurd h hL
      have h1 := can_other (ops := ops) u L (a.put (dstOf ops j) (u j)) t (fun k hk e => hL (hone k (List.mem_cons_of_mem _ hk) e ▸ hk))
      unfold can at h1
      rw [h1, hd]
      simp [Act.put, ht]
theorem can_congr {u u' : Nat → Value} (L : List Nat) (a : Act) (h : ∀ j ∈ L, u j = u' j) : can ops u L a = can ops u' L a := by
  unfold can
  induction L generalizing a with
  | nil => rfl
  | cons i L ih =>
    rw [List.foldl_cons, List.foldl_cons, h i (List.mem_cons_self ..)]
    exact ih _ (fun j hj => h j (List.mem_cons_of_mem _ hj))

/-- One operation by itself. -/
theorem one {i : Nat} {o : Oper} {a b : Act} {w : World} {J : Value → World → Prop} (hoi : ops[i]? = some o) (he : execOp a.eval o = execOp b.eval o)
    (hw : Region.wanted o (yielded ops a.tmps) = Region.wanted o (yielded ops b.tmps)) (hd : ∀ d, o.dst = some d → d < b.tmps.size)
    (h : wpList P ops (fun e a' w' => e = .normal ∧ a'.defers = b.defers ∧ J (slot o a') w') [o] b w) :
    wpOp P ops Q i (fun a' w' => ∃ v, a' = a.put o.dst v ∧ J (left o v) w') a w := by
  have hs : ∀ v, slot o (b.put o.dst v) = left o v := fun v => by
    unfold slot left
    cases hdd : o.dst with
    | none => rfl
    | some d =>
      show (b.put (some d) v).tmps.getD d undef = v
      simp [Act.put, hd d hdd]
  unfold wpOp
  simp only [hoi]
  rw [hw]
  unfold wpList at h
  split at h
  · rename_i h1
    rw [if_pos h1]
    rcases h with h | ⟨_, _, _, hl, _⟩
    case inr => cases hl
    refine .inl ?_
    unfold Oper.wp at h ⊢
    rw [he]
    generalize (execOp b.eval o).run P w = r at h ⊢
    cases r with
    | ok n w' =>
      cases n <;> simp only [Oper.upon] at h ⊢
      case value v => exact ⟨v, rfl, by rw [← hs v]; exact h.2.2⟩
      case skip => exact ⟨undef, rfl, by rw [← hs undef]; exact h.2.2⟩
      case defer d =>
        exfalso
        have h2 := h.2.1
        rw [put_defers] at h2
        exact absurd (congrArg List.length h2) (by simp)
      case enter f args =>
        refine Calls.mono h fun e w'' hq => ?_
        cases e with
        | returned v => exact ⟨v, rfl, by rw [← hs v]; exact hq.2.2⟩
        | panicked c => exact absurd hq.1 (by simp)
        | outgrown => obtain ⟨_, _, hl, _⟩ := hq; cases hl
      case row row args => exact Rows.mono h fun v w'' hq => ⟨v, rfl, by rw [← hs v]; exact hq.2.2⟩
    | halt x w' =>
      cases x <;> simp only [Oper.upon] at h ⊢
      case panic u => exact absurd h.1 (by simp)
  · rename_i h1
    rw [if_neg h1]
    exact ⟨undef, rfl, by rw [← hs undef]; exact h.2.2⟩

/-! ### what the text's test says -/
structure Ok (ops : Array Oper) (size : Nat) : Prop where
  sel : Region.noSelect ops = true
  small : ∀ i d, dstOf ops i = some d → d < size
  lone : ∀ i j d, dstOf ops i = some d → dstOf ops j = some d → i = j
  early : ∀ i o, ops[i]? = some o → ∀ j ∈ waits o, j < i
  look : ∀ i o, ops[i]? = some o → ∀ t ∈ o.looksAt ops, ∀ j, dstOf ops j = some t → j ∈ waits o ∨ (i < j ∧ ∀ oj, ops[j]? = some oj → i ∈ waits oj)
theorem lt_of_dst {i : Nat} {d : Tmp} (h : dstOf ops i = some d) : i < ops.size := by
  unfold dstOf at h
  rcases Nat.lt_or_ge i ops.size with h' | h'
  · exact h'
  · rw [Array.getElem?_eq_none h'] at h; cases h
theorem ok_of {size : Nat} (h : okB ops size = true) : Ok ops size := by
  unfold okB at h
  rw [Bool.and_eq_true] at h
  obtain ⟨h0, h⟩ := h
  have g : ∀ i o, ops[i]? = some o → _ := fun i o ho => by
    have := List.all_eq_true.1 h i (List.mem_range.2 (Array.getElem?_eq_some_iff.1 ho).1)
    rw [ho] at this
    exact this
  have gd : ∀ i d, dstOf ops i = some d → ∃ o, ops[i]? = some o ∧ o.dst = some d := fun i d hd => by
    unfold dstOf at hd
    cases ho : ops[i]? with
    | none => rw [ho] at hd; cases hd
    | some o => exact ⟨o, rfl, by rw [ho] at hd; exact hd⟩
  refine ⟨h0, fun i d hd => ?_, fun i j d hi hj => ?_, fun i o ho j hj => ?_, fun i o ho t ht j hj => ?_⟩
  · obtain ⟨o, ho, hd⟩ := gd i d hd
    have := g i o ho
    simp only [hd, Bool.and_eq_true, decide_eq_true_eq] at this
    exact this.1.1.1
  · obtain ⟨o, ho, hd⟩ := gd i d hi
    have := g i o ho
    simp only [hd, Bool.and_eq_true, decide_eq_true_eq] at this
    have h2 := List.all_eq_true.1 this.1.1.2 j (List.mem_range.2 (lt_of_dst hj))
    simp [hj] at h2
    exact h2.symm
  · have := g i o ho
    simp only [Bool.and_eq_true] at this
    exact of_decide_eq_true (List.all_eq_true.1 this.1.2 j hj)
  · have := g i o ho
    simp only [Bool.and_eq_true] at this
    have h2 := List.all_eq_true.1 (List.all_eq_true.1 this.2 t ht) j (List.mem_range.2 (lt_of_dst hj))
    simp only [hj, Bool.or_eq_true, bne_self_eq_false, Bool.false_eq_true, false_or, Bool.and_eq_true, decide_eq_true_eq] at h2
    rcases h2 with h2 | ⟨h2, h3⟩
    · exact .inl (by simpa using h2)
    · refine .inr ⟨h2, fun oj hoj => ?_⟩
      rw [hoj] at h3
      simpa using h3

/-- How far a region has come: which ones are done, what they yielded, in which world. -/
structure Inv (P : Program) (ops : Array Oper) (R : Nat → Value → World → Prop) (a0 : Act) (w0 : World) (listed : Array Bool) (u : Nat → Value) (L : List Nat) (a : Act) (w : World) : Prop where
  act : a = can ops u L a0
  nodup : L.Nodup
  mem : ∀ i, i ∈ L ↔ i < ops.size ∧ listed.getD i true = true
  size : listed.size = ops.size
  below : Below w0.heap.size w0 w
  rel : ∀ i ∈ L, R i (u i) w
  closed : ∀ i ∈ L, ∀ o, ops[i]? = some o → ∀ j ∈ waits o, j ∈ L

variable {R : Nat → Value → World → Prop} {a0 a : Act} {w0 w : World} {listed : Array Bool} {u : Nat → Value} {L : List Nat}
theorem Inv.waits_in (hI : Inv P ops R a0 w0 listed u L a w) {i : Nat} {o : Oper} (hok : Ok ops a0.tmps.size) (ho : ops[i]? = some o) (hr : ∀ e ∈ o.after, Region.binds .any e = true → listed.getD e.on false = true) : ∀ j ∈ waits o, j ∈ L := fun j hj => by
  have hlt := hok.early i o ho j hj
  have hi := (Array.getElem?_eq_some_iff.1 ho).1
  unfold waits at hj
  obtain ⟨e, he, rfl⟩ := List.mem_map.1 hj
  obtain ⟨he, hb⟩ := List.mem_filter.1 he
  have := hr e (by simpa using he) hb
  refine (hI.mem _).2 ⟨by omega, ?_⟩
  have hs : e.on < listed.size := by rw [hI.size]; omega
  simp [hs] at this ⊢
  exact this
/-- What an operation looks at is there as it is in the text's order. -/
theorem Inv.looks (hI : Inv P ops R a0 w0 listed u L a w) {i : Nat} {o : Oper} (hok : Ok ops a0.tmps.size) (ho : ops[i]? = some o) (hw : ∀ j ∈ waits o, j ∈ L) (hi : i ∉ L) :
    ∀ t ∈ o.looksAt ops, a.tmps[t]? = (can ops u (List.range i) a0).tmps[t]? := fun t ht => by
  rw [hI.act]
  by_cases hex : ∃ j, dstOf ops j = some t
  · obtain ⟨j, hj⟩ := hex
    rcases hok.look i o ho t ht j hj with h | ⟨h1, h2⟩
    · have hji := hok.early i o ho j h
      rw [can_at u L a0 t j (hw j h) hj (hok.small j t hj) (fun k _ hk => hok.lone k j t hk hj), can_at u _ a0 t j (List.mem_range.2 hji) hj (hok.small j t hj) (fun k _ hk => hok.lone k j t hk hj)]
    · have hjL : j ∉ L := fun hjL => by
        have hjn := lt_of_dst hj
        exact hi (hI.closed j hjL _ (Array.getElem?_eq_getElem hjn) i (h2 _ (Array.getElem?_eq_getElem hjn)))
      rw [can_other u L a0 t (fun k hk e => hjL (hok.lone k j t e hj ▸ hk)), can_other u _ a0 t (fun k hk e => by
        have := List.mem_range.1 hk
        have := hok.lone k j t e hj
        omega)]
  · rw [can_other u L a0 t (fun k _ e => hex ⟨k, e⟩), can_other u _ a0 t (fun k _ e => hex ⟨k, e⟩)]
theorem same_exec {o : Oper} {a b : Act} (hs : ∀ cs c, o.op ≠ .select cs c) (h : ∀ t ∈ o.looksAt ops, a.tmps[t]? = b.tmps[t]?) : execOp a.eval o = execOp b.eval o :=
  execOp_congr o hs fun x hx => by
    cases x with
    | tmp t =>
      have := h t (List.mem_append_left _ (List.mem_filterMap.2 ⟨.tmp t, by simpa using hx, rfl⟩))
      show a.tmps.getD t undef = b.tmps.getD t undef
      rw [Array.getD_eq_getD_getElem?, Array.getD_eq_getD_getElem?, this]
    | _ => rfl
theorem same_wanted {o : Oper} {a b : Act} (h : ∀ t ∈ o.looksAt ops, a.tmps[t]? = b.tmps[t]?) : Region.wanted o (yielded ops a.tmps) = Region.wanted o (yielded ops b.tmps) := by
  unfold Region.wanted
  cases hg : o.guard with
  | none => rfl
  | some gw =>
    obtain ⟨g, want⟩ := gw
    have hy : yielded ops a.tmps g = yielded ops b.tmps g := by
      unfold yielded
      cases ht : (ops[g]?).bind (·.dst) with
      | none => rfl
      | some t =>
        have := h t (by simp [Oper.looksAt, hg, ht])
        show (match a.tmps[t]? with | some (.bool b) => some b | _ => none) = (match b.tmps[t]? with | some (.bool b) => some b | _ => none)
        rw [this]
    show (yielded ops a.tmps g == some want) = (yielded ops b.tmps g == some want)
    rw [hy]
/-- Somebody may always come up. -/
theorem Inv.goes (hI : Inv P ops R a0 w0 listed u L a w) (hok : Ok ops a0.tmps.size) (i : Nat) (hi : i < ops.size) (hL : i ∉ L) : Region.ready .any ops listed ≠ [] := by
  induction i using Nat.strongRecOn with
  | _ i ih =>
    intro h0
    have ho := Array.getElem?_eq_getElem hi
    by_cases hall : ∀ j ∈ waits ops[i], j ∈ L
    · have hm : i ∈ Region.ready .any ops listed := by
        rw [mem_ready]
        refine ⟨?_, _, ho, fun e he hb => ?_⟩
        · cases hx : listed.getD i true with
          | false => rfl
          | true => exact absurd ((hI.mem i).2 ⟨hi, hx⟩) hL
        · have hj : e.on ∈ waits ops[i] := List.mem_map.2 ⟨e, List.mem_filter.2 ⟨by simpa using he, hb⟩, rfl⟩
          have h1 := (hI.mem _).1 (hall _ hj)
          have hs : e.on < listed.size := by rw [hI.size]; exact h1.1
          have h2 := h1.2
          simp [hs] at h2 ⊢
          exact h2
      rw [h0] at hm; cases hm
    · simp only [Classical.not_forall] at hall
      obtain ⟨j, hj, hjL⟩ := hall
      have hlt := hok.early i _ ho j hj
      exact ih j hlt (by omega) hjL h0

theorem nodup_le {l m : List Nat} (h : l.Nodup) (hs : ∀ x ∈ l, x ∈ m) : l.length ≤ m.length := by
  induction l generalizing m with
  | nil => exact Nat.zero_le _
  | cons x t ih =>
    have hx := hs x (List.mem_cons_self ..)
    obtain ⟨h1, h2⟩ := List.nodup_cons.1 h
    have h3 := ih (m := m.erase x) h2 (fun y hy => (List.mem_erase_of_ne (fun e : y = x => h1 (by rw [← e]; exact hy))).2 (hs y (List.mem_cons_of_mem _ hy)))
    have h4 := List.length_erase_of_mem hx
    have h5 := List.length_pos_of_mem hx
    rw [List.length_cons]; omega
/-- Each operation by itself: what it waits for is known, what it yields is held. -/
def Step (P : Program) (ops : Array Oper) (R : Nat → Value → World → Prop) (a0 : Act) (w0 : World) (i : Nat) (o : Oper) : Prop :=
  ∀ u w, Below w0.heap.size w0 w → (∀ j ∈ waits o, R j (u j) w) →
    wpList P ops (fun e a' w' => e = .normal ∧ a'.defers = a0.defers ∧ Below w.heap.size w w' ∧ R i (slot o a') w') [o] (can ops u (List.range i) a0) w

theorem any_of (hok : Ok ops a0.tmps.size) (mono : ∀ i v w w', R i v w → Below w.heap.size w w' → R i v w') (step : ∀ i o, ops[i]? = some o → Step P ops R a0 w0 i o)
    (fin : ∀ u w, Below w0.heap.size w0 w → (∀ i, i < ops.size → R i (u i) w) → Q .normal (can ops u (List.range ops.size) a0) w) :
    ∀ (fuel : Nat) (listed : Array Bool) (u : Nat → Value) (L : List Nat) (a : Act) (w : World), Inv P ops R a0 w0 listed u L a w → fuel + L.length = ops.size → wpAny P .any ops Q fuel listed a w := by
  intro fuel
  induction fuel with
  | zero =>
    intro listed u L a w hI hn
    have hall : ∀ i, i < ops.size → i ∈ L := by
      have hsub : ∀ x ∈ L, x ∈ List.range ops.size := fun x hx => List.mem_range.2 ((hI.mem x).1 hx).1
      intro i hi
      apply Classical.byContradiction
      intro hc
      have h1 : (i :: L).Nodup := List.nodup_cons.2 ⟨hc, hI.nodup⟩
      have h2 := nodup_le (m := List.range ops.size) h1 (fun x hx => by
        rcases List.mem_cons.1 hx with rfl | hx
        · exact List.mem_range.2 hi
        · exact hsub x hx)
      rw [List.length_cons, List.length_range] at h2
      omega
    refine ⟨?_, ?_⟩
    · cases hr : Region.ready .any ops listed with
      | nil => rfl
      | cons j rs =>
        have hj : j ∈ Region.ready .any ops listed := by rw [hr]; exact List.mem_cons_self ..
        obtain ⟨h0, o, ho, _⟩ := mem_ready.1 hj
        have := ((hI.mem j).1 (hall j (Array.getElem?_eq_some_iff.1 ho).1)).2
        rw [h0] at this; cases this
    · have e : a = can ops u (List.range ops.size) a0 := by
        rw [hI.act]
        have e1 : (can ops u L a0).tmps = (can ops u (List.range ops.size) a0).tmps := by
          refine Array.ext_getElem? fun t => ?_
          by_cases hex : ∃ j, dstOf ops j = some t
          · obtain ⟨j, hj⟩ := hex
            rw [can_at u L a0 t j (hall j (lt_of_dst hj)) hj (hok.small j t hj) (fun k _ hk => hok.lone k j t hk hj), can_at u _ a0 t j (List.mem_range.2 (lt_of_dst hj)) hj (hok.small j t hj) (fun k _ hk => hok.lone k j t hk hj)]
          · rw [can_other u L a0 t (fun k _ e => hex ⟨k, e⟩), can_other u _ a0 t (fun k _ e => hex ⟨k, e⟩)]
        have e2 : (can ops u L a0).defers = (can ops u (List.range ops.size) a0).defers := by rw [can_defers, can_defers]
        generalize can ops u L a0 = x at e1 e2 ⊢
        generalize can ops u (List.range ops.size) a0 = y at e1 e2 ⊢
        obtain ⟨xt, xd⟩ := x
        obtain ⟨yt, yd⟩ := y
        subst e1 e2
        rfl
      rw [e]
      exact fin u w hI.below (fun i hi => hI.rel i (hall i hi))
  | succ fuel ih =>
    intro listed u L a w hI hn
    refine ⟨fun h0 => ?_, fun i hi => ?_⟩
    · exfalso
      have hex : ∃ i, i < ops.size ∧ i ∉ L := by
        apply Classical.byContradiction
        intro hc
        have h3 := nodup_le (m := L) (List.nodup_range (n := ops.size)) (fun x hx => by
          apply Classical.byContradiction
          intro hx2
          exact hc ⟨x, List.mem_range.1 hx, hx2⟩)
        rw [List.length_range] at h3
        omega
      obtain ⟨i, hi, hL⟩ := hex
      exact hI.goes hok i hi hL h0
    · obtain ⟨hun, o, ho, hr⟩ := mem_ready.1 hi
      have hin := (Array.getElem?_eq_some_iff.1 ho).1
      have hiL : i ∉ L := fun h => by
        have := ((hI.mem i).1 h).2
        rw [hun] at this; cases this
      have hw := hI.waits_in hok ho hr
      have hlk := hI.looks hok ho hw hiL
      have hsel := fun cs c => Region.noSelect_spec hok.sel i o cs c ho
      have hdst : dstOf ops i = o.dst := by unfold dstOf; rw [ho]; rfl
      have h1 := one (Q := Q) (a := a) (J := fun v w' => Below w.heap.size w w' ∧ R i v w') ho (same_exec hsel hlk) (same_wanted hlk) (fun d hd => by rw [can_size]; exact hok.small i d (by rw [hdst, hd]))
        (by
          have hs := step i o ho u w hI.below (fun j hj => hI.rel j (hw j hj))
          rw [can_defers]
          exact hs)
      refine wpOp_mono (fun a' w' hq => ?_) h1
      obtain ⟨v, rfl, hb, hR⟩ := hq
      refine ih (listed.setIfInBounds i true) (fun k => if k = i then left o v else u k) (L ++ [i]) _ w' ⟨?_, ?_, fun k => ?_, by simp [hI.size], hI.below.trans (hb.mono hI.below.size), fun k hk => ?_, fun k hk ok hok' j hj => ?_⟩ (by rw [List.length_append, List.length_singleton]; omega)
      · rw [can_snoc, can_congr (u' := u) L a0 (fun k hk => by show (if k = i then left o v else u k) = u k; rw [if_neg (fun e : k = i => hiL (by rw [← e]; exact hk))]), ← hI.act, hdst, if_pos rfl]
        unfold left
        cases o.dst <;> rfl
      · refine List.nodup_append.2 ⟨hI.nodup, by simp, fun x hx y hy => ?_⟩
        rw [List.mem_singleton] at hy
        subst hy
        exact fun e => hiL (e ▸ hx)
      · rw [List.mem_append, List.mem_singleton, hI.mem]
        by_cases hki : k = i
        · subst hki
          have hs : k < listed.size := by rw [hI.size]; exact hin
          simp [hin, hs]
        · rw [getD_set_ne true (Ne.symm hki)]
          simp [hki]
      · rcases List.mem_append.1 hk with hk | hk
        · show R k (if k = i then left o v else u k) w'
          rw [if_neg (fun e : k = i => hiL (by rw [← e]; exact hk))]
          exact mono _ _ _ _ (hI.rel k hk) hb
        · rw [List.mem_singleton] at hk
          subst hk
          show R k (if k = k then left o v else u k) w'
          rw [if_pos rfl]
          exact hR
      · rcases List.mem_append.1 hk with hk | hk
        · exact List.mem_append_left _ (hI.closed k hk ok hok' j hj)
        · rw [List.mem_singleton] at hk
          subst hk
          obtain rfl := Option.some.inj (ho.symm.trans hok')
          exact List.mem_append_left _ (hw j hj)

/-- **The region, one goal for each operation.** -/
theorem region {id : Nat} (hm : P.follows .mixedOrders = true) (hB : okB ops a0.tmps.size = true) (mono : ∀ i v w w', R i v w → Below w.heap.size w w' → R i v w') (step : ∀ i o, ops[i]? = some o → Step P ops R a0 w0 i o)
    (fin : ∀ u w, Below w0.heap.size w0 w → (∀ i, i < ops.size → R i (u i) w) → Q .normal (can ops u (List.range ops.size) a0) w) : (Code.region id ops true).wp P Q a0 w0 := by
  refine wp_region_any hm (any_of (ok_of hB) mono step fin ops.size _ (fun _ => undef) [] a0 _ ⟨rfl, List.nodup_nil, fun i => ?_, by simp, (Below.refl _ w0).drew, (fun i hi => by cases hi), (fun i hi => by cases hi)⟩ (by simp))
  constructor
  · intro h; cases h
  · rintro ⟨h1, h2⟩
    simp [h1] at h2

/-! ### the form in which a walk takes it -/
/-- What is held of a value: more memory doesn't undo it. -/
structure Spec where
  p : Value → World → Prop
  mono : ∀ v w w', p v w → Below w.heap.size w w' → p v w'
def Spec.any : Spec := ⟨fun _ _ => True, fun _ _ _ _ _ => trivial⟩
def Spec.eq (x : Value) : Spec := ⟨fun v _ => v = x, fun _ _ _ h _ => h⟩
/-- A slice of a block whose first cells are these. -/
def Spec.box (xs : List Value) : Spec := ⟨fun v w => ∃ g, v = .slice (some ⟨g, 0, none⟩) xs.length xs.length ∧ ∀ j (hj : j < xs.length), w.cell? ⟨g, j, none⟩ = some xs[j],
  fun _ w w' h hb => by
    obtain ⟨g, h1, h2⟩ := h
    exact ⟨g, h1, fun j hj => by rw [hb.cell (p := ⟨g, j, none⟩) (World.block_lt_of_cell? w _ (h2 j hj))]; exact h2 j hj⟩⟩
theorem box_elim {xs : List Value} {v : Value} {w : World} (h : (Spec.box xs).p v w) : ∃ g, v = .slice (some ⟨g, 0, none⟩) xs.length xs.length ∧ ∀ j (hj : j < xs.length), w.cell? ⟨g, j, none⟩ = some xs[j] := h
def at_ (S : List Spec) (i : Nat) : Spec := S.getD i .any
def canD (u : Nat → Value) : Nat → List (Option Tmp) → Act → Act
  | _, [], a => a
  | k, d :: ds, a => canD u (k + 1) ds (a.put d (u k))
theorem canD_eq {l : List Oper} (u : Nat → Value) (a : Act) : ∀ (m k : Nat) (ds : List (Option Tmp)), ds = (l.map (·.dst)).drop k → k + m ≤ l.length → can l.toArray u (List.range' k m) a = canD u k (ds.take m) a := by
  intro m
  induction m generalizing a with
  | zero => intro k ds _ _; rfl
  | succ m ih =>
    intro k ds hd hk
    have hkl : k < l.length := by omega
    have e : ds = l[k].dst :: (l.map (·.dst)).drop (k + 1) := by
      rw [hd, List.drop_eq_getElem_cons (by simpa using hkl), List.getElem_map]
    rw [e, List.range'_succ, List.take_succ_cons]
    have e2 : dstOf l.toArray k = l[k].dst := by unfold dstOf; simp [hkl]
    show can l.toArray u (List.range' (k + 1) m) (a.put (dstOf l.toArray k) (u k)) = canD u (k + 1) _ (a.put l[k].dst (u k))
    rw [e2]
    exact ih _ _ _ rfl (by omega)
def Post (a0 : Act) (w : World) (s : Spec) (o : Oper) (e : Exit) (a' : Act) (w' : World) : Prop := e = .normal ∧ a'.defers = a0.defers ∧ Below w.heap.size w w' ∧ s.p (slot o a') w'
/-- A goal behind a wall: a walk's goal must not be reckoned while values are taken apart. -/
structure Goal (p : Prop) : Prop where
  out : p
/-- One goal for each operation, in the text's order. -/
def Steps (P : Program) (ops : Array Oper) (S : List Spec) (ds : List (Option Tmp)) (a0 : Act) (w0 : World) : Nat → List Oper → Prop
  | _, [] => True
  | i, o :: os => (∀ u w, Below w0.heap.size w0 w → (∀ j, (waits o).contains j = true → (at_ S j).p (u j) w) → Goal (wpList P ops (Post a0 w (at_ S i) o) [o] (canD u 0 (ds.take i) a0) w)) ∧ Steps P ops S ds a0 w0 (i + 1) os
theorem steps_at {l : List Oper} {S : List Spec} (n : Nat) : ∀ (os : List Oper), os = l.drop n → Steps P l.toArray S (l.map (·.dst)) a0 w0 n os → ∀ i o, n ≤ i → l[i]? = some o → Step P l.toArray (fun i => (at_ S i).p) a0 w0 i o := by
  intro os
  induction os generalizing n with
  | nil =>
    intro h _ i o hi ho
    have h1 := List.length_eq_zero_iff.2 h.symm
    rw [List.length_drop] at h1
    rw [List.getElem?_eq_none (by omega)] at ho
    cases ho
  | cons x os ih =>
    intro h hs i o hi ho
    have hn : n < l.length := by
      have h1 := congrArg List.length h
      rw [List.length_cons, List.length_drop] at h1
      omega
    rw [List.drop_eq_getElem_cons hn] at h
    injection h with hx ho2
    by_cases hin : i = n
    · subst hin
      rw [List.getElem?_eq_getElem hn] at ho
      obtain rfl := Option.some.inj ho
      subst hx
      intro u w hb hd
      have h1 := (hs.1 u w hb (fun j hj => hd j (by simpa using hj))).out
      rw [List.range_eq_range', canD_eq u a0 i 0 _ rfl (by omega), List.drop_zero]
      exact h1
    · exact ih (n + 1) ho2 hs.2 i o (by omega) ho
/-- **The region, by a list of what its values are.** -/
theorem region_of {l : List Oper} {id : Nat} (hm : P.follows .mixedOrders = true) (ds : List (Option Tmp)) (hds : l.map (·.dst) = ds) (hB : okB l.toArray a0.tmps.size = true) (S : List Spec) (steps : Steps P l.toArray S ds a0 w0 0 l)
    (fin : ∀ u w, Below w0.heap.size w0 w → (∀ i, i < l.length → (at_ S i).p (u i) w) → Q .normal (canD u 0 ds a0) w) : (Code.region id l.toArray true).wp P Q a0 w0 := by
  subst hds
  refine region (R := fun i => (at_ S i).p) hm hB (fun i => (at_ S i).mono) (fun i o ho => steps_at 0 l rfl steps i o (Nat.zero_le _) (by simpa using ho)) (fun u w hb hR => ?_)
  have h1 := fin u w hb (fun i hi => hR i (by simpa using hi))
  have h2 := canD_eq (l := l) u a0 l.length 0 _ rfl (by omega)
  rw [List.drop_zero, List.take_of_length_le (by simp)] at h2
  rw [List.range_eq_range']
  show Q .normal (can l.toArray u (List.range' 0 l.toArray.size) a0) w
  rw [List.size_toArray, h2]
  exact h1
end
end Rel
end Go.Proofs.Ytgfgafondiipoaa
