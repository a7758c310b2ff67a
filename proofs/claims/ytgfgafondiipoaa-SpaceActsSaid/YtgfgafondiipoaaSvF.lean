/- The program's map in memory: length, and the runs as an iterator. -/
import Derived.Test.YtgfgafondiipoaaSvE
import Derived.Test.YtgfgafondiipoaaShelf
import Derived.Test.YtgfgafondiipoaaRangeM
import Derived.Shelf.Abstract
import Derived.Shelf.RegionOpen
import Derived.OwnWalkIn
import Derived.TacticsInMore
import Derived.LoopNIn
import Derived.LoopIn
namespace Go.Proofs.Ytgfgafondiipoaa
open Go.RowKit Go.Shelf

/-- How many sectors are free, one behind the other, from at on. -/
def fl (m : Sp.M) (at_ : Nat) : Nat := ((m.drop at_).takeWhile Sp.isFree).length
theorem fl_le (m : Sp.M) (at_ : Nat) : fl m at_ ≤ m.length - at_ := by
  unfold fl
  have := (List.takeWhile_sublist (l := m.drop at_) Sp.isFree).length_le
  rw [List.length_drop] at this; exact this
theorem runs_step (m : Sp.M) (at_ : Nat) : Sp.runs at_ (m.drop at_) = (if fl m at_ = 0 then [] else [(at_, fl m at_)]) ++ Sp.runs (at_ + fl m at_ + 1) (m.drop (at_ + fl m at_ + 1)) := by
  have e : m.drop at_ = (m.drop at_).takeWhile Sp.isFree ++ (m.drop at_).dropWhile Sp.isFree := List.takeWhile_append_dropWhile.symm
  have hd : (m.drop at_).dropWhile Sp.isFree = m.drop (at_ + fl m at_) := by
    have h2 : ((m.drop at_).takeWhile Sp.isFree ++ (m.drop at_).dropWhile Sp.isFree).drop (fl m at_) = (m.drop at_).dropWhile Sp.isFree := List.drop_left' rfl
    rw [← h2, ← e, List.drop_drop]
  have hfree : ∀ c ∈ (m.drop at_).takeWhile Sp.isFree, c.1 = 0 := fun c hc => by
    have := List.all_takeWhile (p := Sp.isFree) (l := m.drop at_)
    rw [List.all_eq_true] at this
    simpa [Sp.isFree] using this c hc
  have hhead : ∀ c t, (m.drop at_).dropWhile Sp.isFree = c :: t → c.1 ≠ 0 := fun c t he h0 => by
    have h3 := List.head?_dropWhile_not Sp.isFree (m.drop at_)
    rw [he] at h3
    simp [Sp.isFree, h0] at h3
  have tail : Sp.runs (at_ + fl m at_) ((m.drop at_).dropWhile Sp.isFree) = Sp.runs (at_ + fl m at_ + 1) (m.drop (at_ + fl m at_ + 1)) := by
    cases hr : (m.drop at_).dropWhile Sp.isFree with
    | nil =>
      have : m.length ≤ at_ + fl m at_ := by rw [hd] at hr; exact List.drop_eq_nil_iff.1 hr
      rw [List.drop_eq_nil_of_le (by omega)]; rfl
    | cons c t =>
      rw [Sp.skip_runs _ c t (hhead c t hr)]
      have h4 : m.drop (at_ + fl m at_ + 1) = t := by
        rw [hd] at hr
        rw [← List.drop_drop, hr]; rfl
      rw [h4]
  by_cases h0 : fl m at_ = 0
  · rw [if_pos h0, List.nil_append, ← tail]
    have : (m.drop at_).takeWhile Sp.isFree = [] := List.length_eq_zero_iff.1 h0
    rw [this, List.nil_append] at e
    rw [← e, h0, Nat.add_zero]
  · rw [if_neg h0, ← tail]
    have hne : (m.drop at_).takeWhile Sp.isFree ≠ [] := fun h => h0 (by unfold fl; rw [h]; rfl)
    have := Sp.frees_runs _ ((m.drop at_).dropWhile Sp.isFree) at_ hfree hhead hne
    rw [← e] at this
    rw [this]; rfl
/-- The library's word for it. -/
theorem idx_fl : ∀ (l : Sp.M) (i : Nat), Lib.idxByFrom (fun (_ : Sp.Cell) y => decide (y.1 ≠ 0)) default l i = if (l.takeWhile Sp.isFree).length = l.length then -1 else ((i + (l.takeWhile Sp.isFree).length : Nat) : Int)
  | [], i => by simp [Lib.idxByFrom]
  | c :: t, i => by
    unfold Lib.idxByFrom
    by_cases h : c.1 = 0
    · have hf : Sp.isFree c = true := by simp [Sp.isFree, h]
      have hn : decide (c.1 ≠ 0) = false := by simp [h]
      rw [List.takeWhile_cons_of_pos hf]
      simp only [hn, Bool.false_eq_true, if_false, List.length_cons, idx_fl t (i + 1), Nat.add_right_cancel_iff]
      split
      · rfl
      · omega
    · have hf : ¬ Sp.isFree c = true := by simp [Sp.isFree, h]
      have hn : decide (c.1 ≠ 0) = true := by simp [h]
      rw [List.takeWhile_cons_of_neg hf]
      simp [hn]
set_option maxHeartbeats 1600000 in
set_option maxRecDepth 100000 in
theorem length_w (w : World) (q b : Nat) (m : Sp.M) (at_ : Nat) (h : PD w q b m) (ha : at_ < m.length) :
    Calls Try.prog 42 #[.pointer (some ⟨q, 0, none⟩), .int .i64 (at_ : Int)] w fun e w' => e = .returned (.int .i64 (fl m at_ : Int)) ∧ Below w.heap.size w w' := by
  have eg : ∀ args w, (callFunc 51 args).run Try.prog w = .ok (.enter 51 args) w := enters_of Try.func51 (by kernel_rfl) rfl
  have hp : PredBelow Try.prog 51 #[] (fun c => .agg (sc c).toArray) (fun c : Sp.Cell => decide (c.1 ≠ 0)) w := fun W c hb => (notfree_c (decide (c.1 ≠ 0)) (decide (c.1 = 2)) c.2 W).mono fun e w' he => ⟨he.1, bt5 hb he.2⟩
  have hlen := h.len
  have hcon := AnyQ.slices_IndexFunc Try.idxSec 3 Try.isAgg62 Try.sizeOf62 sc (fun _ => rfl) (fun c => decide (c.1 ≠ 0)) 51 #[] eg b (at_ * 3) (m.length - at_) (m.length - at_) (m.drop at_) w hp (by rw [List.length_drop]; exact Nat.le_refl _) (by omega) (lt_of_block h.st) (fun j hj i v hi => by
    rw [List.length_drop] at hj
    have h1 := h.s (at_ + j) (by omega)
    have h2 : (m.drop at_)[j]! = m[at_ + j] := by
      rw [getElem!_pos _ _ (by rw [List.length_drop]; omega), List.getElem_drop]
    rw [h2] at hi
    rw [show (at_ + j) * 3 = at_ * 3 + j * 3 from by omega] at h1
    match i, hi with
    | 0, hi => simp [sc] at hi; rw [← hi]; simpa using h1.1
    | 1, hi => simp [sc] at hi; rw [← hi]; exact h1.2.1
    | 2, hi => simp [sc] at hi; rw [← hi]; exact h1.2.2
    | i + 3, hi => simp [sc] at hi)
  change Calls Try.prog 50 _ _ _ at hcon
  rw [List.take_of_length_le (by rw [List.length_drop]; exact Nat.le_refl _)] at hcon
  unfold Lib.idxBy at hcon
  rw [idx_fl, Nat.zero_add] at hcon
  have hfl := fl_le m at_
  change Calls Try.prog 50 _ _ (fun e w' => e = .returned (.int .i64 (if fl m at_ = (m.drop at_).length then -1 else ((fl m at_ : Nat) : Int))) ∧ _) at hcon
  rw [List.length_drop] at hcon
  have c0 := h.c0
  obtain ⟨n, hn⟩ : ∃ n, n = m.length := ⟨_, rfl⟩
  obtain ⟨r, hr⟩ : ∃ r, r = fl m at_ := ⟨_, rfl⟩
  rw [← hn] at hlen ha c0 hcon hfl
  rw [← hr] at hcon hfl ⊢
  have hcap : ¬ n = at_ := by omega
  clear h hn hr hp
  by_cases hall : r = n - at_
  · rw [if_pos hall] at hcon
    subst hall
    go_enter Try.func42, Try.ntmps42
    go_wp2_with fail
    refine hcon.mono ?_
    rintro e w2 ⟨rfl, hb2⟩
    clear hcon c0
    go_wp2_with fail
    go_ret
    exact ⟨rfl, hb2⟩
  · rw [if_neg hall] at hcon
    have hri : ¬ (r : Int) < 0 := by omega
    go_enter Try.func42, Try.ntmps42
    go_wp2_with fail
    refine hcon.mono ?_
    rintro e w2 ⟨rfl, hb2⟩
    clear hcon c0
    go_wp2_with fail
    go_ret
    exact ⟨rfl, hb2⟩
end Go.Proofs.Ytgfgafondiipoaa
