/- The plain mathematics of package target: paths without dots. -/
import Derived.Test.YtoanelobggledaaGreatDoorZM1
import Derived.Test.YtoanelobggledaaGreatDoorZM2
import Derived.Lib.Bytealg
import Derived.Lib.IndexBytes
import Derived.Lib.IndexMore
import Derived.Lib.ItoaNum
import Derived.Lib.Join
import Derived.Lib.SlTrimSet
import Derived.Lib.SlicesCompact
namespace Tg

theorem ahead_take (p : UInt8 → Bool) : ∀ l : L, ∀ c ∈ l.take (ahead p l), p c = false
  | [], c, h => by simp at h
  | a :: t, c, h => by
    rw [ahead] at h
    split at h
    · simp at h
    · rename_i ha
      rw [List.take_succ_cons, List.mem_cons] at h
      rcases h with rfl | h
      · simpa using ha
      · exact ahead_take p t c h
theorem ahead_all (p : UInt8 → Bool) (l : L) (h : ∀ c ∈ l, p c = false) : ahead p l = l.length := by
  have := ahead_app p l [] h
  simpa [ahead] using this
end Tg

namespace Tg
open Oct (lower low)

theorem dig_facts (c : UInt8) (h : Oct.dig 10 c = true) : c ≠ 93 ∧ c ≠ 58 ∧ c ≠ 47 ∧ c ≠ 63 := by
  have := Oct.all_octets (fun c => !Oct.dig 10 c || decide (c ≠ 93 ∧ c ≠ 58 ∧ c ≠ 47 ∧ c ≠ 63)) (by decide +kernel) c
  simpa [h] using this
theorem number_digits {t : L} (h : (Oct.number 10 65535 t).2 = 0) : t ≠ [] ∧ ∀ c ∈ t, Oct.dig 10 c = true := by
  unfold Oct.number at h
  split at h
  · cases h
  · rename_i h1
    refine ⟨fun e => h1 (.inl e), ?_⟩
    have : Oct.allOf (Oct.dig 10) t = true := by
      cases hb : Oct.allOf (Oct.dig 10) t
      · exact absurd (.inr hb) h1
      · rfl
    exact fun c hc => List.all_eq_true.1 this c hc
theorem port_cases {p : L} {k : Int} (hp : p = [] ∨ ∃ t, p = 58 :: t) (h : portOf p = some k) : p = [] ∨ ∃ t, p = 58 :: t ∧ ∀ c ∈ t, Oct.dig 10 c = true := by
  rcases hp with rfl | ⟨t, rfl⟩
  · exact .inl rfl
  · refine .inr ⟨t, rfl, ?_⟩
    have h' : portV t = some k := h
    unfold portV at h'
    split at h'
    · rename_i e; subst e; intro c hc; cases hc
    · split at h'
      · rename_i h2; exact (number_digits h2.1).2
      · cases h'
theorem cutP_at {h p : L} {k : Int} (hh : isHost h = true) (hp : p = [] ∨ ∃ t, p = 58 :: t) (hk : portOf p = some k) : cutP (h ++ p) = h.length := by
  have hp2 := port_cases hp hk
  have hn : ∀ c ∈ p, c ≠ 93 := by
    intro c hc
    rcases hp2 with rfl | ⟨t, rfl, ht⟩
    · cases hc
    · rcases List.mem_cons.1 hc with rfl | hc
      · decide
      · exact (dig_facts c (ht c hc)).1
  have ha : ahead colon p = 0 := by
    rcases hp with rfl | ⟨t, rfl⟩
    · rfl
    · exact ahead_hit colon 58 t rfl
  unfold cutP
  rcases host_cases hh with ⟨_, h2⟩ | ⟨i, rfl, _, h2⟩
  · have hc : closeAt (h ++ p) = 0 := by
      unfold closeAt
      rw [ahead_all close (h ++ p), if_neg (Nat.lt_irrefl _)]
      intro c hc
      rcases List.mem_append.1 hc with hc | hc
      · simpa [close] using (host_facts c (h2 c hc)).1
      · simpa [close] using hn c hc
    rw [hc, List.drop_zero, ahead_app colon h p (fun c hc => by simpa [colon] using (host_facts c (h2 c hc)).2.1), ha]
    simp
  · have e : (91 :: (i ++ [93])) ++ p = (91 :: i) ++ (93 :: p) := by simp
    have hc : closeAt ((91 :: (i ++ [93])) ++ p) = i.length + 2 := by
      unfold closeAt
      rw [e, ahead_app close (91 :: i) _ ?_, ahead_hit close 93 p rfl, if_pos (by simp)]
      · simp
      · intro c hc
        rcases List.mem_cons.1 hc with rfl | hc
        · decide
        · simpa [close] using (num_facts c (h2 c hc)).1
    have hd : ((91 :: (i ++ [93])) ++ p).drop (i.length + 2) = p := by
      rw [show i.length + 2 = (91 :: (i ++ [93])).length by simp, List.drop_left]
    rw [hc, hd, ha]; simp
theorem cutP_drop (l : L) : l.drop (cutP l) = [] ∨ ∃ t, l.drop (cutP l) = 58 :: t := by
  unfold cutP
  rw [← List.drop_drop]
  rcases ahead_drop colon (l.drop (closeAt l)) with h | ⟨c, t, h, hc⟩
  · exact .inl h
  · obtain rfl : c = 58 := by simpa [colon] using hc
    exact .inr ⟨t, h⟩
def RCut (l : L) (n : Nat) : Prop :=
  (∃ t, n ≤ l.length ∧ l.drop n = 58 :: t ∧ ∀ c ∈ t, c ≠ 58 ∧ c ≠ 93) ∨ (n = l.length ∧ ((∀ c ∈ l, c ≠ 58 ∧ c ≠ 93) ∨ ∃ a t, l = a ++ 93 :: t ∧ ∀ c ∈ t, c ≠ 58 ∧ c ≠ 93))
theorem RCut.drop {l : L} {n : Nat} (h : RCut l n) : n ≤ l.length ∧ (l.drop n = [] ∨ ∃ t, l.drop n = 58 :: t) := by
  rcases h with ⟨t, h1, h2, _⟩ | ⟨rfl, _⟩
  · exact ⟨h1, .inr ⟨t, h2⟩⟩
  · exact ⟨Nat.le_refl _, .inl (by simp)⟩
theorem last_mem {a b c d : L} {x : UInt8} (h : a ++ b = c ++ x :: d) (hl : a.length ≤ c.length) : x ∈ b := by
  have e : b = (c ++ x :: d).drop a.length := by rw [← h, List.drop_left]
  rw [e, List.drop_append_of_le_length hl]
  simp
theorem cutR_at {h p : L} {k : Int} {n : Nat} (hh : isHost h = true) (hp : p = [] ∨ ∃ t, p = 58 :: t) (hk : portOf p = some k) (hr : RCut (h ++ p) n) : n = h.length := by
  have hp2 := port_cases hp hk
  rcases hp2 with rfl | ⟨t, rfl, ht⟩
  · rw [List.append_nil] at hr
    rcases hr with ⟨t, h1, h2, h3⟩ | ⟨h1, _⟩
    · exfalso
      rcases host_cases hh with ⟨_, h4⟩ | ⟨i, rfl, _, h4⟩
      · have : (58 : UInt8) ∈ h := List.mem_of_mem_drop (i := n) (by rw [h2]; exact List.mem_cons_self)
        exact (host_facts 58 (h4 58 this)).2.1 rfl
      · have hl : ((91 : UInt8) :: (i ++ [93])).getLast? = some 93 := by rw [← List.cons_append]; exact List.getLast?_concat
        have h5 : ((91 :: (i ++ [93])).drop n).getLast? = some 93 := by
          rw [List.getLast?_drop, if_neg (by have := congrArg List.length h2; simp at this; simp; omega)]; exact hl
        rw [h2] at h5
        have h6 : (93 : UInt8) ∈ 58 :: t := List.mem_of_getLast? h5
        rcases List.mem_cons.1 h6 with h6 | h6
        · cases h6
        · exact (h3 93 h6).2 rfl
    · exact h1
  · have hd : ∀ c ∈ t, c ≠ 58 ∧ c ≠ 93 := fun c hc => ⟨(dig_facts c (ht c hc)).2.1, (dig_facts c (ht c hc)).1⟩
    rcases hr with ⟨t2, h1, h2, h3⟩ | ⟨h1, h2⟩
    · have e : h ++ 58 :: t = (h ++ 58 :: t).take n ++ 58 :: t2 := by rw [← h2, List.take_append_drop]
      have hl : ((h ++ 58 :: t).take n).length = n := by rw [List.length_take]; omega
      rcases Nat.lt_trichotomy n h.length with hn | hn | hn
      · exfalso
        have e2 : (h ++ 58 :: t).take n ++ [58] ++ t2 = h ++ 58 :: t := by rw [List.append_assoc]; exact e.symm
        exact (h3 58 (last_mem e2 (by simp; omega))).1 rfl
      · exact hn
      · exfalso
        have e2 : h ++ [58] ++ t = (h ++ 58 :: t).take n ++ 58 :: t2 := by rw [List.append_assoc]; exact e
        exact (hd 58 (last_mem e2 (by simp; omega))).1 rfl
    · exfalso
      rcases h2 with h2 | ⟨a, t2, h2, h3⟩
      · exact (h2 58 (by simp)).1 rfl
      · by_cases hn : h.length < a.length
        · have e2 : h ++ [58] ++ t = a ++ 93 :: t2 := by rw [List.append_assoc]; exact h2
          exact (hd 93 (last_mem e2 (by simp; omega))).2 rfl
        · by_cases hn2 : a.length = h.length
          · have := List.append_inj h2 hn2.symm
            have h4 := this.2
            simp at h4
          · have e2 : a ++ [93] ++ t2 = h ++ 58 :: t := by rw [List.append_assoc]; exact h2.symm
            exact (h3 58 (last_mem e2 (by simp; omega))).1 rfl
theorem site_ref {l : L} {n : Nat} (hr : RCut l n) : siteAt l n = site l := by
  have hd := hr.drop
  cases h1 : siteAt l n with
  | some x =>
    have h2 := siteAt_some h1
    have h3 := cutP_at h2.1 hd.2 h2.2.1
    rw [List.take_append_drop, List.length_take, Nat.min_eq_left hd.1] at h3
    rw [site, h3, h1]
  | none =>
    cases h4 : site l with
    | none => rfl
    | some x =>
      have h2 := siteAt_some h4
      have hr2 : RCut (l.take (cutP l) ++ l.drop (cutP l)) n := by rw [List.take_append_drop]; exact hr
      have h3 := cutR_at h2.1 (cutP_drop l) h2.2.1 hr2
      rw [List.length_take, Nat.min_eq_left (cutP_le l)] at h3
      rw [h3] at h1
      rw [site, h1] at h4
      cases h4
end Tg

namespace Rl
open Fld (get F without withoutAll drop)

theorem namesB_of {M : List F} {l : T} (h : namesB M l = true) : ∃ f ∈ M, Oct.lower f.1 = l := by
  unfold namesB at h; rw [List.contains_iff_mem] at h
  obtain ⟨n, hn, e⟩ := List.mem_map.1 h
  obtain ⟨f, hf, e2⟩ := List.mem_map.1 hn
  exact ⟨f, hf, by rw [e2]; exact e⟩
def fourB (l : T) : Bool := (four.map Oct.lower).contains l
theorem more_drop (fs : List F) : more fs = drop (kept fs) fourB := by unfold more; rw [Fld.withoutAll_drop]; rfl
theorem update_self {k : List F} (hk : kept k = k) : update k k = drop k (fun l => !fourB l) ++ drop k fourB := by
  rw [update_drop, more_drop, hk]
  congr 1
  unfold Fld.drop
  apply List.filter_congr
  intro f hf
  have : namesB (List.filter (fun f => !fourB (Oct.lower f.1)) k) (Oct.lower f.1) = !fourB (Oct.lower f.1) := by
    cases h : fourB (Oct.lower f.1) with
    | true =>
      cases h2 : namesB (List.filter (fun f => !fourB (Oct.lower f.1)) k) (Oct.lower f.1) with
      | false => rfl
      | true =>
        obtain ⟨g, hg, e⟩ := namesB_of h2
        have := (List.mem_filter.1 hg).2
        rw [e, h] at this; cases this
    | false => exact namesB_mem (List.mem_filter.2 ⟨hf, by rw [h]; rfl⟩)
  show (!namesB _ _) = _
  unfold Fld.drop at *
  rw [this]
theorem split_length (p : F → Bool) : ∀ k : List F, (k.filter p).length + (k.filter fun f => !p f).length = k.length
  | [] => rfl
  | f :: r => by
    have ih := split_length p r
    cases h : p f <;> simp [h] <;> omega
theorem update_self_length {k : List F} (hk : kept k = k) : (update k k).length = k.length := by
  rw [update_self hk, List.length_append]
  unfold Fld.drop
  have := split_length (fun f : F => fourB (Oct.lower f.1)) k
  simp only [Bool.not_not]
  omega
theorem update_self_get {k : List F} (hk : kept k = k) (n : T) : get (update k k) n = get k n := by
  rw [update_self hk, Fld.get_append, get_drop, get_drop]
  cases h : fourB (Oct.lower n) <;> simp
theorem confirms_self (k : List F) : confirms k 304 k = true := by
  unfold confirms
  rw [if_neg (by decide)]
  cases h : one k kETag with
  | some b => show like k b = true; unfold like; rw [h]; simp
  | none =>
    cases h2 : one k Fr.kMod with
    | none => rfl
    | some b => simp
theorem unchanged_self (D : T → Option Int) (k : List F) (hc : condition D k ≠ []) (ht : ∀ t, one k kETag = some t → Oct.splitAll [t] = [t]) : unchanged D mGet (condition D k) 200 k = true := by
  unfold unchanged
  rw [if_neg (by decide)]
  cases h : one k kETag with
  | some t =>
    have e : condition D k = (nINM, t) :: (if (Fr.moment D k Fr.kMod).isSome then [(nIMS, (one k Fr.kMod).getD [])] else []) := by unfold condition; rw [h]; rfl
    have g : get (condition D k) kINM = [t] := by
      rw [e, get_cons, if_pos (show Oct.lower nINM = Oct.lower kINM by decide)]
      split
      · rw [get_cons, if_neg (show ¬ Oct.lower nIMS = Oct.lower kINM by decide), get_nil]; rfl
      · rw [get_nil]; rfl
    rw [if_pos (by unfold has; rw [g]; rfl), g, ht t h]
    simp [like, h]
  | none =>
    have e : condition D k = if (Fr.moment D k Fr.kMod).isSome then [(nIMS, (one k Fr.kMod).getD [])] else [] := by unfold condition; rw [h]; rfl
    by_cases hm : (Fr.moment D k Fr.kMod).isSome = true
    · rw [if_pos hm] at e
      obtain ⟨v, a, hg, ho, hD, hM⟩ := moment_of hm
      rw [ho] at e
      have g : get (condition D k) kINM = [] := by rw [e, get_cons, if_neg (show ¬ Oct.lower nIMS = Oct.lower kINM by decide), get_nil]; rfl
      have g2 : get (condition D k) kIMS = [v] := by rw [e, get_cons, if_pos (show Oct.lower nIMS = Oct.lower kIMS by decide), get_nil]; rfl
      rw [if_neg (by unfold has; rw [g]; decide), Fr.moment, g2]
      show (match D v, Fr.moment D k Fr.kMod with | some a, some b => decide (b ≤ a) | _, _ => false) = true
      rw [hD, hM]; simp
    · rw [if_neg hm] at e; exact absurd e hc
end Rl

namespace Vr
open Oct (token lower low splitAll splitText emit trim scan scan1 nq blank dropL dropR tch)

def wrap (p : T) : T := [32, 9] ++ p ++ [32, 44]
end Vr

