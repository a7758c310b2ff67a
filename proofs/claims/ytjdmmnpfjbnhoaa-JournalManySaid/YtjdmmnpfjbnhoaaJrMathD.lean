/- The plain mathematics of journals: a transaction more; all settled. -/
import Derived.Test.YtjdmmnpfjbnhoaaJrMathC
namespace Jr
open Dv

/-- Where so many sectors do, ahead of a settling. -/
def fits (j : J) (size : Nat) : Option Nat :=
  if j.wrapped = true then (if j.at_ + size ≤ j.base then some j.at_ else none)
  else if j.at_ + size ≤ j.n then some j.at_
  else if j.cnt = 0 ∨ 2 + size ≤ j.base then some 2 else none
/-- Behind a transaction that was done, on sector a. -/
def added (j : J) (a : Nat) (puts : List Put) : J :=
  { j with base := if j.cnt = 0 then a else j.base, wrapped := if j.cnt ≠ 0 ∧ a < j.at_ then true else j.wrapped, at_ := a + (puts.length + 2), owed := j.owed ++ puts, next := j.next + 1, cnt := j.cnt + 1 }
section
variable {s s' : List Sec} {j : J} {m first at0 : Nat} {ts : List Tr}
theorem Sits.room (h : Sits s j m first at0 ts) {a size : Nat} (hf : fits j size = some a) (hfull : 2 + size ≤ j.n) :
    2 ≤ a ∧ a + size ≤ j.n ∧ (a = j.at_ ∨ a = 2) ∧ (∀ t ∈ ts, t.1 + t.2.length + 2 ≤ a ∨ a + size ≤ t.1) := by
  have hc := h.cnt
  unfold fits at hf
  split at hf
  · rename_i hw
    obtain ⟨h1, h2, h3⟩ := h.round hw
    split at hf
    · rename_i h9
      cases hf
      refine ⟨h.e2, by have := h.bN; omega, .inl rfl, fun t ht => ?_⟩
      rcases h3 t ht with h4 | h4
      · exact .inr (by omega)
      · exact .inl h4
    · cases hf
  · rename_i hw
    have hw' : j.wrapped = false := by simpa using hw
    split at hf
    · rename_i h9
      cases hf
      exact ⟨h.e2, h9, .inl rfl, fun t ht => .inl (h.flat hw' t ht).2⟩
    · split at hf
      · rename_i h9
        cases hf
        refine ⟨Nat.le_refl _, hfull, .inr rfl, fun t ht => ?_⟩
        rcases h9 with h9 | h9
        · have : ts = [] := List.eq_nil_of_length_eq_zero (by omega)
          rw [this] at ht; cases ht
        · exact .inr (by have := (h.flat hw' t ht).1; omega)
      · cases hf
theorem record_zero {n : Int} {puts : List Put} (r : Nat) (hr : r < puts.length + 2) (h : ((record n puts).getD r []).getD 0 0 = 72) : r = 0 := by
  by_cases h0 : r = 0
  · exact h0
  · exfalso
    by_cases hl : r = puts.length + 1
    · rw [hl, record_at_foot, foot_zero] at h
      exact absurd h (by decide)
    · have h1 := record_at_put n puts (r - 1) (by omega)
      rw [show 1 + (r - 1) = r by omega] at h1
      rw [h1, content_zero] at h
      exact absurd h (by decide)
theorem Sits.commit (h : Sits s j m first at0 ts) {a : Nat} {puts : List Put} (hf : Fit puts s.length j.from_ j.n) (hfull : puts.length + 4 ≤ j.n) (hfit : fits j (puts.length + 2) = some a) (hl : s'.length = s.length)
    (hst : Stands (pl s' j.from_ j.n) a (record j.next puts)) (ho : ∀ i, ¬ (j.from_ + a ≤ i ∧ i < j.from_ + a + (puts.length + 2)) → s'.getD i [] = s.getD i []) (hnn : first + ts.length + 1 < 1000000) :
    Sits s' (added j a puts) m first at0 (ts ++ [(a, puts)]) := by
  obtain ⟨r2, rN, ra, rt⟩ := h.room hfit (by omega)
  have hc := h.cnt
  have hnx := h.next
  have hsame : ∀ i, i < j.n → ¬ (a ≤ i ∧ i < a + (puts.length + 2)) → s'.getD (j.from_ + i) [] = s.getD (j.from_ + i) [] := fun i _ hi => ho _ (by omega)
  have hlen : (ts ++ [(a, puts)]).length = ts.length + 1 := by rw [List.length_append]; rfl
  refine { n5 := h.n5, fit := by rw [hl]; exact h.fit, max := by rw [hl]; exact h.max, hm := h.hm, m1 := h.m1, mm := h.mm, mrk := ?_, a2 := h.a2, aN := h.aN, other := ?_, next := ?_, nn := by rw [hlen]; omega, rec_ := ?_, heads := ?_, chain := ?_, e2 := ?_, eN := rN, b2 := ?_, bN := ?_, flat := ?_, round := ?_, owed := ?_, cnt := ?_ }
  · show s'.getD (j.from_ + m % 2) [] = _
    rw [hsame (m % 2) (by have := h.n5; omega) (by omega)]
    exact h.mrk
  · show ∀ b f a, readMark (s'.getD (j.from_ + (m + 1) % 2) []) ((m + 1) % 2) j.n = some (b, f, a) → b < m
    rw [hsame ((m + 1) % 2) (by have := h.n5; omega) (by omega)]
    exact h.other
  · show j.next + 1 = _
    rw [hnx, hlen]; omega
  · intro k hk
    show Stands (pl s' j.from_ j.n) _ _ ∧ 2 ≤ _ ∧ _ ≤ j.n ∧ Fit _ s'.length j.from_ j.n
    rw [hl]
    by_cases hkl : k < ts.length
    · rw [List.getElem_append_left hkl]
      obtain ⟨q1, q2, q3, q4⟩ := h.rec_ k hkl
      refine ⟨fun i hi => ?_, q2, q3, q4⟩
      rw [record_length] at hi
      rw [pl_at _ _ _ _ (by omega), hsame _ (by omega) (by have := rt ts[k] (List.getElem_mem hkl); omega), ← pl_at s j.from_ j.n _ (by omega)]
      exact q1 i (by rw [record_length]; exact hi)
    · have hke : k = ts.length := by omega
      subst hke
      rw [List.getElem_append_right (Nat.le_refl _)]
      simp only [Nat.sub_self, List.getElem_singleton]
      rw [hnx] at hst
      exact ⟨hst, r2, by omega, hf⟩
  · intro i hi2 hiN h72
    change i < j.n at hiN
    change (s'.getD (j.from_ + i) []).getD 0 0 = 72 at h72
    show ∃ u : Nat, num (((s'.getD (j.from_ + i) []).drop 1).take 8) = _ ∧ _
    by_cases hin : a ≤ i ∧ i < a + (puts.length + 2)
    · have hs := hst (i - a) (by rw [record_length]; omega)
      rw [show a + (i - a) = i by omega, pl_at _ _ _ _ hiN] at hs
      rw [hs] at h72 ⊢
      have h0 := record_zero (i - a) (by omega) h72
      rw [h0, record_at_head, hnx, head_says _ _ (by omega)]
      refine ⟨_, rfl, .inr ⟨ts.length, by rw [hlen]; omega, rfl, ?_⟩⟩
      rw [List.getElem_append_right (Nat.le_refl _)]
      simp only [Nat.sub_self, List.getElem_singleton]
      omega
    · rw [hsame i hiN hin] at h72 ⊢
      obtain ⟨u, hu, hc9⟩ := h.heads i hi2 hiN h72
      refine ⟨u, hu, ?_⟩
      rcases hc9 with h9 | ⟨k, hk, h8, h7⟩
      · exact .inl h9
      · exact .inr ⟨k, by rw [hlen]; omega, h8, by rw [List.getElem_append_left hk]; exact h7⟩
  · exact chain_snoc _ _ _ (a, puts) h.chain ra
  · show 2 ≤ a + (puts.length + 2)
    omega
  · show 2 ≤ if j.cnt = 0 then a else j.base
    split
    · exact r2
    · exact h.b2
  · show (if j.cnt = 0 then a else j.base) ≤ j.n
    split
    · omega
    · exact h.bN
  · intro hw t ht
    change (if j.cnt ≠ 0 ∧ a < j.at_ then true else j.wrapped) = false at hw
    show (if j.cnt = 0 then a else j.base) ≤ t.1 ∧ _ ≤ a + (puts.length + 2)
    split at hw
    · cases hw
    · rename_i hn
      rcases List.mem_append.1 ht with ht | ht
      · have hne : ts.length ≠ 0 := fun e => by rw [List.eq_nil_of_length_eq_zero e] at ht; cases ht
        rw [if_neg (by omega)]
        obtain ⟨h1, h2⟩ := h.flat hw t ht
        exact ⟨h1, by omega⟩
      · rw [List.mem_singleton.1 ht]
        refine ⟨?_, by show a + puts.length + 2 ≤ _; omega⟩
        show _ ≤ a
        by_cases h0 : j.cnt = 0
        · rw [if_pos h0]; exact Nat.le_refl _
        · rw [if_neg h0]
          obtain ⟨t9, ht9, he⟩ := chain_at _ _ _ h.chain (fun e => h0 (by rw [hc, e]; rfl))
          have := (h.flat hw t9 ht9).1
          omega
  · intro hw
    change (if j.cnt ≠ 0 ∧ a < j.at_ then true else j.wrapped) = true at hw
    show _ ∧ a + (puts.length + 2) ≤ (if j.cnt = 0 then a else j.base) ∧ ∀ t ∈ ts ++ [(a, puts)], (if j.cnt = 0 then a else j.base) ≤ t.1 ∨ t.1 + t.2.length + 2 ≤ a + (puts.length + 2)
    have hlast : ∀ B, B ≤ a ∨ a + puts.length + 2 ≤ a + (puts.length + 2) := fun B => .inr (by omega)
    by_cases hw0 : j.wrapped = true
    · obtain ⟨h1, h2, h3⟩ := h.round hw0
      have hne : j.cnt ≠ 0 := fun e => h1 (List.eq_nil_of_length_eq_zero (by omega))
      rw [if_neg hne]
      have hab : a + (puts.length + 2) ≤ j.base := by
        unfold fits at hfit
        rw [if_pos hw0] at hfit
        split at hfit
        · cases hfit; assumption
        · cases hfit
      refine ⟨by simp, hab, fun t ht => ?_⟩
      have haa : a = j.at_ := by
        unfold fits at hfit
        rw [if_pos hw0] at hfit
        split at hfit
        · cases hfit; rfl
        · cases hfit
      rcases List.mem_append.1 ht with ht | ht
      · rcases h3 t ht with h4 | h4
        · exact .inl h4
        · exact .inr (by omega)
      · rw [List.mem_singleton.1 ht]; exact hlast _
    · have hw' : j.wrapped = false := by simpa using hw0
      rw [hw'] at hw
      split at hw
      · rename_i hn
        rw [if_neg hn.1]
        have hab : a + (puts.length + 2) ≤ j.base := by
          unfold fits at hfit
          rw [if_neg hw0] at hfit
          split at hfit
          · cases hfit; omega
          · split at hfit
            · rename_i h9
              cases hfit
              rcases h9 with h9 | h9
              · exact absurd h9 hn.1
              · exact h9
            · cases hfit
        refine ⟨by simp, hab, fun t ht => ?_⟩
        rcases List.mem_append.1 ht with ht | ht
        · exact .inl (h.flat hw' t ht).1
        · rw [List.mem_singleton.1 ht]; exact hlast _
      · cases hw
  · show j.owed ++ puts = _
    rw [List.flatMap_append, h.owed]
    simp
  · show j.cnt + 1 = _
    rw [hlen, hc]

/-- Behind a settling. -/
def settled (j : J) : J := { j with mark := j.mark + 1, base := j.at_, wrapped := false, owed := [], cnt := 0 }
theorem Sits.settle (h : Sits s j m first at0 ts) (hl : s'.length = s.length) (hmk : s'.getD (j.from_ + (m + 1) % 2) [] = mark ((m + 1 : Nat) : Int) ((first + ts.length : Nat) : Int) j.at_) (hold : s'.getD (j.from_ + m % 2) [] = s.getD (j.from_ + m % 2) [])
    (ho : ∀ i, 2 ≤ i → i < j.n → s'.getD (j.from_ + i) [] = s.getD (j.from_ + i) []) (hm : m + 1 < 1000000) : Sits s' (settled j) (m + 1) (first + ts.length) j.at_ [] := by
  have h32 : j.at_ < 4294967296 := by have := h.eN; have := h.fit; have := h.max; omega
  refine { n5 := h.n5, fit := by rw [hl]; exact h.fit, max := by rw [hl]; exact h.max, hm := ?_, m1 := by omega, mm := hm, mrk := hmk, a2 := h.e2, aN := h.eN, other := ?_, next := by show j.next = _; rw [h.next]; rfl, nn := by simpa using h.nn, rec_ := fun k hk => absurd hk (Nat.not_lt_zero _), heads := ?_, chain := rfl, e2 := h.e2, eN := h.eN, b2 := h.e2, bN := h.eN, flat := fun _ t ht => (by cases ht), round := fun e => (by cases e), owed := rfl, cnt := rfl }
  · show j.mark + 1 = _
    rw [h.hm]; omega
  · show ∀ b f a, readMark (s'.getD (j.from_ + (m + 1 + 1) % 2) []) ((m + 1 + 1) % 2) j.n = some (b, f, a) → b < ((m + 1 : Nat) : Int)
    rw [show (m + 1 + 1) % 2 = m % 2 by omega, hold, h.mrk]
    have h3 : at0 < 4294967296 := by have := h.aN; have := h.fit; have := h.max; omega
    intro b f a hb
    rw [readMark_mark h.m1 (by have := h.mm; omega) (by have := h.nn; omega) h.a2 h.aN h3] at hb
    cases hb
    omega
  · intro i h2 hN h72
    change i < j.n at hN
    change (s'.getD (j.from_ + i) []).getD 0 0 = 72 at h72
    show ∃ u : Nat, num (((s'.getD (j.from_ + i) []).drop 1).take 8) = _ ∧ _
    rw [ho i h2 hN] at h72 ⊢
    obtain ⟨u, hu, hc⟩ := h.heads i h2 hN h72
    refine ⟨u, hu, .inl ?_⟩
    rcases hc with h9 | ⟨k, hk, h8, _⟩
    · omega
    · omega
/-- Where nothing was written but noughts, and the first mark. -/
theorem sits_first (from_ n : Nat) (hn : 5 ≤ n) (hf : from_ + n ≤ s.length) (hmax : s.length ≤ 65536) (hmk : s.getD (from_ + 1) [] = mark 1 1 2) (h0 : ∀ i, i < n → i ≠ 1 → s.getD (from_ + i) [] = List.replicate 64 0) :
    Sits s ⟨from_, n, 1, 1, 2, 2, false, [], 0⟩ 1 1 2 [] := by
  refine { n5 := hn, fit := hf, max := hmax, hm := rfl, m1 := Nat.le_refl _, mm := by decide, mrk := hmk, a2 := Nat.le_refl _, aN := by show 2 ≤ n; omega, other := ?_, next := rfl, nn := by decide, rec_ := fun k hk => absurd hk (Nat.not_lt_zero _), heads := ?_, chain := rfl, e2 := Nat.le_refl _, eN := by show 2 ≤ n; omega, b2 := Nat.le_refl _, bN := by show 2 ≤ n; omega, flat := fun _ t ht => (by cases ht), round := fun e => (by cases e), owed := rfl, cnt := rfl }
  · show ∀ b f a, readMark (s.getD (from_ + (1 + 1) % 2) []) ((1 + 1) % 2) n = some (b, f, a) → b < ((1 : Nat) : Int)
    rw [show (1 + 1) % 2 = 0 from rfl, h0 0 (by omega) (by decide)]
    intro b f a hb
    unfold readMark at hb
    rw [if_neg (fun x => x.2.1 (by decide))] at hb
    cases hb
  · intro i h2 hN h72
    change i < n at hN
    change (s.getD (from_ + i) []).getD 0 0 = 72 at h72
    rw [h0 i hN (by omega)] at h72
    exact absurd h72 (by decide)
end
end Jr
