/- The plain mathematics of package target: the document's own steps. -/
import Derived.Test.YtoanelobggledaaGreatDoorVM2
namespace Tg
open Oct (lower low)

theorem ahead_miss (p : UInt8 → Bool) (c : UInt8) (t : L) (h : p c = false) : ahead p (c :: t) = ahead p t + 1 := by rw [ahead, if_neg (by rw [h]; decide)]
theorem no47 (t : L) : ∀ s ∈ sp 47 t, ∀ c ∈ s, c ≠ 47 := fun s hs c hc => (sp_mem 47 t s hs c hc).1
structure Steps (R inn out : L) : Prop where
  st : ∃ ss kept : List L, inn = slashed ss ∧ out = slashed kept ∧ (∀ s ∈ ss, ∀ c ∈ s, c ≠ 47) ∧ (∀ s ∈ kept, ∀ c ∈ s, c ≠ 47) ∧ slashed (dots kept ss) = R
theorem Steps.start (t : L) : Steps (straight (47 :: t)) (47 :: t) [] :=
  ⟨⟨sp 47 t, [], (slashed_sp t).symm, rfl, no47 t, (fun s hs => by cases hs), rfl⟩⟩
theorem Steps.done {R out : L} (h : Steps R [] out) : out = R := by
  obtain ⟨ss, kept, h1, rfl, _, _, h5⟩ := h.st
  cases ss with
  | nil => exact h5
  | cons x xs => rw [slashed_cons] at h1; cases h1
theorem Steps.next {R inn out : L} (h : Steps R inn out) (hne : inn ≠ []) : ∃ x rest, inn = 47 :: x ++ rest ∧ (∀ c ∈ x, c ≠ 47) ∧ (rest = [] ∨ ∃ r, rest = 47 :: r) ∧
    (x ≠ [46] → x ≠ [46, 46] → Steps R rest (out ++ 47 :: x)) ∧
    (x = [46] → (rest = [] → Steps R rest (out ++ [47])) ∧ (rest ≠ [] → Steps R rest out)) ∧
    (x = [46, 46] → (out = [] ∧ (rest = [] → Steps R rest [47]) ∧ (rest ≠ [] → Steps R rest [])) ∨ ∃ o z, out = o ++ 47 :: z ∧ (∀ c ∈ z, c ≠ 47) ∧ (rest = [] → Steps R rest (o ++ [47])) ∧ (rest ≠ [] → Steps R rest o)) := by
  obtain ⟨ss, kept, rfl, rfl, h3, h4, h5⟩ := h.st
  cases ss with
  | nil => exact absurd slashed_nil hne
  | cons x ss =>
    have h3' : ∀ s ∈ ss, ∀ c ∈ s, c ≠ 47 := fun s hs => h3 s (by simp [hs])
    have hrest : (slashed ss = [] ↔ ss = []) := by
      cases ss with
      | nil => simp [slashed_nil]
      | cons y ys => rw [slashed_cons]; simp
    have hnil : ∀ c ∈ ([] : L), c ≠ 47 := fun c hc => by cases hc
    refine ⟨x, slashed ss, by rw [slashed_cons], h3 x (by simp), ?_, ?_, ?_, ?_⟩
    · cases ss with
      | nil => exact .inl rfl
      | cons y ys => exact .inr ⟨y ++ slashed ys, by rw [slashed_cons]; rfl⟩
    · intro n1 n2
      rw [dots, if_neg (fun e => e.elim n1 n2)] at h5
      refine ⟨⟨ss, kept ++ [x], rfl, by rw [slashed_snoc], h3', ?_, h5⟩⟩
      intro s hs
      rcases List.mem_append.1 hs with h | h
      · exact h4 s h
      · rw [List.mem_singleton] at h; subst h; exact h3 _ (by simp)
    · rintro rfl
      have n46 : ¬ ([46] : L) = [46, 46] := by decide
      rw [dots, if_pos (.inl rfl)] at h5
      simp only [if_neg n46] at h5
      constructor
      · intro hr
        rw [if_pos (hrest.1 hr)] at h5
        refine ⟨⟨ss, kept ++ [[]], rfl, by rw [slashed_snoc], h3', ?_, h5⟩⟩
        intro s hs
        rcases List.mem_append.1 hs with h | h
        · exact h4 s h
        · rw [List.mem_singleton] at h; subst h; exact hnil
      · intro hr
        rw [if_neg (fun e => hr (hrest.2 e))] at h5
        exact ⟨⟨ss, kept, rfl, rfl, h3', h4, h5⟩⟩
    · rintro rfl
      rw [dots, if_pos (.inr rfl), if_pos rfl] at h5
      rcases kept.eq_nil_or_concat with rfl | ⟨ini, z, rfl⟩
      · left
        refine ⟨rfl, ?_, ?_⟩
        · intro hr
          rw [if_pos (hrest.1 hr)] at h5
          refine ⟨⟨ss, [[]], rfl, rfl, h3', ?_, h5⟩⟩
          intro s hs
          rw [List.mem_singleton] at hs; subst hs; exact hnil
        · intro hr
          rw [if_neg (fun e => hr (hrest.2 e))] at h5
          exact ⟨⟨ss, [], rfl, rfl, h3', (fun s hs => by cases hs), h5⟩⟩
      · right
        rw [List.concat_eq_append] at h4 h5 ⊢
        rw [List.dropLast_concat] at h5
        have h4' : ∀ s ∈ ini, ∀ c ∈ s, c ≠ 47 := fun s hs => h4 s (by simp [hs])
        refine ⟨slashed ini, z, by rw [slashed_snoc], h4 z (by simp), ?_, ?_⟩
        · intro hr
          rw [if_pos (hrest.1 hr)] at h5
          refine ⟨⟨ss, ini ++ [[]], rfl, by rw [slashed_snoc], h3', ?_, h5⟩⟩
          intro s hs
          rcases List.mem_append.1 hs with h | h
          · exact h4' s h
          · rw [List.mem_singleton] at h; subst h; exact hnil
        · intro hr
          rw [if_neg (fun e => hr (hrest.2 e))] at h5
          exact ⟨⟨ss, ini, rfl, rfl, h3', h4', h5⟩⟩
theorem coded_head {p : UInt8 → Bool} (c : UInt8) (t m : L) (h : coded p (c :: t) = some m) (hc : c = 47 ∨ m.head? = some 47) : c = 47 ∧ ∃ b, m = 47 :: b := by
  by_cases h37 : c = 37
  · subst h37
    rcases hc with hc | hc
    · cases hc
    · match t, h with
      | [], h => rw [coded_one] at h; cases h
      | [a], h => rw [coded_two] at h; cases h
      | a :: b :: r, h =>
        rw [coded_esc] at h
        by_cases hh : (hexd a && hexd b) = true
        · rw [if_pos hh] at h
          obtain ⟨x, _, rfl⟩ := Option.map_eq_some_iff.1 h
          exfalso
          unfold norm at hc
          split at hc
          · rename_i hf
            have e : UInt8.ofNat (16 * Oct.worth a + Oct.worth b) = 47 := by simpa using hc
            exact (free_facts _ hf).2.2.1 e
          · simp at hc
        · rw [if_neg hh] at h; cases h
  · rw [coded_plain p c t h37] at h
    by_cases hp : p c = true
    · rw [if_pos hp] at h
      obtain ⟨x, _, rfl⟩ := Option.map_eq_some_iff.1 h
      have e : c = 47 := by
        rcases hc with hc | hc
        · exact hc
        · simpa using hc
      subst e
      exact ⟨rfl, x, rfl⟩
    · rw [if_neg hp] at h; cases h
def pathOf (l : L) : Option L := coded pathc (l.take (ahead qm l))
def Begins (l : L) : Prop := l = [] ∨ l.head? = some 47 ∨ l.head? = some 63
theorem Begins.path {l : L} (h : Begins l) : pathOf l = none ∨ pathOf l = some [] ∨ ∃ b, pathOf l = some (47 :: b) := by
  unfold pathOf
  cases hc : coded pathc (l.take (ahead qm l)) with
  | none => exact .inl rfl
  | some m =>
    right
    rcases h with rfl | h | h
    · left; rw [show ([] : L).take (ahead qm []) = [] from rfl, coded_nil] at hc; rw [← hc]
    · right
      obtain ⟨t, rfl⟩ : ∃ t, l = 47 :: t := by
        cases l with
        | nil => cases h
        | cons c t => obtain rfl : c = 47 := by simpa using h
                      exact ⟨t, rfl⟩
      rw [ahead_miss qm 47 t (by decide), List.take_succ_cons] at hc
      obtain ⟨b, hb⟩ := (coded_head _ _ _ hc (.inl rfl)).2
      exact ⟨b, by rw [hb]⟩
    · left
      obtain ⟨t, rfl⟩ : ∃ t, l = 63 :: t := by
        cases l with
        | nil => cases h
        | cons c t => obtain rfl : c = 63 := by simpa using h
                      exact ⟨t, rfl⟩
      rw [ahead_hit qm 63 t (by decide), List.take_zero, coded_nil] at hc
      rw [← hc]
def full (m : L) : L := if m = [] then [47] else m
theorem place_slash {l : L} (h : Begins l) : place (slash l) = (pathOf l).bind fun a => (coded queryc (l.drop (ahead qm l))).map fun q => straight (full a) ++ q := by
  rcases h with rfl | h | h
  · decide
  · obtain ⟨t, rfl⟩ : ∃ t, l = 47 :: t := by
      cases l with
      | nil => cases h
      | cons c t => obtain rfl : c = 47 := by simpa using h
                    exact ⟨t, rfl⟩
    rw [show slash (47 :: t) = 47 :: t from rfl]
    unfold place pathOf
    cases hc : coded pathc ((47 :: t).take (ahead qm (47 :: t))) with
    | none => rfl
    | some a =>
      rw [ahead_miss qm 47 t (by decide), List.take_succ_cons] at hc
      obtain ⟨b, rfl⟩ := (coded_head _ _ _ hc (.inl rfl)).2
      rfl
  · obtain ⟨t, rfl⟩ : ∃ t, l = 63 :: t := by
      cases l with
      | nil => cases h
      | cons c t => obtain rfl : c = 63 := by simpa using h
                    exact ⟨t, rfl⟩
    rw [show slash (63 :: t) = 47 :: 63 :: t from rfl]
    unfold place pathOf
    rw [ahead_miss qm 47 _ (by decide), ahead_hit qm 63 t (by decide)]
    rfl
theorem query_cut (t : L) : coded queryc (63 :: t) = (coded queryc t).map (63 :: ·) := by
  rw [coded_plain _ _ _ (by decide), if_pos (by decide)]
theorem qm_cases (l : L) : (ahead qm l = l.length) ∨ (ahead qm l < l.length ∧ l.drop (ahead qm l) = 63 :: l.drop (ahead qm l + 1)) := by
  rcases ahead_drop qm l with h | ⟨c, t, h, hc⟩
  · left
    have := ahead_le qm l
    have := congrArg List.length h
    rw [List.length_drop] at this; simp at this; omega
  · right
    obtain rfl : c = 63 := by simpa [qm] using hc
    have e := congrArg List.length h
    rw [List.length_drop] at e; simp at e
    refine ⟨by omega, ?_⟩
    rw [h, ← List.drop_drop, h]; rfl
theorem place_none1 {l : L} (h : Begins l) (hp : pathOf l = none) : place (slash l) = none := by rw [place_slash h, hp]; rfl
theorem place_end {l : L} (h : Begins l) {a : L} (hp : pathOf l = some a) (he : ahead qm l = l.length) : place (slash l) = some (straight (full a)) := by
  rw [place_slash h, hp, he, List.drop_length, coded_nil]; simp
theorem place_more {l : L} (h : Begins l) {a : L} (hp : pathOf l = some a) (he : ahead qm l < l.length) : place (slash l) = (coded queryc (l.drop (ahead qm l + 1))).map fun q => straight (full a) ++ 63 :: q := by
  rcases qm_cases l with h1 | ⟨_, h1⟩
  · omega
  · rw [place_slash h, hp, h1, query_cut]
    cases coded queryc (l.drop (ahead qm l + 1)) <;> simp
theorem full_head {l : L} (h : Begins l) {a : L} (hp : pathOf l = some a) : ∃ b, full a = 47 :: b ∧ b.length ≤ l.length := by
  have hl := coded_len _ _ hp
  rw [List.length_take] at hl
  rcases h.path with e | e | ⟨b, e⟩
  · rw [e] at hp; cases hp
  · rw [e] at hp; obtain rfl := Option.some.inj hp; exact ⟨[], rfl, by simp⟩
  · rw [e] at hp; obtain rfl := Option.some.inj hp
    refine ⟨b, rfl, ?_⟩
    simp at hl; omega
end Tg

