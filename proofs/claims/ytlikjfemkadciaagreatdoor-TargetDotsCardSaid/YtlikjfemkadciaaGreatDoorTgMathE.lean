/- The plain mathematics of package target: the document's own steps. -/
import Derived.Test.YtlikjfemkadciaaGreatDoorTgMathD
namespace Tg
open Oct (lower low)

/-! Where something stands, found octet by octet. -/
theorem ahead_none (p : UInt8 → Bool) : ahead p [] = 0 := rfl
theorem ahead_miss (p : UInt8 → Bool) (c : UInt8) (t : L) (h : p c = false) : ahead p (c :: t) = ahead p t + 1 := by rw [ahead, if_neg (by rw [h]; decide)]

/-! A path without dots, by steps over the text. -/
theorem straight_slashed (t : L) : straight (47 :: t) = slashed (dots [] (sp 47 t)) := rfl
theorem no47 (t : L) : ∀ s ∈ sp 47 t, ∀ c ∈ s, c ≠ 47 := fun s hs c hc => (sp_mem 47 t s hs c hc).1
/-- What is to come, and what has been said. -/
structure Steps (R inn out : L) : Prop where
  st : ∃ ss kept : List L, inn = slashed ss ∧ out = slashed kept ∧ (∀ s ∈ ss, ∀ c ∈ s, c ≠ 47) ∧ (∀ s ∈ kept, ∀ c ∈ s, c ≠ 47) ∧ slashed (dots kept ss) = R
theorem Steps.start (t : L) : Steps (straight (47 :: t)) (47 :: t) [] :=
  ⟨⟨sp 47 t, [], (slashed_sp t).symm, rfl, no47 t, (fun s hs => by cases hs), rfl⟩⟩
theorem Steps.done {R out : L} (h : Steps R [] out) : out = R := by
  obtain ⟨ss, kept, h1, rfl, _, _, h5⟩ := h.st
  cases ss with
  | nil => exact h5
  | cons x xs => rw [slashed_cons] at h1; cases h1
/-- One step: the segment x, then rest; the last segment said (o, then / and z) may go. -/
theorem Steps.next {R inn out : L} (h : Steps R inn out) (hne : inn ≠ []) : ∃ x rest, inn = 47 :: x ++ rest ∧ (∀ c ∈ x, c ≠ 47) ∧ (rest = [] ∨ ∃ r, rest = 47 :: r) ∧
    (x ≠ [46] → x ≠ [46, 46] → Steps R rest (out ++ 47 :: x)) ∧
    (x = [46] → (rest = [] → Steps R rest (out ++ [47])) ∧ (rest ≠ [] → Steps R rest out)) ∧
    (x = [46, 46] → (out = [] ∧ (rest = [] → Steps R rest [47]) ∧ (rest ≠ [] → Steps R rest [])) ∨ ∃ o z, out = o ++ 47 :: z ∧ (∀ c ∈ z, c ≠ 47) ∧ (rest = [] → Steps R rest (o ++ [47])) ∧ (rest ≠ [] → Steps R rest o)) := by
  obtain ⟨ss, kept, rfl, rfl, h3, h4, h5⟩ := h.st
  cases ss with
  | nil => exact absurd slashed_nil hne
  | cons x ss =>
    have h3' : ∀ s ∈ ss, ∀ c ∈ s, c ≠ 47 := fun s hs => h3 s (by simp [hs])
    have hrest : (slashed ss = [] ↔ ss = []) := by
      cases ss with
      | nil => simp [slashed_nil]
      | cons y ys => rw [slashed_cons]; simp
    have hnil : ∀ c ∈ ([] : L), c ≠ 47 := fun c hc => by cases hc
    refine ⟨x, slashed ss, by rw [slashed_cons], h3 x (by simp), ?_, ?_, ?_, ?_⟩
    · cases ss with
      | nil => exact .inl rfl
      | cons y ys => exact .inr ⟨y ++ slashed ys, by rw [slashed_cons]; rfl⟩
    · intro n1 n2
      rw [dots, if_neg (fun e => e.elim n1 n2)] at h5
      refine ⟨⟨ss, kept ++ [x], rfl, by rw [slashed_snoc], h3', ?_, h5⟩⟩
      intro s hs
      rcases List.mem_append.1 hs with h | h
      · exact h4 s h
      · rw [List.mem_singleton] at h; subst h; exact h3 _ (by simp)
    · rintro rfl
      have n46 : ¬ ([46] : L) = [46, 46] := by decide
      rw [dots, if_pos (.inl rfl)] at h5
      simp only [if_neg n46] at h5
      constructor
      · intro hr
        rw [if_pos (hrest.1 hr)] at h5
        refine ⟨⟨ss, kept ++ [[]], rfl, by rw [slashed_snoc], h3', ?_, h5⟩⟩
        intro s hs
        rcases List.mem_append.1 hs with h | h
        · exact h4 s h
        · rw [List.mem_singleton] at h; subst h; exact hnil
      · intro hr
        rw [if_neg (fun e => hr (hrest.2 e))] at h5
        exact ⟨⟨ss, kept, rfl, rfl, h3', h4, h5⟩⟩
    · rintro rfl
      rw [dots, if_pos (.inr rfl), if_pos rfl] at h5
      rcases kept.eq_nil_or_concat with rfl | ⟨ini, z, rfl⟩
      · left
        refine ⟨rfl, ?_, ?_⟩
        · intro hr
          rw [if_pos (hrest.1 hr)] at h5
          refine ⟨⟨ss, [[]], rfl, rfl, h3', ?_, h5⟩⟩
          intro s hs
          rw [List.mem_singleton] at hs; subst hs; exact hnil
        · intro hr
          rw [if_neg (fun e => hr (hrest.2 e))] at h5
          exact ⟨⟨ss, [], rfl, rfl, h3', (fun s hs => by cases hs), h5⟩⟩
      · right
        rw [List.concat_eq_append] at h4 h5 ⊢
        rw [List.dropLast_concat] at h5
        have h4' : ∀ s ∈ ini, ∀ c ∈ s, c ≠ 47 := fun s hs => h4 s (by simp [hs])
        refine ⟨slashed ini, z, by rw [slashed_snoc], h4 z (by simp), ?_, ?_⟩
        · intro hr
          rw [if_pos (hrest.1 hr)] at h5
          refine ⟨⟨ss, ini ++ [[]], rfl, by rw [slashed_snoc], h3', ?_, h5⟩⟩
          intro s hs
          rcases List.mem_append.1 hs with h | h
          · exact h4' s h
          · rw [List.mem_singleton] at h; subst h; exact hnil
        · intro hr
          rw [if_neg (fun e => hr (hrest.2 e))] at h5
          exact ⟨⟨ss, ini, rfl, rfl, h3', h4', h5⟩⟩

/-! A path and a query, as the document takes them. -/
theorem coded_head {p : UInt8 → Bool} (c : UInt8) (t m : L) (h : coded p (c :: t) = some m) (hc : c = 47 ∨ m.head? = some 47) : c = 47 ∧ ∃ b, m = 47 :: b := by
  by_cases h37 : c = 37
  · subst h37
    rcases hc with hc | hc
    · cases hc
    · match t, h with
      | [], h => rw [coded_one] at h; cases h
      | [a], h => rw [coded_two] at h; cases h
      | a :: b :: r, h =>
        rw [coded_esc] at h
        by_cases hh : (hexd a && hexd b) = true
        · rw [if_pos hh] at h
          obtain ⟨x, _, rfl⟩ := Option.map_eq_some_iff.1 h
          exfalso
          unfold norm at hc
          split at hc
          · rename_i hf
            have e : UInt8.ofNat (16 * Oct.worth a + Oct.worth b) = 47 := by simpa using hc
            exact (free_facts _ hf).2.2.1 e
          · simp at hc
        · rw [if_neg hh] at h; cases h
  · rw [coded_plain p c t h37] at h
    by_cases hp : p c = true
    · rw [if_pos hp] at h
      obtain ⟨x, _, rfl⟩ := Option.map_eq_some_iff.1 h
      have e : c = 47 := by
        rcases hc with hc | hc
        · exact hc
        · simpa using hc
      subst e
      exact ⟨rfl, x, rfl⟩
    · rw [if_neg hp] at h; cases h
/-- What the document's place takes first: the path. -/
def pathOf (l : L) : Option L := coded pathc (l.take (ahead qm l))
/-- Texts that a place begins with. -/
def Begins (l : L) : Prop := l = [] ∨ l.head? = some 47 ∨ l.head? = some 63
theorem Begins.path {l : L} (h : Begins l) : pathOf l = none ∨ pathOf l = some [] ∨ ∃ b, pathOf l = some (47 :: b) := by
  unfold pathOf
  cases hc : coded pathc (l.take (ahead qm l)) with
  | none => exact .inl rfl
  | some m =>
    right
    rcases h with rfl | h | h
    · left; rw [show ([] : L).take (ahead qm []) = [] from rfl, coded_nil] at hc; rw [← hc]
    · right
      obtain ⟨t, rfl⟩ : ∃ t, l = 47 :: t := by
        cases l with
        | nil => cases h
        | cons c t => obtain rfl : c = 47 := by simpa using h
                      exact ⟨t, rfl⟩
      rw [ahead_miss qm 47 t (by decide), List.take_succ_cons] at hc
      obtain ⟨b, hb⟩ := (coded_head _ _ _ hc (.inl rfl)).2
      exact ⟨b, by rw [hb]⟩
    · left
      obtain ⟨t, rfl⟩ : ∃ t, l = 63 :: t := by
        cases l with
        | nil => cases h
        | cons c t => obtain rfl : c = 63 := by simpa using h
                      exact ⟨t, rfl⟩
      rw [ahead_hit qm 63 t (by decide), List.take_zero, coded_nil] at hc
      rw [← hc]
/-- The path's text, made normal, is / where it is empty. -/
def full (m : L) : L := if m = [] then [47] else m
theorem place_slash {l : L} (h : Begins l) : place (slash l) = (pathOf l).bind fun a => (coded queryc (l.drop (ahead qm l))).map fun q => straight (full a) ++ q := by
  rcases h with rfl | h | h
  · decide
  · obtain ⟨t, rfl⟩ : ∃ t, l = 47 :: t := by
      cases l with
      | nil => cases h
      | cons c t => obtain rfl : c = 47 := by simpa using h
                    exact ⟨t, rfl⟩
    rw [show slash (47 :: t) = 47 :: t from rfl]
    unfold place pathOf
    cases hc : coded pathc ((47 :: t).take (ahead qm (47 :: t))) with
    | none => rfl
    | some a =>
      rw [ahead_miss qm 47 t (by decide), List.take_succ_cons] at hc
      obtain ⟨b, rfl⟩ := (coded_head _ _ _ hc (.inl rfl)).2
      rfl
  · obtain ⟨t, rfl⟩ : ∃ t, l = 63 :: t := by
      cases l with
      | nil => cases h
      | cons c t => obtain rfl : c = 63 := by simpa using h
                    exact ⟨t, rfl⟩
    rw [show slash (63 :: t) = 47 :: 63 :: t from rfl]
    unfold place pathOf
    rw [ahead_miss qm 47 _ (by decide), ahead_hit qm 63 t (by decide)]
    rfl
/-- The query's text behind its ? . -/
theorem query_cut (t : L) : coded queryc (63 :: t) = (coded queryc t).map (63 :: ·) := by
  rw [coded_plain _ _ _ (by decide), if_pos (by decide)]
theorem qm_cases (l : L) : (ahead qm l = l.length) ∨ (ahead qm l < l.length ∧ l.drop (ahead qm l) = 63 :: l.drop (ahead qm l + 1)) := by
  rcases ahead_drop qm l with h | ⟨c, t, h, hc⟩
  · left
    have := ahead_le qm l
    have := congrArg List.length h
    rw [List.length_drop] at this; simp at this; omega
  · right
    obtain rfl : c = 63 := by simpa [qm] using hc
    have e := congrArg List.length h
    rw [List.length_drop] at e; simp at e
    refine ⟨by omega, ?_⟩
    rw [h, ← List.drop_drop, h]; rfl
/-- What place answers, by its parts. -/
theorem place_none1 {l : L} (h : Begins l) (hp : pathOf l = none) : place (slash l) = none := by rw [place_slash h, hp]; rfl
theorem place_end {l : L} (h : Begins l) {a : L} (hp : pathOf l = some a) (he : ahead qm l = l.length) : place (slash l) = some (straight (full a)) := by
  rw [place_slash h, hp, he, List.drop_length, coded_nil]; simp
theorem place_more {l : L} (h : Begins l) {a : L} (hp : pathOf l = some a) (he : ahead qm l < l.length) : place (slash l) = (coded queryc (l.drop (ahead qm l + 1))).map fun q => straight (full a) ++ 63 :: q := by
  rcases qm_cases l with h1 | ⟨_, h1⟩
  · omega
  · rw [place_slash h, hp, h1, query_cut]
    cases coded queryc (l.drop (ahead qm l + 1)) <;> simp
theorem full_head {l : L} (h : Begins l) {a : L} (hp : pathOf l = some a) : ∃ b, full a = 47 :: b ∧ b.length ≤ l.length := by
  have hl := coded_len _ _ hp
  rw [List.length_take] at hl
  rcases h.path with e | e | ⟨b, e⟩
  · rw [e] at hp; cases hp
  · rw [e] at hp; obtain rfl := Option.some.inj hp; exact ⟨[], rfl, by simp⟩
  · rw [e] at hp; obtain rfl := Option.some.inj hp
    refine ⟨b, rfl, ?_⟩
    simp at hl; omega

/-! What is normal has no dots, and no octet coded that needn't be. -/
theorem norm_own {a b : UInt8} {y r : L} (h : norm (16 * Oct.worth a + Oct.worth b) ++ y = 37 :: a :: b :: r) : norm (16 * Oct.worth a + Oct.worth b) = [37, a, b] ∧ y = r := by
  unfold norm at h ⊢
  split at h
  · rename_i hf
    exfalso
    have e : UInt8.ofNat (16 * Oct.worth a + Oct.worth b) = 37 := (List.cons.inj h).1
    exact (free_facts _ hf).1 e
  · rename_i hf
    rw [if_neg hf]
    have h2 := (List.cons.inj h).2
    have h3 := List.cons.inj h2
    have h4 := List.cons.inj h3.2
    exact ⟨by rw [h3.1, h4.1], h4.2⟩
/-- Each coded octet stands there as it is made normal. -/
def Pct (l : L) : Prop := ∀ i, l[i]? = some 37 → ∃ a b r, l.drop i = 37 :: a :: b :: r ∧ coded queryc [37, a, b] = some [37, a, b]
theorem pct_own {p : UInt8 → Bool} : ∀ (n : Nat) (l : L), l.length ≤ n → coded p l = some l → Pct l := by
  intro n l hn
  refine coded_ind (P := fun l => coded p l = some l → Pct l) ?_ ?_ ?_ ?_ ?_ n l hn
  · intro _ i hi; simp at hi
  · intro a b r ih h
    rw [coded_esc] at h
    by_cases hh : (hexd a && hexd b) = true
    · rw [if_pos hh] at h
      obtain ⟨x, hx, e⟩ := Option.map_eq_some_iff.1 h
      obtain ⟨e1, rfl⟩ := norm_own e
      have hq : coded queryc [37, a, b] = some [37, a, b] := by
        rw [coded_esc, if_pos hh, coded_nil]
        show some (norm _ ++ []) = _
        rw [e1]; rfl
      have hh2 := Bool.and_eq_true_iff.1 hh
      have na : a ≠ 37 := by rintro rfl; rw [hexd_pct] at hh2; cases hh2.1
      have nb : b ≠ 37 := by rintro rfl; rw [hexd_pct] at hh2; cases hh2.2
      intro i hi
      match i, hi with
      | 0, _ => exact ⟨a, b, x, rfl, hq⟩
      | 1, hi => exact absurd (by simpa using hi) na
      | 2, hi => exact absurd (by simpa using hi) nb
      | i + 3, hi =>
        obtain ⟨c, d, s, h1, h2⟩ := ih hx i (by simpa using hi)
        exact ⟨c, d, s, by simpa using h1, h2⟩
    · rw [if_neg hh] at h; cases h
  · intro h; rw [coded_one] at h; cases h
  · intro a h; rw [coded_two] at h; cases h
  · intro c t hc ih h
    rw [coded_plain p c t hc] at h
    by_cases hpc : p c = true
    · rw [if_pos hpc] at h
      obtain ⟨x, hx, e⟩ := Option.map_eq_some_iff.1 h
      obtain rfl : x = t := by simpa using e
      intro i hi
      match i, hi with
      | 0, hi => exact absurd (by simpa using hi) hc
      | i + 1, hi =>
        obtain ⟨a, b, r, h1, h2⟩ := ih hx i (by simpa using hi)
        exact ⟨a, b, r, by simpa using h1, h2⟩
    · rw [if_neg hpc] at h; cases h
theorem Pct.app {a b : L} (ha : Pct a) (hb : Pct b) : Pct (a ++ b) := by
  intro i hi
  by_cases h : i < a.length
  · rw [List.getElem?_append_left h] at hi
    obtain ⟨x, y, r, h1, h2⟩ := ha i hi
    refine ⟨x, y, r ++ b, ?_, h2⟩
    rw [List.drop_append_of_le_length (by omega), h1]; rfl
  · rw [List.getElem?_append_right (by omega)] at hi
    obtain ⟨x, y, r, h1, h2⟩ := hb (i - a.length) hi
    refine ⟨x, y, r, ?_, h2⟩
    rw [List.drop_append, List.drop_eq_nil_of_le (by omega), h1]; rfl
/-- What is to come ahead of a query: a segment's rest, whole segments. -/
def DSt (q D seg : L) : Prop := ∃ (y : L) (ss : List L), D = y ++ slashed ss ++ q ∧ plainSeg (seg ++ y) ∧ (∀ c ∈ y, c ≠ 47 ∧ c ≠ 63) ∧ ∀ s ∈ ss, plainSeg s ∧ ∀ c ∈ s, c ≠ 47 ∧ c ≠ 63
def QOk (q : L) : Prop := q = [] ∨ ∃ r, q = 63 :: r
theorem DSt.nil {q seg : L} (h : DSt q [] seg) : plainSeg seg := by
  obtain ⟨y, ss, h1, h2, _, _⟩ := h
  have : y = [] := by
    cases y with
    | nil => rfl
    | cons c t => cases h1
  subst this
  simpa using h2
theorem DSt.slash {q t seg : L} (hq : QOk q) (h : DSt q (47 :: t) seg) : plainSeg seg ∧ DSt q t [] := by
  obtain ⟨y, ss, h1, h2, h3, h4⟩ := h
  cases y with
  | cons c y =>
    have e := (List.cons.inj h1).1
    exact absurd e.symm (h3 c (by simp)).1
  | nil =>
    cases ss with
    | nil =>
      rw [slashed_nil] at h1
      rcases hq with rfl | ⟨r, rfl⟩
      · cases h1
      · cases h1
    | cons x ss =>
      rw [slashed_cons] at h1
      have e := (List.cons.inj h1).2
      refine ⟨by simpa using h2, x, ss, e, ?_, ?_, ?_⟩
      · exact (h4 x (by simp)).1
      · exact (h4 x (by simp)).2
      · exact fun s hs => h4 s (by simp [hs])
theorem DSt.ask {q t seg : L} (h : DSt q (63 :: t) seg) : plainSeg seg := by
  obtain ⟨y, ss, h1, h2, h3, _⟩ := h
  cases y with
  | cons c y =>
    have e := (List.cons.inj h1).1
    exact absurd e.symm (h3 c (by simp)).2
  | nil => simpa using h2
theorem DSt.other {q t seg : L} {c : UInt8} (hq : QOk q) (h1 : c ≠ 47) (h2 : c ≠ 63) (h : DSt q (c :: t) seg) : DSt q t (seg ++ [c]) := by
  obtain ⟨y, ss, e1, e2, e3, e4⟩ := h
  cases y with
  | cons d y =>
    have e := List.cons.inj e1
    obtain rfl := e.1
    refine ⟨y, ss, e.2, by simpa using e2, fun x hx => e3 x (by simp [hx]), e4⟩
  | nil =>
    exfalso
    cases ss with
    | nil =>
      rw [slashed_nil] at e1
      rcases hq with rfl | ⟨r, rfl⟩
      · cases e1
      · exact h2 (List.cons.inj e1).1
    | cons x ss =>
      rw [slashed_cons] at e1
      exact h1 (List.cons.inj e1).1
/-- A place that is normal, taken apart. -/
theorem place_parts {t : L} (h : place (47 :: t) = some (47 :: t)) : ∃ q, QOk q ∧ DSt q (47 :: t) [] ∧ Pct (47 :: t) := by
  have e : ahead qm (47 :: t) = ahead qm t + 1 := by rw [ahead, if_neg (by decide)]
  unfold place at h
  rw [e, List.take_succ_cons, List.drop_succ_cons] at h
  obtain ⟨a, ha, h⟩ := Option.bind_eq_some_iff.1 h
  obtain ⟨q, hq, h⟩ := Option.map_eq_some_iff.1 h
  have ca := coded_coded set_path _ _ ha
  have cq := coded_coded set_query _ _ hq
  rw [coded_plain _ _ _ (by decide), if_pos (by decide)] at ha
  obtain ⟨b, hb, rfl⟩ := Option.map_eq_some_iff.1 ha
  have cs := coded_straight (p := pathc) (by decide) b ca
  have n63 := coded_no (p := pathc) 63 (by decide) (by decide) (by decide) (by decide) _ _ cs
  have hq0 : QOk q := by
    rcases ahead_drop qm t with h0 | ⟨c, r, h0, hc⟩
    · rw [h0, coded_nil] at hq; obtain rfl := Option.some.inj hq; exact .inl rfl
    · obtain rfl : c = 63 := by simpa [qm] using hc
      rw [h0, coded_plain _ _ _ (by decide), if_pos (by decide)] at hq
      obtain ⟨y, hy, rfl⟩ := Option.map_eq_some_iff.1 hq
      exact .inr ⟨y, rfl⟩
  refine ⟨q, hq0, ?_, ?_⟩
  · refine ⟨[], dots [] (sp 47 b), ?_, ⟨by decide, by decide⟩, (fun c hc => by cases hc), ?_⟩
    · rw [← h]; rfl
    · have p1 := dots_plain (sp 47 b) [] (fun s hs => by cases hs)
      have p2 := dots_all (P := fun s => ∀ c ∈ s, c ≠ 47) (fun c hc => by cases hc) (sp 47 b) [] (no47 b) (fun s hs => by cases hs)
      intro s hs
      refine ⟨p1 s hs, fun c hc => ⟨p2 s hs c hc, ?_⟩⟩
      refine n63 c ?_
      rw [straight_slashed]
      unfold slashed
      exact List.mem_flatMap.2 ⟨s, hs, by simp [hc]⟩
  · rw [← h]
    exact (pct_own _ _ (Nat.le_refl _) cs).app (pct_own _ _ (Nat.le_refl _) cq)
end Tg
