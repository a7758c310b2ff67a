/- The plain mathematics of package target: hosts and ports. -/
import Derived.Test.YtlikjfemkadciaaGreatDoorTgMathB
namespace Tg
open Oct (lower low)

def isHost : L → Bool
  | [] => false
  | c :: t => if c = 91 then decide (2 ≤ t.length) && (t.getLast? == some 93) && t.dropLast.all numc else (c :: t).all hostc
def portV (t : L) : Option Int := if t = [] then some 80 else if (Oct.number 10 65535 t).2 = 0 ∧ t.length ≤ 5 then some (Oct.number 10 65535 t).1 else none
def trim58 (p : L) : L := if p.head? = some 58 then p.drop 1 else p
def portOf (p : L) : Option Int := portV (trim58 p)
def close (c : UInt8) : Bool := c == 93
/-- Where the host ends: at the first colon behind the first ] . -/
def closeAt (l : L) : Nat := if ahead close l < l.length then ahead close l + 1 else 0
def cutP (l : L) : Nat := closeAt l + ahead colon (l.drop (closeAt l))
def siteAt (l : L) (n : Nat) : Option (L × Int) := if isHost (l.take n) then (portOf (l.drop n)).map fun k => (lower (l.take n), k) else none
def site (l : L) : Option (L × Int) := siteAt l (cutP l)

theorem isHost_cons (c : UInt8) (t : L) : isHost (c :: t) = if c = 91 then decide (2 ≤ t.length) && (t.getLast? == some 93) && t.dropLast.all numc else (c :: t).all hostc := rfl
theorem host_cases {h : L} (hh : isHost h = true) : (h ≠ [] ∧ ∀ c ∈ h, hostc c = true) ∨ ∃ i, h = 91 :: (i ++ [93]) ∧ i ≠ [] ∧ ∀ c ∈ i, numc c = true := by
  match h, hh with
  | c :: t, hh =>
    rw [isHost_cons] at hh
    by_cases hc : c = 91
    · subst hc
      rw [if_pos rfl, Bool.and_eq_true, Bool.and_eq_true] at hh
      obtain ⟨⟨h1, h2⟩, h3⟩ := hh
      right
      have h2 : t.getLast? = some 93 := by simpa using h2
      obtain ⟨i, rfl⟩ : ∃ i, t = i ++ [93] := by
        rcases t.eq_nil_or_concat with rfl | ⟨i, x, rfl⟩
        · cases h2
        · rw [List.concat_eq_append] at h2 ⊢
          rw [List.getLast?_append] at h2
          obtain rfl : x = 93 := by simpa using h2
          exact ⟨i, rfl⟩
      refine ⟨i, rfl, ?_, ?_⟩
      · intro e; subst e; simp at h1
      · rw [List.dropLast_concat] at h3; exact fun c hc => List.all_eq_true.1 h3 c hc
    · rw [if_neg hc] at hh
      exact .inl ⟨by simp, fun c hc => List.all_eq_true.1 hh c hc⟩
theorem host_of {h : L} (hh : (h ≠ [] ∧ ∀ c ∈ h, hostc c = true) ∨ ∃ i, h = 91 :: (i ++ [93]) ∧ i ≠ [] ∧ ∀ c ∈ i, numc c = true) : isHost h = true := by
  rcases hh with ⟨h1, h2⟩ | ⟨i, rfl, h1, h2⟩
  · match h, h1 with
    | c :: t, _ =>
      rw [isHost_cons]
      have hc := h2 c (by simp)
      rw [if_neg (by rintro rfl; revert hc; decide)]
      exact List.all_eq_true.2 h2
  · rw [isHost_cons, if_pos rfl, List.dropLast_concat, List.getLast?_append]
    have : 2 ≤ (i ++ [93]).length := by cases i <;> simp_all
    simp only [decide_eq_true this, Bool.true_and, Bool.and_eq_true]
    exact ⟨by simp, List.all_eq_true.2 h2⟩
theorem host_facts (c : UInt8) (h : hostc c = true) : c ≠ 93 ∧ c ≠ 58 ∧ c ≠ 47 ∧ c ≠ 63 ∧ hostc (low c) = true := by
  have := Oct.all_octets (fun c => !hostc c || decide (c ≠ 93 ∧ c ≠ 58 ∧ c ≠ 47 ∧ c ≠ 63 ∧ hostc (low c) = true)) (by decide +kernel) c
  simpa [h] using this
theorem num_facts (c : UInt8) (h : numc c = true) : c ≠ 93 ∧ c ≠ 47 ∧ c ≠ 63 ∧ numc (low c) = true := by
  have := Oct.all_octets (fun c => !numc c || decide (c ≠ 93 ∧ c ≠ 47 ∧ c ≠ 63 ∧ numc (low c) = true)) (by decide +kernel) c
  simpa [h] using this
theorem dig_facts (c : UInt8) (h : Oct.dig 10 c = true) : c ≠ 93 ∧ c ≠ 58 ∧ c ≠ 47 ∧ c ≠ 63 := by
  have := Oct.all_octets (fun c => !Oct.dig 10 c || decide (c ≠ 93 ∧ c ≠ 58 ∧ c ≠ 47 ∧ c ≠ 63)) (by decide +kernel) c
  simpa [h] using this

theorem host_lower {h : L} (hh : isHost h = true) : isHost (lower h) = true := by
  refine host_of ?_
  rcases host_cases hh with ⟨h1, h2⟩ | ⟨i, rfl, h1, h2⟩
  · refine .inl ⟨by simpa [lower] using h1, fun c hc => ?_⟩
    obtain ⟨d, hd, rfl⟩ := List.mem_map.1 hc
    exact (host_facts d (h2 d hd)).2.2.2.2
  · refine .inr ⟨lower i, ?_, by simpa [lower] using h1, fun c hc => ?_⟩
    · simp [lower]; exact ⟨by decide, by decide⟩
    · obtain ⟨d, hd, rfl⟩ := List.mem_map.1 hc
      exact (num_facts d (h2 d hd)).2.2.2
/-- What a host has not. -/
theorem host_no {h : L} (hh : isHost h = true) : ∀ c ∈ h, c ≠ 47 ∧ c ≠ 63 := by
  intro c hc
  rcases host_cases hh with ⟨_, h2⟩ | ⟨i, rfl, _, h2⟩
  · have := host_facts c (h2 c hc); exact ⟨this.2.2.1, this.2.2.2.1⟩
  · simp only [List.mem_cons, List.mem_append, List.not_mem_nil, or_false] at hc
    rcases hc with rfl | hc | rfl
    · decide
    · have := num_facts c (h2 c hc); exact ⟨this.2.1, this.2.2.1⟩
    · decide

/-- A port as it is cut off: nothing, or a colon, and digits or none. -/
theorem number_digits {t : L} (h : (Oct.number 10 65535 t).2 = 0) : t ≠ [] ∧ ∀ c ∈ t, Oct.dig 10 c = true := by
  unfold Oct.number at h
  split at h
  · cases h
  · rename_i h1
    refine ⟨fun e => h1 (.inl e), ?_⟩
    have : Oct.allOf (Oct.dig 10) t = true := by
      cases hb : Oct.allOf (Oct.dig 10) t
      · exact absurd (.inr hb) h1
      · rfl
    exact fun c hc => List.all_eq_true.1 this c hc
theorem port_cases {p : L} {k : Int} (hp : p = [] ∨ ∃ t, p = 58 :: t) (h : portOf p = some k) : p = [] ∨ ∃ t, p = 58 :: t ∧ ∀ c ∈ t, Oct.dig 10 c = true := by
  rcases hp with rfl | ⟨t, rfl⟩
  · exact .inl rfl
  · refine .inr ⟨t, rfl, ?_⟩
    have h' : portV t = some k := h
    unfold portV at h'
    split at h'
    · rename_i e; subst e; intro c hc; cases hc
    · split at h'
      · rename_i h2; exact (number_digits h2.1).2
      · cases h'

theorem cutP_at {h p : L} {k : Int} (hh : isHost h = true) (hp : p = [] ∨ ∃ t, p = 58 :: t) (hk : portOf p = some k) : cutP (h ++ p) = h.length := by
  have hp2 := port_cases hp hk
  have hn : ∀ c ∈ p, c ≠ 93 := by
    intro c hc
    rcases hp2 with rfl | ⟨t, rfl, ht⟩
    · cases hc
    · rcases List.mem_cons.1 hc with rfl | hc
      · decide
      · exact (dig_facts c (ht c hc)).1
  have ha : ahead colon p = 0 := by
    rcases hp with rfl | ⟨t, rfl⟩
    · rfl
    · exact ahead_hit colon 58 t rfl
  unfold cutP
  rcases host_cases hh with ⟨_, h2⟩ | ⟨i, rfl, _, h2⟩
  · have hc : closeAt (h ++ p) = 0 := by
      unfold closeAt
      rw [ahead_all close (h ++ p), if_neg (Nat.lt_irrefl _)]
      intro c hc
      rcases List.mem_append.1 hc with hc | hc
      · simpa [close] using (host_facts c (h2 c hc)).1
      · simpa [close] using hn c hc
    rw [hc, List.drop_zero, ahead_app colon h p (fun c hc => by simpa [colon] using (host_facts c (h2 c hc)).2.1), ha]
    simp
  · have e : (91 :: (i ++ [93])) ++ p = (91 :: i) ++ (93 :: p) := by simp
    have hc : closeAt ((91 :: (i ++ [93])) ++ p) = i.length + 2 := by
      unfold closeAt
      rw [e, ahead_app close (91 :: i) _ ?_, ahead_hit close 93 p rfl, if_pos (by simp)]
      · simp
      · intro c hc
        rcases List.mem_cons.1 hc with rfl | hc
        · decide
        · simpa [close] using (num_facts c (h2 c hc)).1
    have hd : ((91 :: (i ++ [93])) ++ p).drop (i.length + 2) = p := by
      rw [show i.length + 2 = (91 :: (i ++ [93])).length by simp, List.drop_left]
    rw [hc, hd, ha]; simp

/-- Behind the program's cut stands nothing, or a colon. -/
theorem cutP_drop (l : L) : l.drop (cutP l) = [] ∨ ∃ t, l.drop (cutP l) = 58 :: t := by
  unfold cutP
  rw [← List.drop_drop]
  rcases ahead_drop colon (l.drop (closeAt l)) with h | ⟨c, t, h, hc⟩
  · exact .inl h
  · obtain rfl : c = 58 := by simpa [colon] using hc
    exact .inr ⟨t, h⟩
theorem cutP_le (l : L) : cutP l ≤ l.length := by
  unfold cutP
  have h := ahead_le colon (l.drop (closeAt l))
  have h2 := ahead_le close l
  rw [List.length_drop] at h
  have : closeAt l ≤ l.length := by unfold closeAt; split <;> omega
  omega
theorem closeAt_le (l : L) : closeAt l ≤ l.length := by
  unfold closeAt; split <;> omega

/-- The document's cut: at the last colon behind which no ] stands. -/
def RCut (l : L) (n : Nat) : Prop :=
  (∃ t, n ≤ l.length ∧ l.drop n = 58 :: t ∧ ∀ c ∈ t, c ≠ 58 ∧ c ≠ 93) ∨ (n = l.length ∧ ((∀ c ∈ l, c ≠ 58 ∧ c ≠ 93) ∨ ∃ a t, l = a ++ 93 :: t ∧ ∀ c ∈ t, c ≠ 58 ∧ c ≠ 93))
theorem RCut.drop {l : L} {n : Nat} (h : RCut l n) : n ≤ l.length ∧ (l.drop n = [] ∨ ∃ t, l.drop n = 58 :: t) := by
  rcases h with ⟨t, h1, h2, _⟩ | ⟨rfl, _⟩
  · exact ⟨h1, .inr ⟨t, h2⟩⟩
  · exact ⟨Nat.le_refl _, .inl (by simp)⟩
theorem last_mem {a b c d : L} {x : UInt8} (h : a ++ b = c ++ x :: d) (hl : a.length ≤ c.length) : x ∈ b := by
  have e : b = (c ++ x :: d).drop a.length := by rw [← h, List.drop_left]
  rw [e, List.drop_append_of_le_length hl]
  simp
theorem cutR_at {h p : L} {k : Int} {n : Nat} (hh : isHost h = true) (hp : p = [] ∨ ∃ t, p = 58 :: t) (hk : portOf p = some k) (hr : RCut (h ++ p) n) : n = h.length := by
  have hp2 := port_cases hp hk
  rcases hp2 with rfl | ⟨t, rfl, ht⟩
  · rw [List.append_nil] at hr
    rcases hr with ⟨t, h1, h2, h3⟩ | ⟨h1, _⟩
    · exfalso
      rcases host_cases hh with ⟨_, h4⟩ | ⟨i, rfl, _, h4⟩
      · have : (58 : UInt8) ∈ h := List.mem_of_mem_drop (i := n) (by rw [h2]; exact List.mem_cons_self)
        exact (host_facts 58 (h4 58 this)).2.1 rfl
      · have hl : ((91 : UInt8) :: (i ++ [93])).getLast? = some 93 := by rw [← List.cons_append]; exact List.getLast?_concat
        have h5 : ((91 :: (i ++ [93])).drop n).getLast? = some 93 := by
          rw [List.getLast?_drop, if_neg (by have := congrArg List.length h2; simp at this; simp; omega)]; exact hl
        rw [h2] at h5
        have h6 : (93 : UInt8) ∈ 58 :: t := List.mem_of_getLast? h5
        rcases List.mem_cons.1 h6 with h6 | h6
        · cases h6
        · exact (h3 93 h6).2 rfl
    · exact h1
  · have hd : ∀ c ∈ t, c ≠ 58 ∧ c ≠ 93 := fun c hc => ⟨(dig_facts c (ht c hc)).2.1, (dig_facts c (ht c hc)).1⟩
    rcases hr with ⟨t2, h1, h2, h3⟩ | ⟨h1, h2⟩
    · have e : h ++ 58 :: t = (h ++ 58 :: t).take n ++ 58 :: t2 := by rw [← h2, List.take_append_drop]
      have hl : ((h ++ 58 :: t).take n).length = n := by rw [List.length_take]; omega
      rcases Nat.lt_trichotomy n h.length with hn | hn | hn
      · exfalso
        have e2 : (h ++ 58 :: t).take n ++ [58] ++ t2 = h ++ 58 :: t := by rw [List.append_assoc]; exact e.symm
        exact (h3 58 (last_mem e2 (by simp; omega))).1 rfl
      · exact hn
      · exfalso
        have e2 : h ++ [58] ++ t = (h ++ 58 :: t).take n ++ 58 :: t2 := by rw [List.append_assoc]; exact e
        exact (hd 58 (last_mem e2 (by simp; omega))).1 rfl
    · exfalso
      rcases h2 with h2 | ⟨a, t2, h2, h3⟩
      · exact (h2 58 (by simp)).1 rfl
      · by_cases hn : h.length < a.length
        · have e2 : h ++ [58] ++ t = a ++ 93 :: t2 := by rw [List.append_assoc]; exact h2
          exact (hd 93 (last_mem e2 (by simp; omega))).2 rfl
        · by_cases hn2 : a.length = h.length
          · have := List.append_inj h2 hn2.symm
            have h4 := this.2
            simp at h4
          · have e2 : a ++ [93] ++ t2 = h ++ 58 :: t := by rw [List.append_assoc]; exact h2.symm
            exact (h3 58 (last_mem e2 (by simp; omega))).1 rfl

theorem siteAt_some {l : L} {n : Nat} {x : L × Int} (h : siteAt l n = some x) : isHost (l.take n) = true ∧ portOf (l.drop n) = some x.2 ∧ x.1 = lower (l.take n) := by
  unfold siteAt at h
  split at h
  · rename_i hh
    obtain ⟨k, hk, rfl⟩ := Option.map_eq_some_iff.1 h
    exact ⟨hh, hk, rfl⟩
  · cases h
/-- Both cuts say the same. -/
theorem site_ref {l : L} {n : Nat} (hr : RCut l n) : siteAt l n = site l := by
  have hd := hr.drop
  cases h1 : siteAt l n with
  | some x =>
    have h2 := siteAt_some h1
    have h3 := cutP_at h2.1 hd.2 h2.2.1
    rw [List.take_append_drop, List.length_take, Nat.min_eq_left hd.1] at h3
    rw [site, h3, h1]
  | none =>
    cases h4 : site l with
    | none => rfl
    | some x =>
      have h2 := siteAt_some h4
      have hr2 : RCut (l.take (cutP l) ++ l.drop (cutP l)) n := by rw [List.take_append_drop]; exact hr
      have h3 := cutR_at h2.1 (cutP_drop l) h2.2.1 hr2
      rw [List.length_take, Nat.min_eq_left (cutP_le l)] at h3
      rw [h3] at h1
      rw [site, h1] at h4
      cases h4

theorem low_idem (l : L) : lower (lower l) = lower l := Oct.lower_lower l
/-- What a host and a port say. -/
structure Site (h : L) (k : Int) : Prop where
  host : isHost h = true
  low : lower h = h
  lo : 0 ≤ k
  hi : k ≤ 65535
theorem number_range {t : L} (h : (Oct.number 10 65535 t).2 = 0) : 0 ≤ (Oct.number 10 65535 t).1 ∧ (Oct.number 10 65535 t).1 ≤ 65535 := by
  have gen : ∀ (t : L) (n m : Int), 0 ≤ n → n ≤ 65535 → Oct.num 10 65535 n t = some m → 0 ≤ m ∧ m ≤ 65535 := by
    intro t
    induction t with
    | nil => intro n m h0 h1 h; rw [Oct.num_nil] at h; obtain rfl := Option.some.inj h; exact ⟨h0, h1⟩
    | cons c r ih =>
      intro n m h0 h1 h
      by_cases hm : (65535 : Int) < n * (10 : Nat) + Oct.worth c
      · rw [Oct.num_more _ _ _ _ _ hm] at h; cases h
      · rw [Oct.num_on _ _ _ _ _ hm] at h
        exact ih _ _ (by omega) (by omega) h
  unfold Oct.number at h ⊢
  split
  · rename_i h1; rw [if_pos h1] at h; cases h
  · rename_i h1
    rw [if_neg h1] at h
    rw [if_neg (by decide)] at h ⊢
    cases hn : Oct.num 10 65535 0 t with
    | none => rw [hn] at h; cases h
    | some m => exact gen t 0 m (by decide) (by decide) hn
theorem site_facts {l : L} {h : L} {k : Int} (hs : site l = some (h, k)) : Site h k ∧ h.length ≤ l.length := by
  have h2 := siteAt_some hs
  have e : h = lower (l.take (cutP l)) := h2.2.2
  refine ⟨⟨by rw [e]; exact host_lower h2.1, by rw [e]; exact low_idem _, ?_, ?_⟩, by rw [e, Oct.lower_length, List.length_take]; omega⟩
  · have h3 := h2.2.1
    unfold portOf portV at h3
    split at h3
    · obtain rfl : (80 : Int) = k := Option.some.inj h3; decide
    · split at h3
      · rename_i hn; have h4 := Option.some.inj h3; have h5 := (number_range hn.1).1; simp only [] at h4; omega
      · cases h3
  · have h3 := h2.2.1
    unfold portOf portV at h3
    split at h3
    · obtain rfl : (80 : Int) = k := Option.some.inj h3; decide
    · split at h3
      · rename_i hn; have h4 := Option.some.inj h3; have h5 := (number_range hn.1).2; simp only [] at h4; omega
      · cases h3

/-- A port's text. -/
def portT (k : Int) : L := if k = 80 then [] else 58 :: Oct.print k 10
end Tg
