/- The plain mathematics of package field: headers, read. -/
import Derived.Test.YtlekbnbdjahegaaDoorFdMath
namespace Fld
open Oct (token value lower trim)

/-- Where the colon stands (the length, if there is none). -/
def colon : List UInt8 → Nat
  | [] => 0
  | c :: r => if c = 58 then 0 else colon r + 1
theorem colon_le (l : List UInt8) : colon l ≤ l.length := by
  induction l with
  | nil => exact Nat.le_refl 0
  | cons c r ih => unfold colon; split <;> simp <;> omega
theorem colon_at : ∀ (l : List UInt8) (i : Nat), (∀ j (h : j < l.length), j < i → l[j] ≠ 58) → (∀ h : i < l.length, l[i] = 58) → i ≤ l.length → colon l = i
  | [], i, _, _, h => by simp at h; subst h; rfl
  | c :: r, 0, _, h2, _ => by unfold colon; rw [if_pos (show c = 58 from h2 (by simp))]
  | c :: r, i + 1, h1, h2, h => by
    unfold colon
    rw [if_neg (show ¬ c = 58 from h1 0 (by simp) (by omega)), colon_at r i (fun j hj hl => by have := h1 (j + 1) (by simpa using hj) (by omega); simpa using this) (fun hl => by have := h2 (by simpa using hl); simpa using this) (by simpa using h)]
theorem colon_index (l : List UInt8) : Go.Lib.indexByte l 58 = if colon l = l.length then -1 else (colon l : Int) := by
  induction l with
  | nil => rfl
  | cons c r ih =>
    have hle := colon_le r
    have he : colon (c :: r) = if c = 58 then 0 else colon r + 1 := by rw [colon]
    have hi : Go.Lib.indexByte (c :: r) 58 = if c == 58 then 0 else if Go.Lib.indexByte r 58 == -1 then -1 else Go.Lib.indexByte r 58 + 1 := by rw [Go.Lib.indexByte]
    rw [he, hi, ih]
    by_cases hc : c = 58
    · subst hc; simp
    · rw [if_neg (by simpa using hc), if_neg hc]
      by_cases hr : colon r = r.length
      · rw [if_pos hr]; simp [hr]
      · rw [if_neg hr]
        have : ((colon r : Int) == -1) = false := beq_eq_false_iff_ne.2 (by omega)
        rw [this]
        simp; omega

/-- The field of a line. -/
def cutField (l : List UInt8) : F := (l.take (colon l), trim (l.drop (colon l + 1)))
def fieldOf (l : List UInt8) : Option F := if colon l = l.length then none else if right (cutField l) then some (cutField l) else none
theorem fieldOf_no {l : List UInt8} (h : colon l = l.length) : fieldOf l = none := by unfold fieldOf; rw [if_pos h]
theorem fieldOf_wrong {l : List UInt8} (h : right (cutField l) = false) : fieldOf l = none := by unfold fieldOf; split <;> simp [h]
theorem fieldOf_yes {l : List UInt8} (h : colon l ≠ l.length) (hr : right (cutField l) = true) : fieldOf l = some (cutField l) := by unfold fieldOf; rw [if_neg h, if_pos hr]
theorem right_empty : right ([], []) = false := rfl
/-- What the program's own reading of a line gives. -/
def readLine (l : List UInt8) : F := if colon l = l.length then ([], []) else cutField l
theorem readLine_no {l : List UInt8} (h : right (readLine l) = false) : fieldOf l = none := by
  unfold readLine at h
  split at h
  · exact fieldOf_no (by assumption)
  · exact fieldOf_wrong h
theorem readLine_yes {l : List UInt8} (h : right (readLine l) = true) : fieldOf l = some (readLine l) := by
  unfold readLine at h ⊢
  split at h
  · rw [right_empty] at h; cases h
  · rename_i hc; rw [if_neg hc]; exact fieldOf_yes hc h

/-- The header: line by line. -/
def go (b : List UInt8) : Nat → Nat → List F → List F × Nat × Int
  | 0, _, _ => ([], 0, 0)
  | k + 1, n, acc => match endAt b n with
    | none => ([], 0, if b.length > 65536 then 12 else 11)
    | some e => if e + 2 > 65536 then ([], 0, 12) else if e = n then (acc, e + 2, 0) else
      match fieldOf ((b.take e).drop n) with
      | none => ([], 0, 10)
      | some f => if acc.length ≥ 128 then ([], 0, 13) else go b k (e + 2) (acc ++ [f])
def parse (b : List UInt8) : List F × Nat × Int := go b (b.length + 1) 0 []
/-- Behind the fields acc, at place n, the header's answer is still the whole's. -/
def At (b : List UInt8) (n : Nat) (acc : List F) : Prop := n ≤ b.length ∧ n ≤ 65536 ∧ acc.length ≤ 128 ∧ acc.length ≤ n ∧ ∃ k, b.length < n + k ∧ go b k n acc = parse b
theorem At.start (b : List UInt8) : At b 0 [] := ⟨Nat.zero_le _, Nat.zero_le _, Nat.zero_le _, Nat.le_refl _, b.length + 1, by omega, rfl⟩
section
variable {b : List UInt8} {n e : Nat} {acc : List F}
theorem At.more (h : At b n acc) (he : endAt b n = none) : parse b = ([], 0, if b.length > 65536 then 12 else 11) := by
  obtain ⟨h1, _, _, _, k, hk, hg⟩ := h
  match k with
  | 0 => omega
  | k + 1 => rw [← hg, go, he]
theorem At.long (h : At b n acc) (he : endAt b n = some e) (hl : e + 2 > 65536) : parse b = ([], 0, 12) := by
  obtain ⟨h1, _, _, _, k, hk, hg⟩ := h
  match k with
  | 0 => omega
  | k + 1 => rw [← hg, go, he]; simp [hl]
theorem At.last (h : At b n acc) (he : endAt b n = some n) (hl : n + 2 ≤ 65536) : parse b = (acc, n + 2, 0) := by
  obtain ⟨h1, _, _, _, k, hk, hg⟩ := h
  match k with
  | 0 => omega
  | k + 1 => rw [← hg, go, he]; simp; omega
theorem At.form (h : At b n acc) (he : endAt b n = some e) (hl : e + 2 ≤ 65536) (hne : e ≠ n) (hf : fieldOf ((b.take e).drop n) = none) : parse b = ([], 0, 10) := by
  obtain ⟨h1, _, _, _, k, hk, hg⟩ := h
  match k with
  | 0 => omega
  | k + 1 => rw [← hg, go, he]; simp only []; rw [if_neg (by omega), if_neg hne, hf]
theorem At.many (h : At b n acc) (he : endAt b n = some e) (hl : e + 2 ≤ 65536) (hne : e ≠ n) {f : F} (hf : fieldOf ((b.take e).drop n) = some f) (hm : acc.length ≥ 128) : parse b = ([], 0, 13) := by
  obtain ⟨h1, _, _, _, k, hk, hg⟩ := h
  match k with
  | 0 => omega
  | k + 1 => rw [← hg, go, he]; simp only []; rw [if_neg (by omega), if_neg hne, hf]; simp only []; rw [if_pos hm]
theorem At.next (h : At b n acc) (he : endAt b n = some e) (hb : e + 2 ≤ b.length) (hn : n ≤ e) (hl : e + 2 ≤ 65536) (hne : e ≠ n) {f : F} (hf : fieldOf ((b.take e).drop n) = some f) (hm : acc.length < 128) : At b (e + 2) (acc ++ [f]) := by
  obtain ⟨h1, h2, h3, h4, k, hk, hg⟩ := h
  match k with
  | 0 => omega
  | k + 1 =>
    refine ⟨hb, hl, by rw [List.length_append]; exact hm, by rw [List.length_append]; show acc.length + 1 ≤ _; omega, k, by omega, ?_⟩
    rw [← hg]
    conv => rhs; rw [go, he]
    simp only []
    rw [if_neg (by omega), if_neg hne, hf]
    simp only []
    rw [if_neg (by omega)]
end

/-! ### where a line ends, as the program asks it: within the first 65536 octets -/
theorem head_some {b : List UInt8} {n : Nat} (_hn : n ≤ b.length) {i : Nat} (hi : Go.Lib.index ((b.take 65536).drop n) [13, 10] = i) : endAt b n = some (n + i) ∧ n + i + 2 ≤ 65536 ∧ n + i + 2 ≤ b.length := by
  rcases Go.Lib.index_spec ((b.take 65536).drop n) [13, 10] with ⟨h1, _⟩ | ⟨j, h1, h2, h3, h4⟩
  · omega
  · obtain rfl : j = i := by omega
    have hc := (occ_isC _ j).1 h3
    have hlt := isC_lt hc
    rw [List.length_drop, List.length_take] at hlt
    have key : ∀ m, m + 1 < 65536 → (isC (b.take 65536) m ↔ isC b m) := by
      intro m hm
      unfold isC
      rw [List.getElem?_take_of_lt (by omega), List.getElem?_take_of_lt (by omega)]
    refine ⟨endAt_some (by omega) ((key _ (by omega)).1 ((isC_drop _ n j).1 hc)) (fun m hm1 hm2 hcm => ?_), by omega, by omega⟩
    have := h4 (m - n) (by omega)
    rw [(occ_isC _ (m - n)).2 ((isC_drop _ n (m - n)).2 (by rw [show n + (m - n) = m by omega]; exact (key m (by omega)).2 hcm))] at this
    cases this
theorem head_none {b : List UInt8} {n : Nat} (hi : Go.Lib.index ((b.take 65536).drop n) [13, 10] < 0) : endAt b n = none ∨ ∃ e, endAt b n = some e ∧ e + 2 > 65536 ∧ b.length > 65536 := by
  rcases Go.Lib.index_spec ((b.take 65536).drop n) [13, 10] with ⟨_, h1⟩ | ⟨j, h1, _⟩
  · cases he : endAt b n with
    | none => exact .inl rfl
    | some e =>
      right
      have hc : isC b e ∧ n ≤ e := by
        unfold endAt at he
        rw [Option.map_eq_some_iff] at he
        obtain ⟨i, hi, rfl⟩ := he
        refine ⟨?_, by omega⟩
        rw [← isC_drop]
        have : ∀ (l : List UInt8) (i : Nat), crlf l = some i → isC l i := by
          intro l
          induction l with
          | nil => intro i h; cases h
          | cons c r ih =>
            intro i h
            unfold crlf at h
            split at h
            · rename_i hc; cases h; exact (isC_zero c r).2 hc
            · rw [Option.map_eq_some_iff] at h
              obtain ⟨j, hj, rfl⟩ := h
              exact (isC_succ c r j).2 (ih j hj)
        exact this _ _ hi
      have hlt := isC_lt hc.1
      refine ⟨e, rfl, ?_, ?_⟩
      · rcases Nat.lt_or_ge 65536 (e + 2) with h | h
        · exact h
        · exfalso
          have h2 : isC ((b.take 65536).drop n) (e - n) := by
            rw [isC_drop, show n + (e - n) = e by omega]
            unfold isC
            rw [List.getElem?_take_of_lt (by omega), List.getElem?_take_of_lt (by omega)]
            exact hc.1
          have h3 := isC_lt h2
          have h4 := h1 (e - n) (by omega)
          rw [(occ_isC _ _).2 h2] at h4
          cases h4
      · rcases Nat.lt_or_ge 65536 b.length with h | h
        · exact h
        · exfalso
          have h2 : isC ((b.take 65536).drop n) (e - n) := by
            rw [isC_drop, show n + (e - n) = e by omega, List.take_of_length_le h]
            exact hc.1
          have h3 := isC_lt h2
          have h4 := h1 (e - n) (by omega)
          rw [(occ_isC _ _).2 h2] at h4
          cases h4
  · omega
/-- .. and then the header's answer is the program's. -/
theorem At.none {b : List UInt8} {n : Nat} {acc : List F} (h : At b n acc) (hi : Go.Lib.index ((b.take 65536).drop n) [13, 10] < 0) : parse b = ([], 0, if b.length > 65536 then 12 else 11) := by
  rcases head_none hi with he | ⟨e, he, h1, h2⟩
  · exact h.more he
  · rw [h.long he h1, if_pos h2]
end Fld
