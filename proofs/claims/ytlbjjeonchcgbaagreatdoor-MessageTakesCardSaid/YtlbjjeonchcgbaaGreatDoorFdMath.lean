/- What lies below, out of the texts of the layers under this one: FdMath, FdMathB, FdMathC, FdMathD, FdMathE, FdMathG. -/
import Derived.Test.YtlbjjeonchcgbaaGreatDoorOctMath
import Derived.Lib.IndexBytes
import Derived.Lib.IndexMore
namespace Fld
open Oct (token value lower trim)

abbrev F := List UInt8 × List UInt8
def right (f : F) : Bool := token f.1 && value f.2
def weight (f : F) : Nat := f.1.length + f.2.length + 4
def line (f : F) : List UInt8 := f.1 ++ [58, 32] ++ f.2 ++ [13, 10]
def lines (fs : List F) : List UInt8 := fs.flatMap line
def print (fs : List F) : List UInt8 := lines fs ++ [13, 10]
def size (fs : List F) : Nat := 2 + (fs.map weight).sum
def allRight (fs : List F) : Bool := fs.all right
def fault (fs : List F) : Int := if allRight fs then (if fs.length > 128 then 13 else if size fs > 65536 then 12 else 0) else 10

theorem size_snoc (fs : List F) (k : Nat) (h : k < fs.length) : size (fs.take (k + 1)) = size (fs.take k) + weight fs[k] := by
  unfold size; rw [List.take_succ_eq_append_getElem h, List.map_append, List.sum_append]
  show 2 + (((fs.take k).map weight).sum + (weight fs[k] + 0)) = _
  omega
theorem size_zero (fs : List F) : size (fs.take 0) = 2 := rfl
theorem size_take (fs : List F) (k : Nat) : size (fs.take k) ≤ size fs := by
  have : size fs = size (fs.take k) + ((fs.drop k).map weight).sum := by
    unfold size
    conv => lhs; rw [← List.take_append_drop k fs, List.map_append, List.sum_append]
    omega
  omega
theorem allRight_snoc (fs : List F) (k : Nat) (h : k < fs.length) : allRight (fs.take (k + 1)) = (allRight (fs.take k) && right fs[k]) := by
  unfold allRight; rw [List.take_succ_eq_append_getElem h, List.all_append]
  show (_ && (right fs[k] && true)) = _
  rw [Bool.and_true]
theorem allRight_miss (fs : List F) (k : Nat) (h : k < fs.length) (hr : right fs[k] = false) : allRight fs = false := by
  unfold allRight; rw [List.all_eq_false]; exact ⟨fs[k], List.getElem_mem h, by simp [hr]⟩
theorem take_whole {α : Type} (fs : List α) (k : Nat) (h : fs.length ≤ k) : fs.take k = fs := List.take_of_length_le h
theorem lines_snoc (fs : List F) (k : Nat) (h : k < fs.length) : lines (fs.take (k + 1)) = lines (fs.take k) ++ line fs[k] := by
  unfold lines; rw [List.take_succ_eq_append_getElem h, List.flatMap_append]
  show _ ++ (line fs[k] ++ []) = _
  rw [List.append_nil]
theorem line_length (f : F) : (line f).length = weight f := by unfold line weight; simp; omega
theorem lines_length (fs : List F) : (lines fs).length + 2 = size fs := by
  unfold lines size
  have : (fs.flatMap line).length = (fs.map weight).sum := by
    rw [List.length_flatMap]; congr 1; apply List.map_congr_left; intro f _; exact line_length f
  omega
theorem print_length (fs : List F) : (print fs).length = size fs := by unfold print; rw [List.length_append, ← lines_length]; rfl
theorem fault_form {fs : List F} (h : allRight fs = false) : fault fs = 10 := by unfold fault; simp [h]
theorem fault_many {fs : List F} (h : allRight fs = true) (hl : 128 < fs.length) : fault fs = 13 := by unfold fault; simp [h, hl]
theorem fault_long {fs : List F} (h : allRight fs = true) (hl : fs.length ≤ 128) (hs : 65536 < size fs) : fault fs = 12 := by unfold fault; simp [h, hs]; omega
theorem fault_ok {fs : List F} (h : allRight fs = true) (hl : fs.length ≤ 128) (hs : size fs ≤ 65536) : fault fs = 0 := by unfold fault; simp [h]; omega
theorem fault_zero {fs : List F} (h : fault fs = 0) : allRight fs = true ∧ fs.length ≤ 128 ∧ size fs ≤ 65536 := by
  unfold fault at h
  split at h
  · rename_i ha
    split at h
    · cases h
    · split at h
      · cases h
      · exact ⟨ha, by omega, by omega⟩
  · cases h

/-! ### lines' ends -/
def isC (l : List UInt8) (i : Nat) : Prop := l[i]? = some 13 ∧ l[i + 1]? = some 10
instance (l : List UInt8) (i : Nat) : Decidable (isC l i) := by unfold isC; infer_instance
def crlf : List UInt8 → Option Nat
  | [] => none
  | c :: r => if c = 13 ∧ r.head? = some 10 then some 0 else (crlf r).map (· + 1)
theorem isC_succ (c : UInt8) (r : List UInt8) (i : Nat) : isC (c :: r) (i + 1) ↔ isC r i := by unfold isC; simp
theorem isC_zero (c : UInt8) (r : List UInt8) : isC (c :: r) 0 ↔ c = 13 ∧ r.head? = some 10 := by
  unfold isC; cases r <;> simp
theorem crlf_some {l : List UInt8} {i : Nat} (h : isC l i) (hn : ∀ j, j < i → ¬ isC l j) : crlf l = some i := by
  induction l generalizing i with
  | nil => unfold isC at h; simp at h
  | cons c r ih =>
    unfold crlf
    match i with
    | 0 => rw [if_pos ((isC_zero c r).1 h)]
    | i + 1 =>
      rw [if_neg (fun e => hn 0 (by omega) ((isC_zero c r).2 e)), ih ((isC_succ c r i).1 h) (fun j hj e => hn (j + 1) (by omega) ((isC_succ c r j).2 e))]
      rfl
theorem crlf_none {l : List UInt8} (hn : ∀ j, ¬ isC l j) : crlf l = none := by
  induction l with
  | nil => rfl
  | cons c r ih =>
    unfold crlf
    rw [if_neg (fun e => hn 0 ((isC_zero c r).2 e)), ih (fun j e => hn (j + 1) ((isC_succ c r j).2 e))]
    rfl
theorem isC_drop (b : List UInt8) (n i : Nat) : isC (b.drop n) i ↔ isC b (n + i) := by
  unfold isC; rw [List.getElem?_drop, List.getElem?_drop, Nat.add_assoc]
theorem isC_lt {l : List UInt8} {i : Nat} (h : isC l i) : i + 1 < l.length := by
  have := h.2; exact (List.getElem?_eq_some_iff.1 this).1
def endAt (b : List UInt8) (n : Nat) : Option Nat := (crlf (b.drop n)).map (n + ·)
theorem endAt_some {b : List UInt8} {n e : Nat} (hne : n ≤ e) (h : isC b e) (hn : ∀ j, n ≤ j → j < e → ¬ isC b j) : endAt b n = some e := by
  unfold endAt
  rw [crlf_some (i := e - n) ((isC_drop b n _).2 (by rwa [show n + (e - n) = e by omega])) (fun j hj hc => hn (n + j) (by omega) (by omega) ((isC_drop b n j).1 hc))]
  simp; omega
theorem endAt_none {b : List UInt8} {n : Nat} (hn : ∀ j, n ≤ j → ¬ isC b j) : endAt b n = none := by
  unfold endAt
  rw [crlf_none (fun j hc => hn (n + j) (by omega) ((isC_drop b n j).1 hc))]; rfl

theorem occ_isC (l : List UInt8) (i : Nat) : Go.Lib.occAt l [13, 10] i = true ↔ isC l i := by
  unfold Go.Lib.occAt isC
  rw [List.isPrefixOf_iff_prefix]
  constructor
  · rintro ⟨t, ht⟩
    have h0 := congrArg (·[0]?) ht
    have h1 := congrArg (·[1]?) ht
    simp at h0 h1
    exact ⟨h0.symm, h1.symm⟩
  · intro ⟨h0, h1⟩
    obtain ⟨k0, e0⟩ := List.getElem?_eq_some_iff.1 h0
    obtain ⟨k1, e1⟩ := List.getElem?_eq_some_iff.1 h1
    rw [List.drop_eq_getElem_cons k0, List.drop_eq_getElem_cons k1, e0, e1]
    exact ⟨_, rfl⟩
end Fld

namespace Fld
open Oct (token value lower trim)

/-- Where the colon stands (the length, if there is none). -/
def colon : List UInt8 → Nat
  | [] => 0
  | c :: r => if c = 58 then 0 else colon r + 1
theorem colon_le (l : List UInt8) : colon l ≤ l.length := by
  induction l with
  | nil => exact Nat.le_refl 0
  | cons c r ih => unfold colon; split <;> simp <;> omega
theorem colon_at : ∀ (l : List UInt8) (i : Nat), (∀ j (h : j < l.length), j < i → l[j] ≠ 58) → (∀ h : i < l.length, l[i] = 58) → i ≤ l.length → colon l = i
  | [], i, _, _, h => by simp at h; subst h; rfl
  | c :: r, 0, _, h2, _ => by unfold colon; rw [if_pos (show c = 58 from h2 (by simp))]
  | c :: r, i + 1, h1, h2, h => by
    unfold colon
    rw [if_neg (show ¬ c = 58 from h1 0 (by simp) (by omega)), colon_at r i (fun j hj hl => by have := h1 (j + 1) (by simpa using hj) (by omega); simpa using this) (fun hl => by have := h2 (by simpa using hl); simpa using this) (by simpa using h)]
theorem colon_index (l : List UInt8) : Go.Lib.indexByte l 58 = if colon l = l.length then -1 else (colon l : Int) := by
  induction l with
  | nil => rfl
  | cons c r ih =>
    have hle := colon_le r
    have he : colon (c :: r) = if c = 58 then 0 else colon r + 1 := by rw [colon]
    have hi : Go.Lib.indexByte (c :: r) 58 = if c == 58 then 0 else if Go.Lib.indexByte r 58 == -1 then -1 else Go.Lib.indexByte r 58 + 1 := by rw [Go.Lib.indexByte]
    rw [he, hi, ih]
    by_cases hc : c = 58
    · subst hc; simp
    · rw [if_neg (by simpa using hc), if_neg hc]
      by_cases hr : colon r = r.length
      · rw [if_pos hr]; simp [hr]
      · rw [if_neg hr]
        have : ((colon r : Int) == -1) = false := beq_eq_false_iff_ne.2 (by omega)
        rw [this]
        simp; omega

/-- The field of a line. -/
def cutField (l : List UInt8) : F := (l.take (colon l), trim (l.drop (colon l + 1)))
def fieldOf (l : List UInt8) : Option F := if colon l = l.length then none else if right (cutField l) then some (cutField l) else none
theorem fieldOf_no {l : List UInt8} (h : colon l = l.length) : fieldOf l = none := by unfold fieldOf; rw [if_pos h]
theorem fieldOf_wrong {l : List UInt8} (h : right (cutField l) = false) : fieldOf l = none := by unfold fieldOf; split <;> simp [h]
theorem fieldOf_yes {l : List UInt8} (h : colon l ≠ l.length) (hr : right (cutField l) = true) : fieldOf l = some (cutField l) := by unfold fieldOf; rw [if_neg h, if_pos hr]
theorem right_empty : right ([], []) = false := rfl
/-- What the program's own reading of a line gives. -/
def readLine (l : List UInt8) : F := if colon l = l.length then ([], []) else cutField l
theorem readLine_no {l : List UInt8} (h : right (readLine l) = false) : fieldOf l = none := by
  unfold readLine at h
  split at h
  · exact fieldOf_no (by assumption)
  · exact fieldOf_wrong h
theorem readLine_yes {l : List UInt8} (h : right (readLine l) = true) : fieldOf l = some (readLine l) := by
  unfold readLine at h ⊢
  split at h
  · rw [right_empty] at h; cases h
  · rename_i hc; rw [if_neg hc]; exact fieldOf_yes hc h

/-- The header: line by line. -/
def go (b : List UInt8) : Nat → Nat → List F → List F × Nat × Int
  | 0, _, _ => ([], 0, 0)
  | k + 1, n, acc => match endAt b n with
    | none => ([], 0, if b.length > 65536 then 12 else 11)
    | some e => if e + 2 > 65536 then ([], 0, 12) else if e = n then (acc, e + 2, 0) else
      match fieldOf ((b.take e).drop n) with
      | none => ([], 0, 10)
      | some f => if acc.length ≥ 128 then ([], 0, 13) else go b k (e + 2) (acc ++ [f])
def parse (b : List UInt8) : List F × Nat × Int := go b (b.length + 1) 0 []
/-- Behind the fields acc, at place n, the header's answer is still the whole's. -/
def At (b : List UInt8) (n : Nat) (acc : List F) : Prop := n ≤ b.length ∧ n ≤ 65536 ∧ acc.length ≤ 128 ∧ acc.length ≤ n ∧ ∃ k, b.length < n + k ∧ go b k n acc = parse b
theorem At.start (b : List UInt8) : At b 0 [] := ⟨Nat.zero_le _, Nat.zero_le _, Nat.zero_le _, Nat.le_refl _, b.length + 1, by omega, rfl⟩
section
variable {b : List UInt8} {n e : Nat} {acc : List F}
theorem At.more (h : At b n acc) (he : endAt b n = none) : parse b = ([], 0, if b.length > 65536 then 12 else 11) := by
  obtain ⟨h1, _, _, _, k, hk, hg⟩ := h
  match k with
  | 0 => omega
  | k + 1 => rw [← hg, go, he]
theorem At.long (h : At b n acc) (he : endAt b n = some e) (hl : e + 2 > 65536) : parse b = ([], 0, 12) := by
  obtain ⟨h1, _, _, _, k, hk, hg⟩ := h
  match k with
  | 0 => omega
  | k + 1 => rw [← hg, go, he]; simp [hl]
theorem At.last (h : At b n acc) (he : endAt b n = some n) (hl : n + 2 ≤ 65536) : parse b = (acc, n + 2, 0) := by
  obtain ⟨h1, _, _, _, k, hk, hg⟩ := h
  match k with
  | 0 => omega
  | k + 1 => rw [← hg, go, he]; simp; omega
theorem At.form (h : At b n acc) (he : endAt b n = some e) (hl : e + 2 ≤ 65536) (hne : e ≠ n) (hf : fieldOf ((b.take e).drop n) = none) : parse b = ([], 0, 10) := by
  obtain ⟨h1, _, _, _, k, hk, hg⟩ := h
  match k with
  | 0 => omega
  | k + 1 => rw [← hg, go, he]; simp only []; rw [if_neg (by omega), if_neg hne, hf]
theorem At.many (h : At b n acc) (he : endAt b n = some e) (hl : e + 2 ≤ 65536) (hne : e ≠ n) {f : F} (hf : fieldOf ((b.take e).drop n) = some f) (hm : acc.length ≥ 128) : parse b = ([], 0, 13) := by
  obtain ⟨h1, _, _, _, k, hk, hg⟩ := h
  match k with
  | 0 => omega
  | k + 1 => rw [← hg, go, he]; simp only []; rw [if_neg (by omega), if_neg hne, hf]; simp only []; rw [if_pos hm]
theorem At.next (h : At b n acc) (he : endAt b n = some e) (hb : e + 2 ≤ b.length) (hn : n ≤ e) (hl : e + 2 ≤ 65536) (hne : e ≠ n) {f : F} (hf : fieldOf ((b.take e).drop n) = some f) (hm : acc.length < 128) : At b (e + 2) (acc ++ [f]) := by
  obtain ⟨h1, h2, h3, h4, k, hk, hg⟩ := h
  match k with
  | 0 => omega
  | k + 1 =>
    refine ⟨hb, hl, by rw [List.length_append]; exact hm, by rw [List.length_append]; show acc.length + 1 ≤ _; omega, k, by omega, ?_⟩
    rw [← hg]
    conv => rhs; rw [go, he]
    simp only []
    rw [if_neg (by omega), if_neg hne, hf]
    simp only []
    rw [if_neg (by omega)]
end

/-! ### where a line ends, as the program asks it: within the first 65536 octets -/
theorem head_some {b : List UInt8} {n : Nat} (_hn : n ≤ b.length) {i : Nat} (hi : Go.Lib.index ((b.take 65536).drop n) [13, 10] = i) : endAt b n = some (n + i) ∧ n + i + 2 ≤ 65536 ∧ n + i + 2 ≤ b.length := by
  rcases Go.Lib.index_spec ((b.take 65536).drop n) [13, 10] with ⟨h1, _⟩ | ⟨j, h1, h2, h3, h4⟩
  · omega
  · obtain rfl : j = i := by omega
    have hc := (occ_isC _ j).1 h3
    have hlt := isC_lt hc
    rw [List.length_drop, List.length_take] at hlt
    have key : ∀ m, m + 1 < 65536 → (isC (b.take 65536) m ↔ isC b m) := by
      intro m hm
      unfold isC
      rw [List.getElem?_take_of_lt (by omega), List.getElem?_take_of_lt (by omega)]
    refine ⟨endAt_some (by omega) ((key _ (by omega)).1 ((isC_drop _ n j).1 hc)) (fun m hm1 hm2 hcm => ?_), by omega, by omega⟩
    have := h4 (m - n) (by omega)
    rw [(occ_isC _ (m - n)).2 ((isC_drop _ n (m - n)).2 (by rw [show n + (m - n) = m by omega]; exact (key m (by omega)).2 hcm))] at this
    cases this
theorem head_none {b : List UInt8} {n : Nat} (hi : Go.Lib.index ((b.take 65536).drop n) [13, 10] < 0) : endAt b n = none ∨ ∃ e, endAt b n = some e ∧ e + 2 > 65536 ∧ b.length > 65536 := by
  rcases Go.Lib.index_spec ((b.take 65536).drop n) [13, 10] with ⟨_, h1⟩ | ⟨j, h1, _⟩
  · cases he : endAt b n with
    | none => exact .inl rfl
    | some e =>
      right
      have hc : isC b e ∧ n ≤ e := by
        unfold endAt at he
        rw [Option.map_eq_some_iff] at he
        obtain ⟨i, hi, rfl⟩ := he
        refine ⟨?_, by omega⟩
        rw [← isC_drop]
        have : ∀ (l : List UInt8) (i : Nat), crlf l = some i → isC l i := by
          intro l
          induction l with
          | nil => intro i h; cases h
          | cons c r ih =>
            intro i h
            unfold crlf at h
            split at h
            · rename_i hc; cases h; exact (isC_zero c r).2 hc
            · rw [Option.map_eq_some_iff] at h
              obtain ⟨j, hj, rfl⟩ := h
              exact (isC_succ c r j).2 (ih j hj)
        exact this _ _ hi
      have hlt := isC_lt hc.1
      refine ⟨e, rfl, ?_, ?_⟩
      · rcases Nat.lt_or_ge 65536 (e + 2) with h | h
        · exact h
        · exfalso
          have h2 : isC ((b.take 65536).drop n) (e - n) := by
            rw [isC_drop, show n + (e - n) = e by omega]
            unfold isC
            rw [List.getElem?_take_of_lt (by omega), List.getElem?_take_of_lt (by omega)]
            exact hc.1
          have h3 := isC_lt h2
          have h4 := h1 (e - n) (by omega)
          rw [(occ_isC _ _).2 h2] at h4
          cases h4
      · rcases Nat.lt_or_ge 65536 b.length with h | h
        · exact h
        · exfalso
          have h2 : isC ((b.take 65536).drop n) (e - n) := by
            rw [isC_drop, show n + (e - n) = e by omega, List.take_of_length_le h]
            exact hc.1
          have h3 := isC_lt h2
          have h4 := h1 (e - n) (by omega)
          rw [(occ_isC _ _).2 h2] at h4
          cases h4
  · omega
/-- .. and then the header's answer is the program's. -/
theorem At.none {b : List UInt8} {n : Nat} {acc : List F} (h : At b n acc) (hi : Go.Lib.index ((b.take 65536).drop n) [13, 10] < 0) : parse b = ([], 0, if b.length > 65536 then 12 else 11) := by
  rcases head_none hi with he | ⟨e, he, h1, h2⟩
  · exact h.more he
  · rw [h.long he h1, if_pos h2]
end Fld

namespace Fld
open Oct (lower)

def named (n : List UInt8) (f : F) : Bool := lower f.1 == lower n
def get (fs : List F) (n : List UInt8) : List (List UInt8) := (fs.filter (named n)).map (·.2)
def without (fs : List F) (n : List UInt8) : List F := fs.filter fun f => !named n f
/-- Fields but those of which the name in small letters is in a set. -/
def drop (fs : List F) (mem : List UInt8 → Bool) : List F := fs.filter fun f => !mem (lower f.1)
theorem fone {α : Type} (p : α → Bool) (a : α) : [a].filter p = if p a then [a] else [] := by cases h : p a <;> simp [h]
theorem get_yes {fs : List F} {n : List UInt8} {k : Nat} (h : k < fs.length) (hn : named n fs[k] = true) : get (fs.take (k + 1)) n = get (fs.take k) n ++ [fs[k].2] := by
  unfold get; rw [List.take_succ_eq_append_getElem h, List.filter_append, List.map_append, fone, if_pos hn]; rfl
theorem get_no {fs : List F} {n : List UInt8} {k : Nat} (h : k < fs.length) (hn : named n fs[k] = false) : get (fs.take (k + 1)) n = get (fs.take k) n := by
  unfold get; rw [List.take_succ_eq_append_getElem h, List.filter_append, List.map_append, fone, hn]; simp
theorem get_zero (fs : List F) (n : List UInt8) : get (fs.take 0) n = [] := rfl
theorem get_length (fs : List F) (n : List UInt8) : (get fs n).length ≤ fs.length := by
  unfold get; rw [List.length_map]; exact List.length_filter_le _ _
theorem get_small {fs : List F} {n : List UInt8} {m : Nat} (h : ∀ f ∈ fs, f.2.length ≤ m) : ∀ l ∈ get fs n, l.length ≤ m := by
  intro l hl
  obtain ⟨f, hf, rfl⟩ := List.mem_map.1 hl
  exact h f (List.mem_filter.1 hf).1
theorem drop_yes {fs : List F} {mem : List UInt8 → Bool} {k : Nat} (h : k < fs.length) (hn : mem (lower fs[k].1) = false) : drop (fs.take (k + 1)) mem = drop (fs.take k) mem ++ [fs[k]] := by
  unfold drop; rw [List.take_succ_eq_append_getElem h, List.filter_append, fone]; simp [hn]
theorem drop_no {fs : List F} {mem : List UInt8 → Bool} {k : Nat} (h : k < fs.length) (hn : mem (lower fs[k].1) = true) : drop (fs.take (k + 1)) mem = drop (fs.take k) mem := by
  unfold drop; rw [List.take_succ_eq_append_getElem h, List.filter_append, fone]; simp [hn]
theorem drop_zero (fs : List F) (mem : List UInt8 → Bool) : drop (fs.take 0) mem = [] := rfl
theorem drop_length (fs : List F) (mem : List UInt8 → Bool) : (drop fs mem).length ≤ fs.length := List.length_filter_le _ _
theorem drop_sub {fs : List F} {mem : List UInt8 → Bool} {f : F} (h : f ∈ drop fs mem) : f ∈ fs := (List.mem_filter.1 h).1
theorem without_drop (fs : List F) (n : List UInt8) : without fs n = drop fs (fun l => l == lower n) := rfl

/-! ### two lists -/
theorem get_append (a b : List F) (n : List UInt8) : get (a ++ b) n = get a n ++ get b n := by unfold get; rw [List.filter_append, List.map_append]
theorem get_without (fs : List F) (n : List UInt8) : get (without fs n) n = [] := by
  unfold get without
  rw [List.filter_filter]
  have : fs.filter (fun f => named n f && !named n f) = [] := by simp
  rw [this]; rfl
theorem without_without (fs : List F) (n : List UInt8) : without (without fs n) n = without fs n := by
  unfold without; rw [List.filter_filter]; simp
theorem without_length (fs : List F) (n : List UInt8) : (without fs n).length + (get fs n).length = fs.length := by
  unfold without get
  rw [List.length_map]
  induction fs with
  | nil => rfl
  | cons f r ih => cases h : named n f <;> simp [h] <;> omega
/-- Without several names: one behind the other. -/
def withoutAll (fs : List F) (ns : List (List UInt8)) : List F := ns.foldl without fs
theorem withoutAll_drop (ns : List (List UInt8)) : ∀ (fs : List F), withoutAll fs ns = drop fs (fun l => (ns.map lower).contains l) := by
  induction ns with
  | nil => intro fs; unfold withoutAll drop; exact (List.filter_eq_self.2 (fun _ _ => rfl)).symm
  | cons n r ih =>
    intro fs
    show withoutAll (without fs n) r = _
    rw [ih, without_drop]
    unfold drop
    rw [List.filter_filter]
    congr 1
    funext f
    show (!(r.map lower).contains (lower f.1) && !(lower f.1 == lower n)) = !(lower n :: r.map lower).contains (lower f.1)
    rw [List.contains_cons]
    cases h : lower f.1 == lower n <;> simp
theorem withoutAll_snoc (fs : List F) (ns : List (List UInt8)) (k : Nat) (h : k < ns.length) : withoutAll fs (ns.take (k + 1)) = without (withoutAll fs (ns.take k)) ns[k] := by
  unfold withoutAll; rw [List.take_succ_eq_append_getElem h, List.foldl_append]; rfl
theorem withoutAll_sub (ns : List (List UInt8)) (fs : List F) {f : F} (h : f ∈ withoutAll fs ns) : f ∈ fs := by
  rw [withoutAll_drop] at h; exact drop_sub h
theorem withoutAll_length (ns : List (List UInt8)) (fs : List F) : (withoutAll fs ns).length ≤ fs.length := by
  rw [withoutAll_drop]; exact drop_length _ _
end Fld

namespace Fld
open Oct (lower)

/-- With one field. -/
def with1 (fs : List F) (m : F) : List F := match fs with
  | [] => [m]
  | f :: r => if named m.1 f then m :: without r m.1 else f :: with1 r m
/-- As the document's own loop gathers it: what has been put out, and whether m has been met. -/
def wstep (m : F) (st : List F × Bool) (f : F) : List F × Bool := if named m.1 f then (if st.2 then st else (st.1 ++ [m], true)) else (st.1 ++ [f], st.2)
def wfold (m : F) (fs : List F) : List F × Bool := fs.foldl (wstep m) ([], false)
theorem wfold_snoc (m : F) (fs : List F) (k : Nat) (h : k < fs.length) : wfold m (fs.take (k + 1)) = wstep m (wfold m (fs.take k)) fs[k] := by
  unfold wfold; rw [List.take_succ_eq_append_getElem h, List.foldl_append]; rfl
theorem wfold_zero (m : F) (fs : List F) : wfold m (fs.take 0) = ([], false) := rfl
theorem wfold_true (m : F) : ∀ (fs : List F) (out : List F), fs.foldl (wstep m) (out, true) = (out ++ without fs m.1, true)
  | [], out => by simp [without]
  | f :: r, out => by
    rw [List.foldl_cons]
    cases h : named m.1 f
    · have e : wstep m (out, true) f = (out ++ [f], true) := by unfold wstep; simp [h]
      have e2 : without (f :: r) m.1 = f :: without r m.1 := by unfold without; rw [List.filter_cons]; simp [h]
      rw [e, e2, wfold_true m r (out ++ [f])]
      simp
    · have e : wstep m (out, true) f = (out, true) := by unfold wstep; simp [h]
      have e2 : without (f :: r) m.1 = without r m.1 := by unfold without; rw [List.filter_cons]; simp [h]
      rw [e, e2, wfold_true m r out]
theorem wfold_false (m : F) : ∀ (fs : List F) (out : List F), (let st := fs.foldl (wstep m) (out, false); if st.2 then st.1 else st.1 ++ [m]) = out ++ with1 fs m
  | [], out => by simp [with1]
  | f :: r, out => by
    rw [List.foldl_cons]
    unfold with1
    cases h : named m.1 f
    · have e : wstep m (out, false) f = (out ++ [f], false) := by unfold wstep; simp [h]
      rw [e]
      have := wfold_false m r (out ++ [f])
      simpa using this
    · have e : wstep m (out, false) f = (out ++ [m], true) := by unfold wstep; simp [h]
      rw [e, wfold_true]
      simp
theorem with1_done {m : F} {fs : List F} (h : (wfold m fs).2 = true) : (wfold m fs).1 = with1 fs m := by
  have := wfold_false m fs []
  unfold wfold at h ⊢
  simp only [h, if_true, List.nil_append] at this
  exact this
theorem with1_not {m : F} {fs : List F} (h : (wfold m fs).2 = false) : (wfold m fs).1 ++ [m] = with1 fs m := by
  have := wfold_false m fs []
  unfold wfold at h ⊢
  simp only [h, List.nil_append] at this
  exact this
theorem wstep_length (m : F) (st : List F × Bool) (f : F) : (wstep m st f).1.length ≤ st.1.length + 1 := by
  unfold wstep; split
  · split <;> simp
  · simp
theorem wfold_length (m : F) : ∀ (fs : List F) (st : List F × Bool), (fs.foldl (wstep m) st).1.length ≤ st.1.length + fs.length
  | [], st => by simp
  | f :: r, st => by
    have h1 := wfold_length m r (wstep m st f)
    have h2 := wstep_length m st f
    rw [List.foldl_cons, List.length_cons]; omega
theorem with1_length (fs : List F) (m : F) : (with1 fs m).length ≤ fs.length + 1 := by
  induction fs with
  | nil => simp [with1]
  | cons f r ih =>
    unfold with1
    split
    · have : (without r m.1).length ≤ r.length := List.length_filter_le _ _
      simp; omega
    · simp; omega
theorem with1_mem {fs : List F} {m f : F} (h : f ∈ with1 fs m) : f = m ∨ f ∈ fs := by
  induction fs with
  | nil => simp [with1] at h; exact .inl h
  | cons g r ih =>
    unfold with1 at h
    split at h
    · rcases List.mem_cons.1 h with h | h
      · exact .inl h
      · exact .inr (List.mem_cons_of_mem _ (List.mem_filter.1 h).1)
    · rcases List.mem_cons.1 h with h | h
      · subst h; exact .inr (by simp)
      · rcases ih h with h | h
        · exact .inl h
        · exact .inr (List.mem_cons_of_mem _ h)
def withAll (fs more : List F) : List F := more.foldl with1 fs
theorem withAll_snoc (fs more : List F) (k : Nat) (h : k < more.length) : withAll fs (more.take (k + 1)) = with1 (withAll fs (more.take k)) more[k] := by
  unfold withAll; rw [List.take_succ_eq_append_getElem h, List.foldl_append]; rfl
theorem withAll_bounds (more : List F) : ∀ fs : List F, (withAll fs more).length ≤ fs.length + more.length ∧ ∀ f ∈ withAll fs more, f ∈ fs ∨ f ∈ more := by
  induction more with
  | nil => intro fs; exact ⟨by simp [withAll], fun f h => .inl h⟩
  | cons m r ih =>
    intro fs
    have h1 := ih (with1 fs m)
    have h2 := with1_length fs m
    refine ⟨by show (withAll (with1 fs m) r).length ≤ _; rw [List.length_cons]; omega, fun f hf => ?_⟩
    rcases h1.2 f hf with h | h
    · rcases with1_mem h with h | h
      · subst h; exact .inr (by simp)
      · exact .inl h
    · exact .inr (List.mem_cons_of_mem _ h)

/-! ### as the program goes: over both lists, the last one of each name -/
/-- The last field of a name (in small letters). -/
def lastOf : List F → List UInt8 → Option F
  | [], _ => none
  | f :: r, k => match lastOf r k with
    | some g => some g
    | none => if lower f.1 = k then some f else none
theorem lastOf_key : ∀ {l : List F} {k : List UInt8} {g : F}, lastOf l k = some g → lower g.1 = k
  | [], _, _, h => by cases h
  | f :: r, k, g, h => by
    unfold lastOf at h
    cases h' : lastOf r k with
    | some g' => rw [h'] at h; cases h; exact lastOf_key h'
    | none =>
      rw [h'] at h
      simp only [] at h
      split at h
      · cases h; assumption
      · cases h
theorem lastOf_snoc (l : List F) (m : F) (k : List UInt8) : lastOf (l ++ [m]) k = if lower m.1 = k then some m else lastOf l k := by
  induction l with
  | nil => simp [lastOf]
  | cons f r ih =>
    show lastOf (f :: (r ++ [m])) k = _
    unfold lastOf
    rw [ih]
    by_cases h : lower m.1 = k
    · rw [if_pos h, if_pos h]
    · rw [if_neg h, if_neg h]
/-- What is put out for a field whose name has not been placed. -/
def walk (more : List F) : List F → List (List UInt8) → List F
  | [], _ => []
  | f :: r, pl => if pl.contains (lower f.1) then walk more r pl else match lastOf more (lower f.1) with
    | some g => g :: walk more r (lower f.1 :: pl)
    | none => f :: walk more r pl

/-- m's name is placed: its fields are left out. -/
theorem walk_placed (ms : List F) (m : F) : ∀ (l : List F) (pl pl' : List (List UInt8)), pl'.contains (lower m.1) = true → (∀ k, k ≠ lower m.1 → pl'.contains k = pl.contains k) →
    walk (ms ++ [m]) (l ++ [m]) pl' = without (walk ms l pl) m.1
  | [], pl, pl', h, _ => by simp only [List.nil_append, walk, h, if_true]; rfl
  | f :: r, pl, pl', h, he => by
    show walk (ms ++ [m]) (f :: (r ++ [m])) pl' = _
    unfold walk
    by_cases hf : lower f.1 = lower m.1
    · rw [hf, h, if_pos rfl]
      by_cases hp : pl.contains (lower m.1) = true
      · rw [if_pos hp]; exact walk_placed ms m r pl pl' h he
      · rw [if_neg hp]
        cases hl : lastOf ms (lower m.1) with
        | some g =>
          have hg := lastOf_key hl
          have e : without (g :: walk ms r (lower m.1 :: pl)) m.1 = without (walk ms r (lower m.1 :: pl)) m.1 := by
            unfold without named; rw [List.filter_cons]; simp [hg]
          simp only []
          rw [e]
          exact walk_placed ms m r (lower m.1 :: pl) pl' h (fun k hk => by rw [he k hk, List.contains_cons]; simp [hk])
        | none =>
          have e : without (f :: walk ms r pl) m.1 = without (walk ms r pl) m.1 := by
            unfold without named; rw [List.filter_cons]; simp [hf]
          simp only []
          rw [e]
          exact walk_placed ms m r pl pl' h he
    · rw [he _ hf]
      by_cases hp : pl.contains (lower f.1) = true
      · rw [if_pos hp, if_pos hp]; exact walk_placed ms m r pl pl' h he
      · rw [if_neg hp, if_neg hp, lastOf_snoc, if_neg (fun e => hf e.symm)]
        cases hl : lastOf ms (lower f.1) with
        | some g =>
          have hg := lastOf_key hl
          have e : without (g :: walk ms r (lower f.1 :: pl)) m.1 = g :: without (walk ms r (lower f.1 :: pl)) m.1 := by
            unfold without named; rw [List.filter_cons]; simp [hg, hf]
          simp only []
          rw [e]
          congr 1
          exact walk_placed ms m r (lower f.1 :: pl) (lower f.1 :: pl') (by rw [List.contains_cons, h]; simp) (fun k hk => by rw [List.contains_cons, List.contains_cons, he k hk])
        | none =>
          have e : without (f :: walk ms r pl) m.1 = f :: without (walk ms r pl) m.1 := by
            unfold without named; rw [List.filter_cons]; simp [hf]
          simp only []
          rw [e]
          congr 1
          exact walk_placed ms m r pl pl' h he
/-- m's name isn't placed: it stands where its name is met first, or else behind. -/
theorem walk_with1 (ms : List F) (m : F) : ∀ (l : List F) (pl pl' : List (List UInt8)), pl'.contains (lower m.1) = false → pl.contains (lower m.1) = false → (∀ k, pl'.contains k = pl.contains k) →
    walk (ms ++ [m]) (l ++ [m]) pl' = with1 (walk ms l pl) m
  | [], pl, pl', h, _, _ => by
    simp only [List.nil_append, walk, h, lastOf_snoc, if_true]
    rfl
  | f :: r, pl, pl', h, h', he => by
    show walk (ms ++ [m]) (f :: (r ++ [m])) pl' = _
    unfold walk
    rw [he]
    by_cases hf : lower f.1 = lower m.1
    · rw [hf, h', lastOf_snoc, if_pos rfl]
      simp only [Bool.false_eq_true, if_false]
      have hput : (lower m.1 :: pl').contains (lower m.1) = true := by rw [List.contains_cons]; simp
      cases hl : lastOf ms (lower m.1) with
      | some g =>
        have hg := lastOf_key hl
        have e : with1 (g :: walk ms r (lower m.1 :: pl)) m = m :: without (walk ms r (lower m.1 :: pl)) m.1 := by
          rw [with1]; unfold named; simp [hg]
        simp only []
        rw [e]
        congr 1
        exact walk_placed ms m r (lower m.1 :: pl) (lower m.1 :: pl') hput (fun k _ => by rw [List.contains_cons, List.contains_cons, he k])
      | none =>
        have e : with1 (f :: walk ms r pl) m = m :: without (walk ms r pl) m.1 := by
          rw [with1]; unfold named; simp [hf]
        simp only []
        rw [e]
        congr 1
        exact walk_placed ms m r pl (lower m.1 :: pl') hput (fun k hk => by rw [List.contains_cons, he k]; simp [hk])
    · by_cases hp : pl.contains (lower f.1) = true
      · rw [if_pos hp, if_pos hp]; exact walk_with1 ms m r pl pl' h h' he
      · have hmf : ¬ lower m.1 = lower f.1 := fun e => hf e.symm
        rw [if_neg hp, if_neg hp, lastOf_snoc, if_neg hmf]
        cases hl : lastOf ms (lower f.1) with
        | some g =>
          have hg := lastOf_key hl
          have e : with1 (g :: walk ms r (lower f.1 :: pl)) m = g :: with1 (walk ms r (lower f.1 :: pl)) m := by
            rw [with1]; unfold named; simp [hg, hf]
          simp only []
          rw [e]
          congr 1
          exact walk_with1 ms m r (lower f.1 :: pl) (lower f.1 :: pl') (by rw [List.contains_cons, h]; simp [hmf]) (by rw [List.contains_cons, h']; simp [hmf]) (fun k => by rw [List.contains_cons, List.contains_cons, he k])
        | none =>
          have e : with1 (f :: walk ms r pl) m = f :: with1 (walk ms r pl) m := by
            rw [with1]; unfold named; simp [hf]
          simp only []
          rw [e]
          congr 1
          exact walk_with1 ms m r pl pl' h h' he
theorem walk_none : ∀ (l : List F) (pl : List (List UInt8)), (∀ f ∈ l, pl.contains (lower f.1) = false) → walk [] l pl = l
  | [], _, _ => rfl
  | f :: r, pl, h => by
    unfold walk
    rw [h f (by simp)]
    simp only [Bool.false_eq_true, if_false, lastOf]
    rw [walk_none r pl (fun g hg => h g (List.mem_cons_of_mem _ hg))]
/-- The program's way is the document's. -/
theorem walk_withAll (fs more : List F) : walk more (fs ++ more) [] = withAll fs more := by
  suffices h : ∀ k, k ≤ more.length → walk (more.take k) (fs ++ more.take k) [] = withAll fs (more.take k) by
    have := h more.length (Nat.le_refl _)
    rwa [List.take_length] at this
  intro k
  induction k with
  | zero => intro _; simp only [List.take_zero, List.append_nil]; rw [walk_none fs [] (fun _ _ => rfl)]; rfl
  | succ k ih =>
    intro hk
    rw [withAll_snoc fs more k hk, ← ih (by omega), List.take_succ_eq_append_getElem hk, ← List.append_assoc]
    exact walk_with1 _ _ _ [] [] rfl rfl (fun _ => rfl)
end Fld

namespace Fld
open Oct (lower)

/-- Where the last field of a name stands among the first k of more. -/
def lookAt (more : List F) : Nat → List UInt8 → Option Int
  | 0, _ => none
  | k + 1, l => match more[k]? with
    | some f => if l = lower f.1 then some (k : Int) else lookAt more k l
    | none => lookAt more k l
theorem lookAt_succ (more : List F) (k : Nat) (h : k < more.length) (l : List UInt8) : lookAt more (k + 1) l = if l = lower more[k].1 then some (k : Int) else lookAt more k l := by
  rw [lookAt, List.getElem?_eq_getElem h]
theorem lookAt_spec (more : List F) (l : List UInt8) : ∀ k, k ≤ more.length → (∀ i, lookAt more k l = some i → ∃ (j : Nat) (h : j < more.length), i = j ∧ lastOf (more.take k) l = some more[j]) ∧ (lookAt more k l = none → lastOf (more.take k) l = none)
  | 0, _ => ⟨fun _ h => (by cases h), fun _ => rfl⟩
  | k + 1, hk => by
    have ih := lookAt_spec more l k (by omega)
    rw [lookAt_succ more k hk, List.take_succ_eq_append_getElem hk, lastOf_snoc]
    by_cases h : l = lower more[k].1
    · rw [if_pos h, if_pos h.symm]
      exact ⟨fun i hi => ⟨k, hk, by cases hi; rfl, rfl⟩, fun h => by cases h⟩
    · rw [if_neg h, if_neg (fun e => h e.symm)]
      exact ih
theorem lookAt_some {more : List F} {l : List UInt8} {g : F} (h : lastOf more l = some g) : ∃ (j : Nat) (hj : j < more.length), lookAt more more.length l = some (j : Int) ∧ more[j] = g := by
  have hs := lookAt_spec more l more.length (Nat.le_refl _)
  rw [List.take_length] at hs
  cases he : lookAt more more.length l with
  | none => rw [hs.2 he] at h; cases h
  | some i =>
    obtain ⟨j, hj, rfl, h2⟩ := hs.1 i he
    rw [h] at h2
    exact ⟨j, hj, rfl, (Option.some.inj h2).symm⟩
theorem lookAt_none {more : List F} {l : List UInt8} (h : lastOf more l = none) : lookAt more more.length l = none := by
  have hs := lookAt_spec more l more.length (Nat.le_refl _)
  rw [List.take_length] at hs
  cases he : lookAt more more.length l with
  | none => rfl
  | some i =>
    obtain ⟨j, hj, rfl, h2⟩ := hs.1 i he
    rw [h] at h2; cases h2
theorem lastOf_mem : ∀ {l : List F} {k : List UInt8} {g : F}, lastOf l k = some g → g ∈ l
  | [], _, _, h => by cases h
  | f :: r, k, g, h => by
    unfold lastOf at h
    cases h' : lastOf r k with
    | some g' => rw [h'] at h; cases h; exact List.mem_cons_of_mem _ (lastOf_mem h')
    | none =>
      rw [h'] at h
      simp only [] at h
      split at h
      · cases h; simp
      · cases h

def wk (more : List F) (st : List F × List (List UInt8)) (f : F) : List F × List (List UInt8) :=
  if st.2.contains (lower f.1) then st else match lastOf more (lower f.1) with
    | some g => (st.1 ++ [g], lower f.1 :: st.2)
    | none => (st.1 ++ [f], st.2)
def wkf (more l : List F) : List F × List (List UInt8) := l.foldl (wk more) ([], [])
theorem wkf_snoc (more l : List F) (k : Nat) (h : k < l.length) : wkf more (l.take (k + 1)) = wk more (wkf more (l.take k)) l[k] := by
  unfold wkf; rw [List.take_succ_eq_append_getElem h, List.foldl_append]; rfl
theorem wkf_walk (more : List F) : ∀ (l : List F) (out : List F) (pl : List (List UInt8)), (l.foldl (wk more) (out, pl)).1 = out ++ walk more l pl
  | [], out, pl => by simp [walk]
  | f :: r, out, pl => by
    rw [List.foldl_cons]
    unfold walk wk
    by_cases h : pl.contains (lower f.1) = true
    · rw [if_pos h, if_pos h]; exact wkf_walk more r out pl
    · rw [if_neg h, if_neg h]
      cases hl : lastOf more (lower f.1) with
      | some g => simp only []; have := wkf_walk more r (out ++ [g]) (lower f.1 :: pl); rw [List.append_assoc] at this; exact this
      | none => simp only []; have := wkf_walk more r (out ++ [f]) pl; rw [List.append_assoc] at this; exact this
theorem wkf_all (fs more : List F) : (wkf more (fs ++ more)).1 = withAll fs more := by
  unfold wkf; rw [wkf_walk, walk_withAll]; rfl
theorem wk_length (more : List F) (st : List F × List (List UInt8)) (f : F) : (wk more st f).1.length ≤ st.1.length + 1 := by
  unfold wk; split
  · omega
  · split <;> simp
theorem wkf_length (more : List F) : ∀ (l : List F) (st : List F × List (List UInt8)), (l.foldl (wk more) st).1.length ≤ st.1.length + l.length
  | [], st => by simp
  | f :: r, st => by
    have h1 := wkf_length more r (wk more st f)
    have h2 := wk_length more st f
    rw [List.foldl_cons, List.length_cons]; omega
theorem wk_placed {more : List F} {st : List F × List (List UInt8)} {f : F} (h : st.2.contains (lower f.1) = true) : wk more st f = st := by unfold wk; rw [if_pos h]
theorem wk_some {more : List F} {st : List F × List (List UInt8)} {f g : F} (h : st.2.contains (lower f.1) = false) (hl : lastOf more (lower f.1) = some g) : wk more st f = (st.1 ++ [g], lower f.1 :: st.2) := by unfold wk; rw [h, hl]; rfl
theorem wk_none {more : List F} {st : List F × List (List UInt8)} {f : F} (h : st.2.contains (lower f.1) = false) (hl : lastOf more (lower f.1) = none) : wk more st f = (st.1 ++ [f], st.2) := by unfold wk; rw [h, hl]; rfl
end Fld

namespace Fld
open Oct (token value lower trim)

theorem right_tok {f : F} (h : right f = true) : token f.1 = true ∧ value f.2 = true := by
  unfold right at h; simpa using h
theorem tch_not (c : UInt8) (h : Oct.tch c = true) : c ≠ 13 ∧ c ≠ 58 := by
  have := Oct.all_octets (fun c => !Oct.tch c || (c != 13 && c != 58)) (by decide +kernel) c
  rw [h] at this
  simpa using this
theorem plain_not (c : UInt8) (h : Oct.plain c = true) : c ≠ 13 := by
  have := Oct.all_octets (fun c => !Oct.plain c || c != 13) (by decide +kernel) c
  rw [h] at this
  simpa using this
theorem value_all {v : List UInt8} (h : value v = true) : (∀ c ∈ v, Oct.plain c = true) ∧ trim v = v := by
  unfold value at h
  simp only [Bool.and_eq_true, List.all_eq_true, beq_iff_eq] at h
  exact h
/-- The octets of a line ahead of its end. -/
def body (f : F) : List UInt8 := f.1 ++ [58, 32] ++ f.2
theorem line_body (f : F) : line f = body f ++ [13, 10] := rfl
theorem body_no {f : F} (h : right f = true) : ∀ c ∈ body f, c ≠ 13 := by
  obtain ⟨h1, h2⟩ := right_tok h
  obtain ⟨h2, _⟩ := value_all h2
  intro c hc
  unfold body at hc
  simp only [List.mem_append, List.mem_cons, List.not_mem_nil, or_false] at hc
  rcases hc with (hc | rfl | rfl) | hc
  · exact (tch_not c ((Oct.token_all _ h1).2 c hc)).1
  · decide
  · decide
  · exact plain_not c (h2 c hc)
theorem body_length (f : F) : (body f).length + 2 = weight f := by unfold body weight; simp; omega
theorem crlf_body : ∀ (b r : List UInt8), (∀ c ∈ b, c ≠ 13) → crlf (b ++ 13 :: 10 :: r) = some b.length
  | [], r, _ => rfl
  | c :: b, r, h => by
    show crlf (c :: (b ++ 13 :: 10 :: r)) = _
    unfold crlf
    rw [if_neg (fun e => h c (by simp) e.1), crlf_body b r (fun d hd => h d (List.mem_cons_of_mem _ hd))]
    rfl
theorem endAt_body (p b r : List UInt8) (h : ∀ c ∈ b, c ≠ 13) : endAt (p ++ (b ++ 13 :: 10 :: r)) p.length = some (p.length + b.length) := by
  unfold endAt
  rw [List.drop_left, crlf_body b r h]; rfl
theorem colon_body {f : F} (h : right f = true) : colon (body f) = f.1.length := by
  have key : ∀ (n r : List UInt8), (∀ c ∈ n, c ≠ 58) → colon (n ++ 58 :: r) = n.length := by
    intro n r
    induction n with
    | nil => intro _; rfl
    | cons c n ih =>
      intro hn
      show colon (c :: (n ++ 58 :: r)) = _
      unfold colon
      rw [if_neg (hn c (by simp)), ih (fun d hd => hn d (List.mem_cons_of_mem _ hd))]; rfl
  have e : body f = f.1 ++ 58 :: (32 :: f.2) := by unfold body; simp
  rw [e]
  exact key _ _ (fun c hc => (tch_not c ((Oct.token_all _ (right_tok h).1).2 c hc)).2)
theorem fieldOf_body {f : F} (h : right f = true) : fieldOf (body f) = some f := by
  have hc := colon_body h
  have hv := (value_all (right_tok h).2).2
  have e : cutField (body f) = f := by
    unfold cutField
    rw [hc]
    have e1 : (body f).take f.1.length = f.1 := by unfold body; rw [List.append_assoc, List.take_left]
    have e2 : (body f).drop (f.1.length + 1) = [32] ++ f.2 := by
      have : body f = (f.1 ++ [58]) ++ ([32] ++ f.2) := by unfold body; simp
      rw [this, show f.1.length + 1 = (f.1 ++ [58]).length by simp, List.drop_left]
    rw [e1, e2]
    have := Oct.trim_blanks [32] f.2 [] (by decide) (by decide)
    rw [List.append_nil] at this
    rw [this, hv]
  rw [fieldOf_yes (by rw [hc, ← body_length' f]; omega) (by rw [e]; exact h), e]
where
  body_length' (f : F) : f.1.length + 2 + f.2.length = (body f).length := by unfold body; simp; omega
/-- One line read. -/
theorem go_line (p r : List UInt8) {f : F} (h : right f = true) (k : Nat) (acc : List F) (hl : p.length + weight f ≤ 65536) (ha : acc.length < 128) :
    go (p ++ (line f ++ r)) (k + 1) p.length acc = go (p ++ (line f ++ r)) k (p.length + weight f) (acc ++ [f]) := by
  have e : p ++ (line f ++ r) = p ++ (body f ++ 13 :: 10 :: r) := by rw [line_body]; simp
  have hw := body_length f
  have he := endAt_body p (body f) r (body_no h)
  have hb : ((p ++ (body f ++ 13 :: 10 :: r)).take (p.length + (body f).length)).drop p.length = body f := by
    rw [List.take_length_add_append, List.drop_left, List.take_left]
  have hpos : 0 < (body f).length := by unfold body; simp; omega
  rw [e, go, he]
  simp only []
  rw [if_neg (by omega), if_neg (by omega), hb, fieldOf_body h]
  simp only []
  rw [if_neg (by omega), show p.length + (body f).length + 2 = p.length + weight f by omega]
theorem go_many (p r : List UInt8) {f : F} (h : right f = true) (k : Nat) (acc : List F) (hl : p.length + weight f ≤ 65536) (ha : 128 ≤ acc.length) :
    go (p ++ (line f ++ r)) (k + 1) p.length acc = ([], 0, 13) := by
  have e : p ++ (line f ++ r) = p ++ (body f ++ 13 :: 10 :: r) := by rw [line_body]; simp
  have hw := body_length f
  have he := endAt_body p (body f) r (body_no h)
  have hb : ((p ++ (body f ++ 13 :: 10 :: r)).take (p.length + (body f).length)).drop p.length = body f := by
    rw [List.take_length_add_append, List.drop_left, List.take_left]
  have hpos : 0 < (body f).length := by unfold body; simp; omega
  rw [e, go, he]
  simp only []
  rw [if_neg (by omega), if_neg (by omega), hb, fieldOf_body h]
  simp only []
  rw [if_pos ha]
theorem go_long (p r : List UInt8) {f : F} (h : right f = true) (k : Nat) (acc : List F) (hl : 65536 < p.length + weight f) :
    go (p ++ (line f ++ r)) (k + 1) p.length acc = ([], 0, 12) := by
  have e : p ++ (line f ++ r) = p ++ (body f ++ 13 :: 10 :: r) := by rw [line_body]; simp
  have hw := body_length f
  rw [e, go, endAt_body p (body f) r (body_no h)]
  simp only []
  rw [if_pos (by omega)]
theorem go_end (p r : List UInt8) (k : Nat) (acc : List F) (hl : p.length + 2 ≤ 65536) : go (p ++ (13 :: 10 :: r)) (k + 1) p.length acc = (acc, p.length + 2, 0) := by
  have he := endAt_body p [] r (fun c hc => by cases hc)
  rw [List.nil_append, List.length_nil, Nat.add_zero] at he
  rw [go, he]
  simp only []
  rw [if_neg (by omega), if_pos trivial]
theorem go_end_long (p r : List UInt8) (k : Nat) (acc : List F) (hl : 65536 < p.length + 2) : go (p ++ (13 :: 10 :: r)) (k + 1) p.length acc = ([], 0, 12) := by
  have he := endAt_body p [] r (fun c hc => by cases hc)
  rw [List.nil_append, List.length_nil, Nat.add_zero] at he
  rw [go, he]
  simp only []
  rw [if_pos (by omega)]
/-- Right lines, and what comes behind. -/
theorem go_lines (r : List UInt8) : ∀ (fs : List F) (p : List UInt8) (k : Nat) (acc : List F), allRight fs = true → p.length + (fs.map weight).sum ≤ 65536 → acc.length + fs.length ≤ 128 →
    go (p ++ (lines fs ++ r)) (k + fs.length) p.length acc = go (p ++ (lines fs ++ r)) k (p.length + (fs.map weight).sum) (acc ++ fs)
  | [], p, k, acc, _, _, _ => by simp
  | f :: fs, p, k, acc, h, hs, ha => by
    have hr : right f = true ∧ allRight fs = true := by unfold allRight at h ⊢; simpa using h
    simp only [List.map_cons, List.sum_cons] at hs
    simp only [List.length_cons] at ha
    have e : p ++ (lines (f :: fs) ++ r) = p ++ (line f ++ (lines fs ++ r)) := by unfold lines; simp
    have e2 : p ++ (line f ++ (lines fs ++ r)) = (p ++ line f) ++ (lines fs ++ r) := by simp
    have e3 : (p ++ line f).length = p.length + weight f := by rw [List.length_append, line_length]
    rw [e, List.length_cons, ← Nat.add_assoc, go_line p _ hr.1 _ acc (by omega) (by omega), e2, ← e3, go_lines r fs (p ++ line f) k (acc ++ [f]) hr.2 (by rw [e3]; omega) (by rw [List.length_append]; simp; omega)]
    simp only [List.map_cons, List.sum_cons, e3, List.append_assoc, List.singleton_append, Nat.add_assoc]
theorem go_lines_many (r : List UInt8) : ∀ (fs : List F) (p : List UInt8) (k : Nat) (acc : List F), allRight fs = true → p.length + (fs.map weight).sum ≤ 65536 → acc.length ≤ 128 → 128 < acc.length + fs.length →
    go (p ++ (lines fs ++ r)) (k + fs.length) p.length acc = ([], 0, 13)
  | [], p, k, acc, _, _, h1, h2 => by simp at h2; omega
  | f :: fs, p, k, acc, h, hs, h1, h2 => by
    have hr : right f = true ∧ allRight fs = true := by unfold allRight at h ⊢; simpa using h
    simp only [List.map_cons, List.sum_cons] at hs
    simp only [List.length_cons] at h2
    have e : p ++ (lines (f :: fs) ++ r) = p ++ (line f ++ (lines fs ++ r)) := by unfold lines; simp
    rw [e, List.length_cons, ← Nat.add_assoc]
    by_cases ha : 128 ≤ acc.length
    · exact go_many p _ hr.1 _ acc (by omega) ha
    · have e2 : p ++ (line f ++ (lines fs ++ r)) = (p ++ line f) ++ (lines fs ++ r) := by simp
      have e3 : (p ++ line f).length = p.length + weight f := by rw [List.length_append, line_length]
      rw [go_line p _ hr.1 _ acc (by omega) (by omega), e2, ← e3]
      exact go_lines_many r fs (p ++ line f) k (acc ++ [f]) hr.2 (by rw [e3]; omega) (by rw [List.length_append]; simp; omega) (by rw [List.length_append]; simp; omega)
theorem sum_le (fs : List F) : fs.length ≤ (fs.map weight).sum := by
  induction fs with
  | nil => simp
  | cons f r ih => simp only [List.map_cons, List.sum_cons, List.length_cons]; unfold weight at *; omega
theorem lines_sum (fs : List F) : (lines fs).length = (fs.map weight).sum := by have := lines_length fs; unfold size at this; omega
/-- What is written is read, whatever stands behind. -/
theorem parse_print {fs : List F} (h : fault fs = 0) (t : List UInt8) : parse (print fs ++ t) = (fs, (print fs).length, 0) := by
  obtain ⟨h1, h2, h3⟩ := fault_zero h
  have hs := lines_sum fs
  have hsz : size fs = 2 + (fs.map weight).sum := rfl
  have e : print fs ++ t = [] ++ (lines fs ++ (13 :: 10 :: t)) := by unfold print; simp
  have hle := sum_le fs
  unfold parse
  rw [e]
  have hk : ∃ k, ([] ++ (lines fs ++ (13 :: 10 :: t)) : List UInt8).length + 1 = (k + 1) + fs.length := ⟨(lines fs).length + t.length + 2 - fs.length, by simp; omega⟩
  obtain ⟨k, hk⟩ := hk
  rw [hk]
  have := go_lines (13 :: 10 :: t) fs [] (k + 1) [] h1 (by simp; omega) (by simp; omega)
  rw [List.length_nil] at this
  rw [this, List.nil_append, List.nil_append, Nat.zero_add, ← hs]
  have := go_end (lines fs) t k fs (by omega)
  rw [this]
  unfold print; simp
theorem parse_many {fs : List F} (h : allRight fs = true) (hl : 128 < fs.length) (hs : (fs.map weight).sum ≤ 65536) (t : List UInt8) : parse (lines fs ++ t) = ([], 0, 13) := by
  have hle := sum_le fs
  have hls := lines_sum fs
  unfold parse
  obtain ⟨k, hk⟩ : ∃ k, (lines fs ++ t).length + 1 = k + fs.length := ⟨(lines fs ++ t).length + 1 - fs.length, by rw [List.length_append]; omega⟩
  rw [hk]
  have := go_lines_many t fs [] k [] h (by simp; omega) (by simp) (by simp; omega)
  rw [List.nil_append, List.length_nil] at this
  exact this
/-- One field that is too long. -/
theorem parse_long {f : F} (h : right f = true) (hs : 65536 < weight f + 2) : parse (line f ++ [13, 10]) = ([], 0, 12) := by
  unfold parse
  have e : line f ++ [13, 10] = [] ++ (line f ++ [13, 10]) := rfl
  have hll : (line f ++ [13, 10]).length = weight f + 2 := by rw [List.length_append, line_length]; rfl
  rw [hll, show weight f + 2 + 1 = (weight f + 1 + 1) + 1 by omega, e]
  by_cases hw : weight f ≤ 65536
  · have := go_line [] [13, 10] h (weight f + 1 + 1) [] (by simp; omega) (by simp)
    rw [List.length_nil] at this
    rw [this]
    have e2 : ([] ++ (line f ++ [13, 10]) : List UInt8) = line f ++ 13 :: 10 :: [] := rfl
    have e3 : 0 + weight f = (line f).length := by rw [line_length]; omega
    rw [e2, e3]
    exact go_end_long (line f) [] _ _ (by rw [line_length]; omega)
  · have := go_long [] [13, 10] h (weight f + 1 + 1) [] (by simp; omega)
    rw [List.length_nil] at this
    exact this
/-- No line's end. -/
theorem parse_none {b : List UInt8} (h : ∀ c ∈ b, c ≠ 13) (hl : b.length ≤ 65536) : parse b = ([], 0, 11) := by
  have hn : endAt b 0 = none := endAt_none (fun j _ hc => by
    have := hc.1
    obtain ⟨hj, he⟩ := List.getElem?_eq_some_iff.1 this
    exact h _ (List.getElem_mem hj) he)
  unfold parse
  rw [go, hn]
  simp only []
  rw [if_neg (by omega)]
end Fld
