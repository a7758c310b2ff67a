/- The plain mathematics of package date: the library's fields of an ASCII text are its words. -/
import Derived.Test.YtlmcolpoaedclaaDoorDtMathB
import Derived.Lib.FieldsP
import Derived.Laws.RangeString
namespace Dt
open Go

/-- Is a rune a mark between words? -/
def sepR (n : Nat) : Bool := n == 32 || (n == 44 || (n == 45 || n == 58))
theorem sepR_c (c : UInt8) : sepR c.toNat = sep c := by
  unfold sepR sep
  have h (k : UInt8) (n : Nat) (e : k.toNat = n) : (c.toNat == n) = (c == k) := by
    rw [Bool.eq_iff_iff, beq_iff_eq, beq_iff_eq, ← UInt8.toNat_inj, e]
  rw [h 32 32 rfl, h 44 44 rfl, h 45 45 rfl, h 58 58 rfl]
theorem ext_list (s : ByteArray) (f k : Nat) : (s.extract f k).data.toList = (s.data.toList.take k).drop f := by
  simp [ByteArray.data_extract, List.drop_take]
/-- The field under way. -/
def cur (l : List UInt8) (pos : Nat) : Option Nat → List UInt8
  | none => []
  | some a => (l.take pos).drop a

theorem spans_words (s : ByteArray) (ha : ascii s.data.toList = true) : ∀ (f pos : Nat) (st : Option Nat) (acc : List (Nat × Nat)), s.size ≤ pos + f → pos ≤ s.size → (∀ a, st = some a → a < pos) →
    (Lib.closeSpans s (Lib.spansFromP sepR s f pos st acc)).map (fun x => (s.extract x.1 x.2).data.toList) = acc.map (fun x => (s.extract x.1 x.2).data.toList) ++ wordsFrom (s.data.toList.drop pos) (cur s.data.toList pos st) := by
  have hsz : s.data.toList.length = s.size := by rw [ByteArray.size]; simp
  have hend : ∀ (f : Nat) (st : Option Nat) (acc : List (Nat × Nat)), (∀ a, st = some a → a < s.size) →
      (Lib.closeSpans s (Lib.spansFromP sepR s f s.size st acc)).map (fun x => (s.extract x.1 x.2).data.toList) = acc.map (fun x => (s.extract x.1 x.2).data.toList) ++ wordsFrom (s.data.toList.drop s.size) (cur s.data.toList s.size st) := by
    intro f st acc hst
    rw [Lib.spansFromP_end _ _ _ _ _ _ (by omega), List.drop_of_length_le (by omega)]
    cases st with
    | none => simp [Lib.closeSpans, cur, wordsFrom]
    | some a =>
      have := hst a rfl
      have hne : cur s.data.toList s.size (some a) ≠ [] := by intro e; have := congrArg List.length e; simp [cur] at this; omega
      simp only [Lib.closeSpans, wordsFrom, List.map_append, List.map_cons, List.map_nil, ext_list]
      rw [if_neg hne]
      rfl
  intro f
  induction f with
  | zero =>
    intro pos st acc h0 h1 hst
    obtain rfl : pos = s.size := by omega
    exact hend 0 st acc hst
  | succ f ih =>
    intro pos st acc h0 h1 hst
    by_cases hp : pos < s.size
    · have hc : s[pos].toNat < 128 := by
        have := List.all_eq_true.1 ha s[pos] (by
          show s.data.toList[pos]'(by omega) ∈ s.data.toList
          exact List.getElem_mem _)
        simpa using this
      have hd := decode_ascii s pos hp hc
      have hdrop : s.data.toList.drop pos = s[pos] :: s.data.toList.drop (pos + 1) := by
        rw [List.drop_eq_getElem_cons (by omega)]; rfl
      have htake : s.data.toList.take (pos + 1) = s.data.toList.take pos ++ [s[pos]] := by
        rw [List.take_succ_eq_append_getElem (by omega)]; rfl
      have hlt : (s.data.toList.take pos).length = pos := by rw [List.length_take]; omega
      simp only [Lib.spansFromP, hp, if_true, hd, sepR_c]
      rw [hdrop]
      cases hs : sep s[pos]
      · rw [if_neg (by decide)]
        simp only [wordsFrom, hs]
        rw [if_neg (by decide)]
        cases st with
        | none =>
          rw [ih (pos + 1) (some pos) acc (by omega) (by omega) (fun a h => by cases h; omega)]
          congr 2
          simp only [cur]
          rw [htake, List.drop_append_of_le_length (by omega), List.drop_of_length_le (by omega)]
        | some a =>
          have := hst a rfl
          rw [ih (pos + 1) (some a) acc (by omega) (by omega) (fun b h => by cases h; omega)]
          congr 2
          simp only [cur]
          rw [htake, List.drop_append_of_le_length (by omega)]
      · rw [if_pos rfl]
        simp only [wordsFrom, hs, if_true]
        cases st with
        | none =>
          rw [ih (pos + 1) none acc (by omega) (by omega) (fun a h => by cases h)]
          simp [cur]
        | some a =>
          have := hst a rfl
          have hne : cur s.data.toList pos (some a) ≠ [] := by intro e; have := congrArg List.length e; simp [cur] at this; omega
          rw [if_neg hne, ih (pos + 1) none (acc ++ [(a, pos)]) (by omega) (by omega) (fun a h => by cases h)]
          rw [List.map_append, List.map_cons, List.map_nil, ext_list, List.append_assoc]
          rfl
    · obtain rfl : pos = s.size := by omega
      exact hend (f + 1) st acc hst

/-- The library's fields, as lists. -/
def fields (s : ByteArray) : List (List UInt8) := (Lib.goFieldsP sepR s).map fun x => x.data.toList
theorem fields_words (s : ByteArray) (ha : ascii s.data.toList = true) : fields s = words s.data.toList := by
  unfold fields Lib.goFieldsP Lib.spansOfP
  rw [List.map_map]
  have := spans_words s ha s.size 0 none [] (by omega) (by omega) (fun a h => by cases h)
  exact this

end Dt
