/- The plain mathematics of package date: what the forms are as texts, and their words. -/
import Derived.Test.YtlmcolpoaedclaaDoorDtMath
import Derived.Lib.FieldsP
namespace Dt

def dayNames : List (List UInt8) := [[83, 117, 110, 100, 97, 121], [77, 111, 110, 100, 97, 121], [84, 117, 101, 115, 100, 97, 121], [87, 101, 100, 110, 101, 115, 100, 97, 121], [84, 104, 117, 114, 115, 100, 97, 121], [70, 114, 105, 100, 97, 121], [83, 97, 116, 117, 114, 100, 97, 121]]
def monthNames : List (List UInt8) := [[74, 97, 110], [70, 101, 98], [77, 97, 114], [65, 112, 114], [77, 97, 121], [74, 117, 110], [74, 117, 108], [65, 117, 103], [83, 101, 112], [79, 99, 116], [78, 111, 118], [68, 101, 99]]
def dayN (w : Int) : List UInt8 := dayNames.getD w.toNat []
def monN (m : Int) : List UInt8 := monthNames.getD m.toNat []
def wday (n : Int) : Int := (n + 4) % 7
/-- A digit. -/
def dc (k : Int) : UInt8 := Oct.ch k.toNat
def d2 (n : Int) : List UInt8 := [dc (n / 10), dc (n % 10)]
def d4 (n : Int) : List UInt8 := [dc (n / 1000), dc (n / 100 % 10), dc (n / 10 % 10), dc (n % 10)]
/-- A day's number in the third form. -/
def db (n : Int) : List UInt8 := [if n < 10 then 32 else dc (n / 10), dc (n % 10)]
def clock (s : Int) : List UInt8 := d2 (s / 3600) ++ 58 :: (d2 (s / 60 % 60) ++ 58 :: d2 (s % 60))
def gmt : List UInt8 := [71, 77, 84]
def f0 (y m d w s : Int) : List UInt8 := (dayN w).take 3 ++ 44 :: (32 :: (d2 d ++ 32 :: (monN m ++ 32 :: (d4 y ++ 32 :: (clock s ++ 32 :: gmt)))))
def f1 (y m d w s : Int) : List UInt8 := dayN w ++ 44 :: (32 :: (d2 d ++ 45 :: (monN m ++ 45 :: (d2 (y % 100) ++ 32 :: (clock s ++ 32 :: gmt)))))
def f2 (y m d w s : Int) : List UInt8 := (dayN w).take 3 ++ 32 :: (monN m ++ 32 :: (db d ++ 32 :: (clock s ++ 32 :: d4 y)))
/-- A moment's forms. -/
noncomputable def form (at' i : Int) : List UInt8 :=
  let p := date (at' / 86400)
  if i = 0 then f0 p.1 p.2.1 p.2.2 (wday (at' / 86400)) (at' % 86400)
  else if i = 1 then f1 p.1 p.2.1 p.2.2 (wday (at' / 86400)) (at' % 86400)
  else f2 p.1 p.2.1 p.2.2 (wday (at' / 86400)) (at' % 86400)
theorem form0 {a y m d : Int} (h : IsDate (a / 86400) y m d) : form a 0 = f0 y m d (wday (a / 86400)) (a % 86400) := by unfold form; rw [date_eq h]; rfl
theorem form1 {a y m d : Int} (h : IsDate (a / 86400) y m d) : form a 1 = f1 y m d (wday (a / 86400)) (a % 86400) := by unfold form; rw [date_eq h]; rfl
theorem form2 {a y m d : Int} (h : IsDate (a / 86400) y m d) : form a 2 = f2 y m d (wday (a / 86400)) (a % 86400) := by unfold form; rw [date_eq h]; rfl

/-- Is it a mark between words? -/
def sep (c : UInt8) : Bool := c == 32 || (c == 44 || (c == 45 || c == 58))
def wordsFrom : List UInt8 → List UInt8 → List (List UInt8)
  | [], cur => if cur = [] then [] else [cur]
  | c :: r, cur => if sep c then (if cur = [] then wordsFrom r [] else cur :: wordsFrom r []) else wordsFrom r (cur ++ [c])
/-- A text's words. -/
def words (l : List UInt8) : List (List UInt8) := wordsFrom l []
/-- No mark between words, and of ASCII. -/
def letter (c : UInt8) : Bool := !sep c && decide (c.toNat < 128)
def allL (l : List UInt8) : Bool := !l.isEmpty && l.all letter

theorem wordsFrom_letters (x r : List UInt8) (h : x.all letter = true) : ∀ cur, wordsFrom (x ++ r) cur = wordsFrom r (cur ++ x) := by
  induction x with
  | nil => intro cur; simp
  | cons c x ih =>
    intro cur
    simp only [List.all_cons, Bool.and_eq_true] at h
    have hc : sep c = false := by
      have := h.1; unfold letter at this; simp at this; exact this.1
    rw [List.cons_append]
    simp only [wordsFrom, hc]
    rw [if_neg (by decide), ih h.2]
    simp
theorem words_app (x r : List UInt8) (c : UInt8) (h : allL x = true) (hc : sep c = true) : words (x ++ c :: r) = x :: words r := by
  unfold allL at h
  simp only [Bool.and_eq_true] at h
  unfold words
  rw [wordsFrom_letters x _ h.2, List.nil_append]
  simp only [wordsFrom, hc, if_true]
  rw [if_neg (by intro e; rw [e] at h; simp at h)]
theorem words_sep (r : List UInt8) (c : UInt8) (hc : sep c = true) : words (c :: r) = words r := by
  unfold words
  simp only [wordsFrom, hc, if_true]
theorem words_last (x : List UInt8) (h : allL x = true) : words x = [x] := by
  unfold allL at h
  simp only [Bool.and_eq_true] at h
  unfold words
  have := wordsFrom_letters x [] h.2 []
  rw [List.append_nil, List.nil_append] at this
  rw [this]
  simp only [wordsFrom]
  rw [if_neg (by intro e; rw [e] at h; simp at h)]

theorem dc_letter (k : Int) (h0 : 0 ≤ k) (h1 : k < 10) : letter (dc k) = true := by
  obtain ⟨n, rfl⟩ : ∃ n : Nat, k = n := ⟨k.toNat, by omega⟩
  have : n = 0 ∨ n = 1 ∨ n = 2 ∨ n = 3 ∨ n = 4 ∨ n = 5 ∨ n = 6 ∨ n = 7 ∨ n = 8 ∨ n = 9 := by omega
  rcases this with rfl | rfl | rfl | rfl | rfl | rfl | rfl | rfl | rfl | rfl <;> decide
theorem dc_ne32 (k : Int) (h0 : 0 ≤ k) (h1 : k < 10) : dc k ≠ 32 := by
  intro e
  have := dc_letter k h0 h1
  rw [e] at this
  exact absurd this (by decide)
theorem d2_all (n : Int) (h0 : 0 ≤ n) (h1 : n < 100) : allL (d2 n) = true := by
  unfold allL d2
  simp [dc_letter (n / 10) (by omega) (by omega), dc_letter (n % 10) (by omega) (by omega)]
theorem d1_all (n : Int) (h0 : 0 ≤ n) (h1 : n < 10) : allL [dc n] = true := by
  unfold allL
  simp [dc_letter n (by omega) (by omega)]
theorem d4_all (n : Int) (h0 : 0 ≤ n) (h1 : n < 10000) : allL (d4 n) = true := by
  unfold allL d4
  simp [dc_letter (n / 1000) (by omega) (by omega), dc_letter (n / 100 % 10) (by omega) (by omega), dc_letter (n / 10 % 10) (by omega) (by omega), dc_letter (n % 10) (by omega) (by omega)]
theorem wday_bd (n : Int) : 0 ≤ wday n ∧ wday n < 7 := by unfold wday; omega
theorem w_cases {w : Int} (h0 : 0 ≤ w) (h1 : w < 7) : w = 0 ∨ w = 1 ∨ w = 2 ∨ w = 3 ∨ w = 4 ∨ w = 5 ∨ w = 6 := by omega
theorem m_cases {m : Int} (h0 : 0 ≤ m) (h1 : m ≤ 11) : m = 0 ∨ m = 1 ∨ m = 2 ∨ m = 3 ∨ m = 4 ∨ m = 5 ∨ m = 6 ∨ m = 7 ∨ m = 8 ∨ m = 9 ∨ m = 10 ∨ m = 11 := by omega
theorem dayN_all {w : Int} (h0 : 0 ≤ w) (h1 : w < 7) : allL (dayN w) = true ∧ allL ((dayN w).take 3) = true ∧ 6 ≤ (dayN w).length ∧ (dayN w).length ≤ 9 := by
  rcases w_cases h0 h1 with rfl | rfl | rfl | rfl | rfl | rfl | rfl <;> decide
theorem monN_all {m : Int} (h0 : 0 ≤ m) (h1 : m ≤ 11) : allL (monN m) = true ∧ (monN m).length = 3 := by
  rcases m_cases h0 h1 with rfl | rfl | rfl | rfl | rfl | rfl | rfl | rfl | rfl | rfl | rfl | rfl <;> decide
theorem gmt_all : allL gmt = true := by decide

/-- The words of the forms. -/
structure Parts (y m d w s : Int) : Prop where
  y0 : 1970 ≤ y
  y1 : y ≤ 9999
  m0 : 0 ≤ m
  m1 : m ≤ 11
  d0 : 1 ≤ d
  d1 : d ≤ 31
  w0 : 0 ≤ w
  w1 : w < 7
  s0 : 0 ≤ s
  s1 : s < 86400
theorem words_clock (s : Int) (h0 : 0 ≤ s) (h1 : s < 86400) (r : List UInt8) : words (clock s ++ 32 :: r) = d2 (s / 3600) :: d2 (s / 60 % 60) :: d2 (s % 60) :: words r := by
  unfold clock
  rw [List.append_assoc, List.cons_append, words_app _ _ _ (d2_all _ (by omega) (by omega)) (by decide), List.append_assoc, List.cons_append,
    words_app _ _ _ (d2_all _ (by omega) (by omega)) (by decide), words_app _ _ _ (d2_all _ (by omega) (by omega)) (by decide)]
theorem words_f0 {y m d w s : Int} (h : Parts y m d w s) : words (f0 y m d w s) = [(dayN w).take 3, d2 d, monN m, d4 y, d2 (s / 3600), d2 (s / 60 % 60), d2 (s % 60), gmt] := by
  obtain ⟨a, b, c, e, f, g, i, j, k, l⟩ := h
  unfold f0
  rw [words_app _ _ _ (dayN_all i j).2.1 (by decide), words_sep _ _ (by decide), words_app _ _ _ (d2_all _ (by omega) (by omega)) (by decide),
    words_app _ _ _ (monN_all c e).1 (by decide), words_app _ _ _ (d4_all _ (by omega) (by omega)) (by decide), words_clock _ k l, words_last _ gmt_all]
theorem words_f1 {y m d w s : Int} (h : Parts y m d w s) : words (f1 y m d w s) = [dayN w, d2 d, monN m, d2 (y % 100), d2 (s / 3600), d2 (s / 60 % 60), d2 (s % 60), gmt] := by
  obtain ⟨a, b, c, e, f, g, i, j, k, l⟩ := h
  unfold f1
  rw [words_app _ _ _ (dayN_all i j).1 (by decide), words_sep _ _ (by decide), words_app _ _ _ (d2_all _ (by omega) (by omega)) (by decide),
    words_app _ _ _ (monN_all c e).1 (by decide), words_app _ _ _ (d2_all _ (by omega) (by omega)) (by decide), words_clock _ k l, words_last _ gmt_all]
theorem words_db (d : Int) (h0 : 1 ≤ d) (h1 : d ≤ 31) (r : List UInt8) : words (db d ++ 32 :: r) = (if d < 10 then [dc d] else d2 d) :: words r := by
  unfold db
  by_cases h : d < 10
  · rw [if_pos h, if_pos h, show d % 10 = d by omega, List.cons_append, words_sep _ _ (by decide)]
    exact words_app [dc d] r 32 (d1_all d (by omega) h) (by decide)
  · rw [if_neg h, if_neg h]
    exact words_app (d2 d) r 32 (d2_all d (by omega) (by omega)) (by decide)
theorem words_f2 {y m d w s : Int} (h : Parts y m d w s) : words (f2 y m d w s) = [(dayN w).take 3, monN m, if d < 10 then [dc d] else d2 d, d2 (s / 3600), d2 (s / 60 % 60), d2 (s % 60), d4 y] := by
  obtain ⟨a, b, c, e, f, g, i, j, k, l⟩ := h
  unfold f2
  rw [words_app _ _ _ (dayN_all i j).2.1 (by decide), words_app _ _ _ (monN_all c e).1 (by decide), words_db _ f g, words_clock _ k l, words_last _ (d4_all _ (by omega) (by omega))]

/-- Is all of it of ASCII? -/
def ascii (l : List UInt8) : Bool := l.all fun c => decide (c.toNat < 128)
theorem ascii_letters {x : List UInt8} (h : allL x = true) : ascii x = true := by
  unfold allL at h
  simp only [Bool.and_eq_true, List.all_eq_true] at h
  unfold ascii
  rw [List.all_eq_true]
  intro c hc
  have := h.2 c hc
  unfold letter at this
  simp only [Bool.and_eq_true] at this
  exact this.2
theorem ascii_app (x y : List UInt8) : ascii (x ++ y) = (ascii x && ascii y) := by unfold ascii; rw [List.all_append]
theorem ascii_cons (c : UInt8) (y : List UInt8) : ascii (c :: y) = (decide (c.toNat < 128) && ascii y) := rfl
theorem ascii_clock (s : Int) (h0 : 0 ≤ s) (h1 : s < 86400) : ascii (clock s) = true := by
  unfold clock
  rw [ascii_app, ascii_cons, ascii_app, ascii_cons, ascii_letters (d2_all _ (by omega) (by omega)), ascii_letters (d2_all _ (by omega) (by omega)), ascii_letters (d2_all _ (by omega) (by omega))]
  rfl
theorem ascii_f0 {y m d w s : Int} (h : Parts y m d w s) : ascii (f0 y m d w s) = true := by
  obtain ⟨a, b, c, e, f, g, i, j, k, l⟩ := h
  unfold f0
  simp only [ascii_app, ascii_cons, ascii_letters (dayN_all i j).2.1, ascii_letters (d2_all d (by omega) (by omega)), ascii_letters (monN_all c e).1, ascii_letters (d4_all y (by omega) (by omega)), ascii_clock s k l, ascii_letters gmt_all]
  rfl
theorem ascii_f1 {y m d w s : Int} (h : Parts y m d w s) : ascii (f1 y m d w s) = true := by
  obtain ⟨a, b, c, e, f, g, i, j, k, l⟩ := h
  unfold f1
  simp only [ascii_app, ascii_cons, ascii_letters (dayN_all i j).1, ascii_letters (d2_all d (by omega) (by omega)), ascii_letters (monN_all c e).1, ascii_letters (d2_all (y % 100) (by omega) (by omega)), ascii_clock s k l, ascii_letters gmt_all]
  rfl
theorem ascii_f2 {y m d w s : Int} (h : Parts y m d w s) : ascii (f2 y m d w s) = true := by
  obtain ⟨a, b, c, e, f, g, i, j, k, l⟩ := h
  have hdb : ascii (db d) = true := by
    unfold db
    by_cases h : d < 10
    · rw [if_pos h, ascii_cons, ascii_letters (d1_all (d % 10) (by omega) (by omega))]; rfl
    · rw [if_neg h]; exact ascii_letters (d2_all d (by omega) (by omega))
  unfold f2
  simp only [ascii_app, ascii_cons, ascii_letters (dayN_all i j).2.1, hdb, ascii_letters (monN_all c e).1, ascii_letters (d4_all y (by omega) (by omega)), ascii_clock s k l]
  rfl
theorem len_clock (s : Int) : (clock s).length = 8 := by simp [clock, d2]
theorem len_f0 {y m d w s : Int} (h : Parts y m d w s) : (f0 y m d w s).length = 29 := by
  have h1 := (monN_all h.m0 h.m1).2
  have h2 := (dayN_all h.w0 h.w1).2.2
  simp [f0, d2, d4, gmt, len_clock, h1]; omega
theorem len_f1 {y m d w s : Int} (h : Parts y m d w s) : (f1 y m d w s).length = (dayN w).length + 24 := by
  have h1 := (monN_all h.m0 h.m1).2
  simp [f1, d2, gmt, len_clock, h1]
theorem len_f2 {y m d w s : Int} (h : Parts y m d w s) : (f2 y m d w s).length = 24 := by
  have h1 := (monN_all h.m0 h.m1).2
  have h2 := (dayN_all h.w0 h.w1).2.2
  simp [f2, db, d4, len_clock, h1]; omega

end Dt
