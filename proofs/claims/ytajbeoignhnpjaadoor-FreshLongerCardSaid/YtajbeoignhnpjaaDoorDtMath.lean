/- What lies below, out of the texts of the layers under this one: DtMath, DtMathB, DtMathC, DtMathD, DtMathE. -/
import Derived.Test.YtajbeoignhnpjaaDoorOctMath
import Derived.Lib.FieldsP
import Derived.Laws.RangeString
namespace Dt

/-- One day more in February? -/
def lp (y : Int) : Int := if y % 4 = 0 ∧ (y % 100 ≠ 0 ∨ y % 400 = 0) then 1 else 0
theorem lp_01 (y : Int) : 0 ≤ lp y ∧ lp y ≤ 1 := by unfold lp; split <;> omega
/-- How many days has a month (from 0 on)? -/
def ml (y m : Int) : Int := if m = 1 then 28 + lp y else if m = 3 ∨ m = 5 ∨ m = 8 ∨ m = 10 then 30 else 31
theorem ml_bd (y m : Int) : 28 ≤ ml y m ∧ ml y m ≤ 31 := by
  have := lp_01 y
  unfold ml; (repeat' split) <;> omega
/-- The days of the months ahead of one. -/
def cum (y m : Int) : Int :=
  if m ≤ 0 then 0 else if m = 1 then 31 else (if m = 2 then 59 else if m = 3 then 90 else if m = 4 then 120 else if m = 5 then 151 else if m = 6 then 181 else if m = 7 then 212 else if m = 8 then 243 else if m = 9 then 273 else if m = 10 then 304 else if m = 11 then 334 else 365) + lp y
theorem cum_zero (y : Int) : cum y 0 = 0 := rfl
theorem cum_twelve (y : Int) : cum y 12 = 365 + lp y := rfl
theorem cum_succ (y m : Int) (h0 : 0 ≤ m) (h1 : m ≤ 11) : cum y (m + 1) = cum y m + ml y m := by
  have : m = 0 ∨ m = 1 ∨ m = 2 ∨ m = 3 ∨ m = 4 ∨ m = 5 ∨ m = 6 ∨ m = 7 ∨ m = 8 ∨ m = 9 ∨ m = 10 ∨ m = 11 := by omega
  rcases this with rfl | rfl | rfl | rfl | rfl | rfl | rfl | rfl | rfl | rfl | rfl | rfl <;> (simp [cum, ml]; try omega)
theorem cum_bd (y m : Int) : 0 ≤ cum y m ∧ cum y m ≤ 366 := by
  have := lp_01 y
  unfold cum; (repeat' split) <;> omega
theorem cum_mono (y a b : Int) (h0 : 0 ≤ a) (h : a ≤ b) (h1 : b ≤ 12) : cum y a ≤ cum y b := by
  obtain ⟨k, rfl⟩ : ∃ k : Nat, b = a + k := ⟨(b - a).toNat, by omega⟩
  clear h
  induction k with
  | zero => simp
  | succ k ih =>
    have h2 := cum_succ y (a + k) (by omega) (by omega)
    have h3 := ml_bd y (a + k)
    have h4 := ih (by omega)
    rw [show a + ((k + 1 : Nat) : Int) = a + k + 1 by omega]
    omega

/-- The days from 1970-01-01 to a year's first. -/
def ny (y : Int) : Int := 365 * (y - 1970) + (y - 1969) / 4 - (y - 1901) / 100 + (y - 1601) / 400
theorem ny_succ (y : Int) : ny (y + 1) = ny y + 365 + lp y := by unfold ny lp; split <;> omega
theorem ny_1970 : ny 1970 = 0 := rfl
theorem ny_mono (a b : Int) (h : a ≤ b) : ny a ≤ ny b := by
  obtain ⟨k, rfl⟩ : ∃ k : Nat, b = a + k := ⟨(b - a).toNat, by omega⟩
  clear h
  induction k with
  | zero => simp
  | succ k ih =>
    have h2 := ny_succ (a + k)
    have h3 := lp_01 (a + k)
    rw [show a + ((k + 1 : Nat) : Int) = a + k + 1 by omega]
    omega
theorem ny_guess (k : Int) (h : 0 ≤ k) : ny (1970 + k / 366) ≤ k := by unfold ny; omega
theorem ny_bd (y : Int) (h : 1970 ≤ y) (h1 : y ≤ 10000) : 0 ≤ ny y ∧ ny y ≤ 2932897 := by unfold ny; omega
theorem ny_400 (y : Int) : ny (y + 400) = ny y + 146097 := by unfold ny; omega
theorem lp_400 (y : Int) : lp (y + 400) = lp y := by unfold lp; congr 1; simp; omega

/-- Day n (from 1970-01-01 on) is the d-th of month m (from 0 on) of year y. -/
structure IsDate (n y m d : Int) : Prop where
  y0 : 1970 ≤ y
  y1 : y ≤ 9999
  m0 : 0 ≤ m
  m1 : m ≤ 11
  d0 : 1 ≤ d
  d1 : d ≤ ml y m
  n_ : n = ny y + cum y m + d - 1

theorem exYear (k : Nat) : ∀ n : Int, 0 ≤ n → n < ny (1970 + k) → ∃ y : Int, 1970 ≤ y ∧ y < 1970 + k ∧ ny y ≤ n ∧ n < ny (y + 1) := by
  induction k with
  | zero => intro n h0 h1; rw [show (1970 : Int) + ((0 : Nat) : Int) = 1970 by omega, ny_1970] at h1; omega
  | succ k ih =>
    intro n h0 h1
    by_cases h : n < ny (1970 + k)
    · obtain ⟨y, a, b, c, d⟩ := ih n h0 h
      exact ⟨y, a, by omega, c, d⟩
    · exact ⟨1970 + k, by omega, by omega, by omega, by rw [show (1970 : Int) + k + 1 = 1970 + ((k + 1 : Nat) : Int) by omega]; exact h1⟩
theorem exMonth (y : Int) (k : Nat) (hk : k ≤ 12) : ∀ r : Int, 0 ≤ r → r < cum y k → ∃ m : Int, 0 ≤ m ∧ m < k ∧ cum y m ≤ r ∧ r < cum y (m + 1) := by
  induction k with
  | zero => intro r h0 h1; rw [show ((0 : Nat) : Int) = 0 by omega, cum_zero] at h1; omega
  | succ k ih =>
    intro r h0 h1
    by_cases h : r < cum y k
    · obtain ⟨m, a, b, c, d⟩ := ih (by omega) r h0 h
      exact ⟨m, a, by omega, c, d⟩
    · exact ⟨k, by omega, by omega, by omega, by rw [show (k : Int) + 1 = ((k + 1 : Nat) : Int) by omega]; exact h1⟩
theorem exDate (n : Int) (h0 : 0 ≤ n) (h1 : n ≤ 2932896) : ∃ y m d, IsDate n y m d := by
  obtain ⟨y, a, b, c, d⟩ := exYear 8030 n h0 (by have : ny (1970 + ((8030 : Nat) : Int)) = 2932897 := rfl; omega)
  have hs := ny_succ y
  obtain ⟨m, e, f, g, i⟩ := exMonth y 12 (by omega) (n - ny y) (by omega) (by rw [show ((12 : Nat) : Int) = 12 by omega, cum_twelve]; omega)
  have hm := cum_succ y m e (by omega)
  exact ⟨y, m, n - ny y - cum y m + 1, a, by omega, e, by omega, by omega, by omega, by omega⟩

theorem year_one {y y' n : Int} (h : ny y ≤ n) (h1 : n < ny (y + 1)) (h' : ny y' ≤ n) (h1' : n < ny (y' + 1)) : y = y' := by
  rcases Int.lt_trichotomy y y' with g | g | g
  · have := ny_mono (y + 1) y' (by omega); omega
  · exact g
  · have := ny_mono (y' + 1) y (by omega); omega
theorem month_one {y m m' r : Int} (h0 : 0 ≤ m) (h0' : 0 ≤ m') (h2 : m ≤ 11) (h2' : m' ≤ 11) (h : cum y m ≤ r) (h1 : r < cum y (m + 1)) (h' : cum y m' ≤ r) (h1' : r < cum y (m' + 1)) : m = m' := by
  rcases Int.lt_trichotomy m m' with g | g | g
  · have := cum_mono y (m + 1) m' (by omega) (by omega) (by omega); omega
  · exact g
  · have := cum_mono y (m' + 1) m (by omega) (by omega) (by omega); omega
theorem IsDate.in_month {n y m d : Int} (h : IsDate n y m d) : cum y m ≤ n - ny y ∧ n - ny y < cum y (m + 1) := by
  have := cum_succ y m h.m0 h.m1
  have a := h.n_; have b := h.d0; have c := h.d1
  omega
theorem IsDate.in_year {n y m d : Int} (h : IsDate n y m d) : ny y ≤ n ∧ n < ny (y + 1) := by
  have hm := h.in_month
  have h0 := cum_mono y 0 m (by omega) h.m0 (by have := h.m1; omega)
  have h1 := cum_mono y (m + 1) 12 (by have := h.m0; omega) (by have := h.m1; omega) (by omega)
  have hs := ny_succ y
  rw [cum_zero] at h0
  rw [cum_twelve] at h1
  omega
theorem IsDate.one {n y m d y' m' d' : Int} (h : IsDate n y m d) (h' : IsDate n y' m' d') : y = y' ∧ m = m' ∧ d = d' := by
  obtain rfl := year_one h.in_year.1 h.in_year.2 h'.in_year.1 h'.in_year.2
  obtain rfl := month_one h.m0 h'.m0 h.m1 h'.m1 h.in_month.1 h.in_month.2 h'.in_month.1 h'.in_month.2
  have a := h.n_; have b := h'.n_
  exact ⟨rfl, rfl, by omega⟩
theorem IsDate.range {n y m d : Int} (h : IsDate n y m d) : 0 ≤ n ∧ n ≤ 2932896 := by
  have a := h.in_year
  have b := ny_bd y h.y0 (by have := h.y1; omega)
  have c := ny_mono (y + 1) 10000 (by have := h.y1; omega)
  have : ny 10000 = 2932897 := rfl
  omega

open Classical in
/-- A day's year, month, day. -/
noncomputable def date (n : Int) : Int × Int × Int := if h : ∃ p : Int × Int × Int, IsDate n p.1 p.2.1 p.2.2 then choose h else (1970, 0, 1)
theorem date_is {n : Int} (h0 : 0 ≤ n) (h1 : n ≤ 2932896) : IsDate n (date n).1 (date n).2.1 (date n).2.2 := by
  have h : ∃ p : Int × Int × Int, IsDate n p.1 p.2.1 p.2.2 := by
    obtain ⟨y, m, d, h⟩ := exDate n h0 h1
    exact ⟨(y, m, d), h⟩
  unfold date
  rw [dif_pos h]
  exact Classical.choose_spec h
theorem date_eq {n y m d : Int} (h : IsDate n y m d) : date n = (y, m, d) := by
  obtain ⟨a, b, c⟩ := (date_is h.range.1 h.range.2).one h
  rw [← a, ← b, ← c]

/-- The next day. -/
theorem IsDate.next {n y m d y' m' d' : Int} (h : IsDate n y m d) (h' : IsDate (n + 1) y' m' d') : (y' = y ∧ m' = m ∧ d' = d + 1) ∨ (d' = 1 ∧ ((y' = y ∧ m' = m + 1) ∨ (y' = y + 1 ∧ m' = 0 ∧ m = 11))) := by
  obtain ⟨a, b, c, e, f, g, i⟩ := h
  by_cases h1 : d < ml y m
  · exact .inl (h'.one ⟨a, b, c, e, by omega, by omega, by omega⟩)
  · have hs := cum_succ y m c e
    by_cases h2 : m < 11
    · obtain ⟨p, q, r⟩ := h'.one (y' := y) (m' := m + 1) (d' := 1) ⟨a, b, by omega, by omega, by omega, by have := ml_bd y (m + 1); omega, by omega⟩
      exact .inr ⟨r, .inl ⟨p, q⟩⟩
    · obtain rfl : m = 11 := by omega
      have hn := ny_succ y
      rw [show (11 : Int) + 1 = 12 by omega, cum_twelve] at hs
      have hy : y + 1 ≤ 9999 := by
        have := h'.range
        have h10 : ¬ y = 9999 := fun e => by
          subst e
          have : ny (9999 + 1) = 2932897 := rfl
          omega
        omega
      obtain ⟨p, q, r⟩ := h'.one (y' := y + 1) (m' := 0) (d' := 1) ⟨by omega, hy, by omega, by omega, by omega, by have := ml_bd (y + 1) 0; omega, by rw [cum_zero]; omega⟩
      exact .inr ⟨r, .inr ⟨p, q, rfl⟩⟩

end Dt

namespace Dt

def dayNames : List (List UInt8) := [[83, 117, 110, 100, 97, 121], [77, 111, 110, 100, 97, 121], [84, 117, 101, 115, 100, 97, 121], [87, 101, 100, 110, 101, 115, 100, 97, 121], [84, 104, 117, 114, 115, 100, 97, 121], [70, 114, 105, 100, 97, 121], [83, 97, 116, 117, 114, 100, 97, 121]]
def monthNames : List (List UInt8) := [[74, 97, 110], [70, 101, 98], [77, 97, 114], [65, 112, 114], [77, 97, 121], [74, 117, 110], [74, 117, 108], [65, 117, 103], [83, 101, 112], [79, 99, 116], [78, 111, 118], [68, 101, 99]]
def dayN (w : Int) : List UInt8 := dayNames.getD w.toNat []
def monN (m : Int) : List UInt8 := monthNames.getD m.toNat []
def wday (n : Int) : Int := (n + 4) % 7
/-- A digit. -/
def dc (k : Int) : UInt8 := Oct.ch k.toNat
def d2 (n : Int) : List UInt8 := [dc (n / 10), dc (n % 10)]
def d4 (n : Int) : List UInt8 := [dc (n / 1000), dc (n / 100 % 10), dc (n / 10 % 10), dc (n % 10)]
/-- A day's number in the third form. -/
def db (n : Int) : List UInt8 := [if n < 10 then 32 else dc (n / 10), dc (n % 10)]
def clock (s : Int) : List UInt8 := d2 (s / 3600) ++ 58 :: (d2 (s / 60 % 60) ++ 58 :: d2 (s % 60))
def gmt : List UInt8 := [71, 77, 84]
def f0 (y m d w s : Int) : List UInt8 := (dayN w).take 3 ++ 44 :: (32 :: (d2 d ++ 32 :: (monN m ++ 32 :: (d4 y ++ 32 :: (clock s ++ 32 :: gmt)))))
def f1 (y m d w s : Int) : List UInt8 := dayN w ++ 44 :: (32 :: (d2 d ++ 45 :: (monN m ++ 45 :: (d2 (y % 100) ++ 32 :: (clock s ++ 32 :: gmt)))))
def f2 (y m d w s : Int) : List UInt8 := (dayN w).take 3 ++ 32 :: (monN m ++ 32 :: (db d ++ 32 :: (clock s ++ 32 :: d4 y)))
/-- A moment's forms. -/
noncomputable def form (at' i : Int) : List UInt8 :=
  let p := date (at' / 86400)
  if i = 0 then f0 p.1 p.2.1 p.2.2 (wday (at' / 86400)) (at' % 86400)
  else if i = 1 then f1 p.1 p.2.1 p.2.2 (wday (at' / 86400)) (at' % 86400)
  else f2 p.1 p.2.1 p.2.2 (wday (at' / 86400)) (at' % 86400)
theorem form0 {a y m d : Int} (h : IsDate (a / 86400) y m d) : form a 0 = f0 y m d (wday (a / 86400)) (a % 86400) := by unfold form; rw [date_eq h]; rfl
theorem form1 {a y m d : Int} (h : IsDate (a / 86400) y m d) : form a 1 = f1 y m d (wday (a / 86400)) (a % 86400) := by unfold form; rw [date_eq h]; rfl
theorem form2 {a y m d : Int} (h : IsDate (a / 86400) y m d) : form a 2 = f2 y m d (wday (a / 86400)) (a % 86400) := by unfold form; rw [date_eq h]; rfl

/-- Is it a mark between words? -/
def sep (c : UInt8) : Bool := c == 32 || (c == 44 || (c == 45 || c == 58))
def wordsFrom : List UInt8 → List UInt8 → List (List UInt8)
  | [], cur => if cur = [] then [] else [cur]
  | c :: r, cur => if sep c then (if cur = [] then wordsFrom r [] else cur :: wordsFrom r []) else wordsFrom r (cur ++ [c])
/-- A text's words. -/
def words (l : List UInt8) : List (List UInt8) := wordsFrom l []
/-- No mark between words, and of ASCII. -/
def letter (c : UInt8) : Bool := !sep c && decide (c.toNat < 128)
def allL (l : List UInt8) : Bool := !l.isEmpty && l.all letter

theorem wordsFrom_letters (x r : List UInt8) (h : x.all letter = true) : ∀ cur, wordsFrom (x ++ r) cur = wordsFrom r (cur ++ x) := by
  induction x with
  | nil => intro cur; simp
  | cons c x ih =>
    intro cur
    simp only [List.all_cons, Bool.and_eq_true] at h
    have hc : sep c = false := by
      have := h.1; unfold letter at this; simp at this; exact this.1
    rw [List.cons_append]
    simp only [wordsFrom, hc]
    rw [if_neg (by decide), ih h.2]
    simp
theorem words_app (x r : List UInt8) (c : UInt8) (h : allL x = true) (hc : sep c = true) : words (x ++ c :: r) = x :: words r := by
  unfold allL at h
  simp only [Bool.and_eq_true] at h
  unfold words
  rw [wordsFrom_letters x _ h.2, List.nil_append]
  simp only [wordsFrom, hc, if_true]
  rw [if_neg (by intro e; rw [e] at h; simp at h)]
theorem words_sep (r : List UInt8) (c : UInt8) (hc : sep c = true) : words (c :: r) = words r := by
  unfold words
  simp only [wordsFrom, hc, if_true]
theorem words_last (x : List UInt8) (h : allL x = true) : words x = [x] := by
  unfold allL at h
  simp only [Bool.and_eq_true] at h
  unfold words
  have := wordsFrom_letters x [] h.2 []
  rw [List.append_nil, List.nil_append] at this
  rw [this]
  simp only [wordsFrom]
  rw [if_neg (by intro e; rw [e] at h; simp at h)]

theorem dc_letter (k : Int) (h0 : 0 ≤ k) (h1 : k < 10) : letter (dc k) = true := by
  obtain ⟨n, rfl⟩ : ∃ n : Nat, k = n := ⟨k.toNat, by omega⟩
  have : n = 0 ∨ n = 1 ∨ n = 2 ∨ n = 3 ∨ n = 4 ∨ n = 5 ∨ n = 6 ∨ n = 7 ∨ n = 8 ∨ n = 9 := by omega
  rcases this with rfl | rfl | rfl | rfl | rfl | rfl | rfl | rfl | rfl | rfl <;> decide
theorem dc_ne32 (k : Int) (h0 : 0 ≤ k) (h1 : k < 10) : dc k ≠ 32 := by
  intro e
  have := dc_letter k h0 h1
  rw [e] at this
  exact absurd this (by decide)
theorem d2_all (n : Int) (h0 : 0 ≤ n) (h1 : n < 100) : allL (d2 n) = true := by
  unfold allL d2
  simp [dc_letter (n / 10) (by omega) (by omega), dc_letter (n % 10) (by omega) (by omega)]
theorem d1_all (n : Int) (h0 : 0 ≤ n) (h1 : n < 10) : allL [dc n] = true := by
  unfold allL
  simp [dc_letter n (by omega) (by omega)]
theorem d4_all (n : Int) (h0 : 0 ≤ n) (h1 : n < 10000) : allL (d4 n) = true := by
  unfold allL d4
  simp [dc_letter (n / 1000) (by omega) (by omega), dc_letter (n / 100 % 10) (by omega) (by omega), dc_letter (n / 10 % 10) (by omega) (by omega), dc_letter (n % 10) (by omega) (by omega)]
theorem wday_bd (n : Int) : 0 ≤ wday n ∧ wday n < 7 := by unfold wday; omega
theorem w_cases {w : Int} (h0 : 0 ≤ w) (h1 : w < 7) : w = 0 ∨ w = 1 ∨ w = 2 ∨ w = 3 ∨ w = 4 ∨ w = 5 ∨ w = 6 := by omega
theorem m_cases {m : Int} (h0 : 0 ≤ m) (h1 : m ≤ 11) : m = 0 ∨ m = 1 ∨ m = 2 ∨ m = 3 ∨ m = 4 ∨ m = 5 ∨ m = 6 ∨ m = 7 ∨ m = 8 ∨ m = 9 ∨ m = 10 ∨ m = 11 := by omega
theorem dayN_all {w : Int} (h0 : 0 ≤ w) (h1 : w < 7) : allL (dayN w) = true ∧ allL ((dayN w).take 3) = true ∧ 6 ≤ (dayN w).length ∧ (dayN w).length ≤ 9 := by
  rcases w_cases h0 h1 with rfl | rfl | rfl | rfl | rfl | rfl | rfl <;> decide
theorem monN_all {m : Int} (h0 : 0 ≤ m) (h1 : m ≤ 11) : allL (monN m) = true ∧ (monN m).length = 3 := by
  rcases m_cases h0 h1 with rfl | rfl | rfl | rfl | rfl | rfl | rfl | rfl | rfl | rfl | rfl | rfl <;> decide
theorem gmt_all : allL gmt = true := by decide

/-- The words of the forms. -/
structure Parts (y m d w s : Int) : Prop where
  y0 : 1970 ≤ y
  y1 : y ≤ 9999
  m0 : 0 ≤ m
  m1 : m ≤ 11
  d0 : 1 ≤ d
  d1 : d ≤ 31
  w0 : 0 ≤ w
  w1 : w < 7
  s0 : 0 ≤ s
  s1 : s < 86400
theorem words_clock (s : Int) (h0 : 0 ≤ s) (h1 : s < 86400) (r : List UInt8) : words (clock s ++ 32 :: r) = d2 (s / 3600) :: d2 (s / 60 % 60) :: d2 (s % 60) :: words r := by
  unfold clock
  rw [List.append_assoc, List.cons_append, words_app _ _ _ (d2_all _ (by omega) (by omega)) (by decide), List.append_assoc, List.cons_append,
    words_app _ _ _ (d2_all _ (by omega) (by omega)) (by decide), words_app _ _ _ (d2_all _ (by omega) (by omega)) (by decide)]
theorem words_f0 {y m d w s : Int} (h : Parts y m d w s) : words (f0 y m d w s) = [(dayN w).take 3, d2 d, monN m, d4 y, d2 (s / 3600), d2 (s / 60 % 60), d2 (s % 60), gmt] := by
  obtain ⟨a, b, c, e, f, g, i, j, k, l⟩ := h
  unfold f0
  rw [words_app _ _ _ (dayN_all i j).2.1 (by decide), words_sep _ _ (by decide), words_app _ _ _ (d2_all _ (by omega) (by omega)) (by decide),
    words_app _ _ _ (monN_all c e).1 (by decide), words_app _ _ _ (d4_all _ (by omega) (by omega)) (by decide), words_clock _ k l, words_last _ gmt_all]
theorem words_f1 {y m d w s : Int} (h : Parts y m d w s) : words (f1 y m d w s) = [dayN w, d2 d, monN m, d2 (y % 100), d2 (s / 3600), d2 (s / 60 % 60), d2 (s % 60), gmt] := by
  obtain ⟨a, b, c, e, f, g, i, j, k, l⟩ := h
  unfold f1
  rw [words_app _ _ _ (dayN_all i j).1 (by decide), words_sep _ _ (by decide), words_app _ _ _ (d2_all _ (by omega) (by omega)) (by decide),
    words_app _ _ _ (monN_all c e).1 (by decide), words_app _ _ _ (d2_all _ (by omega) (by omega)) (by decide), words_clock _ k l, words_last _ gmt_all]
theorem words_db (d : Int) (h0 : 1 ≤ d) (h1 : d ≤ 31) (r : List UInt8) : words (db d ++ 32 :: r) = (if d < 10 then [dc d] else d2 d) :: words r := by
  unfold db
  by_cases h : d < 10
  · rw [if_pos h, if_pos h, show d % 10 = d by omega, List.cons_append, words_sep _ _ (by decide)]
    exact words_app [dc d] r 32 (d1_all d (by omega) h) (by decide)
  · rw [if_neg h, if_neg h]
    exact words_app (d2 d) r 32 (d2_all d (by omega) (by omega)) (by decide)
theorem words_f2 {y m d w s : Int} (h : Parts y m d w s) : words (f2 y m d w s) = [(dayN w).take 3, monN m, if d < 10 then [dc d] else d2 d, d2 (s / 3600), d2 (s / 60 % 60), d2 (s % 60), d4 y] := by
  obtain ⟨a, b, c, e, f, g, i, j, k, l⟩ := h
  unfold f2
  rw [words_app _ _ _ (dayN_all i j).2.1 (by decide), words_app _ _ _ (monN_all c e).1 (by decide), words_db _ f g, words_clock _ k l, words_last _ (d4_all _ (by omega) (by omega))]

/-- Is all of it of ASCII? -/
def ascii (l : List UInt8) : Bool := l.all fun c => decide (c.toNat < 128)
theorem ascii_letters {x : List UInt8} (h : allL x = true) : ascii x = true := by
  unfold allL at h
  simp only [Bool.and_eq_true, List.all_eq_true] at h
  unfold ascii
  rw [List.all_eq_true]
  intro c hc
  have := h.2 c hc
  unfold letter at this
  simp only [Bool.and_eq_true] at this
  exact this.2
theorem ascii_app (x y : List UInt8) : ascii (x ++ y) = (ascii x && ascii y) := by unfold ascii; rw [List.all_append]
theorem ascii_cons (c : UInt8) (y : List UInt8) : ascii (c :: y) = (decide (c.toNat < 128) && ascii y) := rfl
theorem ascii_clock (s : Int) (h0 : 0 ≤ s) (h1 : s < 86400) : ascii (clock s) = true := by
  unfold clock
  rw [ascii_app, ascii_cons, ascii_app, ascii_cons, ascii_letters (d2_all _ (by omega) (by omega)), ascii_letters (d2_all _ (by omega) (by omega)), ascii_letters (d2_all _ (by omega) (by omega))]
  rfl
theorem ascii_f0 {y m d w s : Int} (h : Parts y m d w s) : ascii (f0 y m d w s) = true := by
  obtain ⟨a, b, c, e, f, g, i, j, k, l⟩ := h
  unfold f0
  simp only [ascii_app, ascii_cons, ascii_letters (dayN_all i j).2.1, ascii_letters (d2_all d (by omega) (by omega)), ascii_letters (monN_all c e).1, ascii_letters (d4_all y (by omega) (by omega)), ascii_clock s k l, ascii_letters gmt_all]
  rfl
theorem ascii_f1 {y m d w s : Int} (h : Parts y m d w s) : ascii (f1 y m d w s) = true := by
  obtain ⟨a, b, c, e, f, g, i, j, k, l⟩ := h
  unfold f1
  simp only [ascii_app, ascii_cons, ascii_letters (dayN_all i j).1, ascii_letters (d2_all d (by omega) (by omega)), ascii_letters (monN_all c e).1, ascii_letters (d2_all (y % 100) (by omega) (by omega)), ascii_clock s k l, ascii_letters gmt_all]
  rfl
theorem ascii_f2 {y m d w s : Int} (h : Parts y m d w s) : ascii (f2 y m d w s) = true := by
  obtain ⟨a, b, c, e, f, g, i, j, k, l⟩ := h
  have hdb : ascii (db d) = true := by
    unfold db
    by_cases h : d < 10
    · rw [if_pos h, ascii_cons, ascii_letters (d1_all (d % 10) (by omega) (by omega))]; rfl
    · rw [if_neg h]; exact ascii_letters (d2_all d (by omega) (by omega))
  unfold f2
  simp only [ascii_app, ascii_cons, ascii_letters (dayN_all i j).2.1, hdb, ascii_letters (monN_all c e).1, ascii_letters (d4_all y (by omega) (by omega)), ascii_clock s k l]
  rfl
theorem len_clock (s : Int) : (clock s).length = 8 := by simp [clock, d2]
theorem len_f0 {y m d w s : Int} (h : Parts y m d w s) : (f0 y m d w s).length = 29 := by
  have h1 := (monN_all h.m0 h.m1).2
  have h2 := (dayN_all h.w0 h.w1).2.2
  simp [f0, d2, d4, gmt, len_clock, h1]; omega
theorem len_f1 {y m d w s : Int} (h : Parts y m d w s) : (f1 y m d w s).length = (dayN w).length + 24 := by
  have h1 := (monN_all h.m0 h.m1).2
  simp [f1, d2, gmt, len_clock, h1]
theorem len_f2 {y m d w s : Int} (h : Parts y m d w s) : (f2 y m d w s).length = 24 := by
  have h1 := (monN_all h.m0 h.m1).2
  have h2 := (dayN_all h.w0 h.w1).2.2
  simp [f2, db, d4, len_clock, h1]; omega

end Dt

namespace Dt
open Go

/-- Is a rune a mark between words? -/
def sepR (n : Nat) : Bool := n == 32 || (n == 44 || (n == 45 || n == 58))
theorem sepR_c (c : UInt8) : sepR c.toNat = sep c := by
  unfold sepR sep
  have h (k : UInt8) (n : Nat) (e : k.toNat = n) : (c.toNat == n) = (c == k) := by
    rw [Bool.eq_iff_iff, beq_iff_eq, beq_iff_eq, ← UInt8.toNat_inj, e]
  rw [h 32 32 rfl, h 44 44 rfl, h 45 45 rfl, h 58 58 rfl]
theorem ext_list (s : ByteArray) (f k : Nat) : (s.extract f k).data.toList = (s.data.toList.take k).drop f := by
  simp [ByteArray.data_extract, List.drop_take]
/-- The field under way. -/
def cur (l : List UInt8) (pos : Nat) : Option Nat → List UInt8
  | none => []
  | some a => (l.take pos).drop a

theorem spans_words (s : ByteArray) (ha : ascii s.data.toList = true) : ∀ (f pos : Nat) (st : Option Nat) (acc : List (Nat × Nat)), s.size ≤ pos + f → pos ≤ s.size → (∀ a, st = some a → a < pos) →
    (Lib.closeSpans s (Lib.spansFromP sepR s f pos st acc)).map (fun x => (s.extract x.1 x.2).data.toList) = acc.map (fun x => (s.extract x.1 x.2).data.toList) ++ wordsFrom (s.data.toList.drop pos) (cur s.data.toList pos st) := by
  have hsz : s.data.toList.length = s.size := by rw [ByteArray.size]; simp
  have hend : ∀ (f : Nat) (st : Option Nat) (acc : List (Nat × Nat)), (∀ a, st = some a → a < s.size) →
      (Lib.closeSpans s (Lib.spansFromP sepR s f s.size st acc)).map (fun x => (s.extract x.1 x.2).data.toList) = acc.map (fun x => (s.extract x.1 x.2).data.toList) ++ wordsFrom (s.data.toList.drop s.size) (cur s.data.toList s.size st) := by
    intro f st acc hst
    rw [Lib.spansFromP_end _ _ _ _ _ _ (by omega), List.drop_of_length_le (by omega)]
    cases st with
    | none => simp [Lib.closeSpans, cur, wordsFrom]
    | some a =>
      have := hst a rfl
      have hne : cur s.data.toList s.size (some a) ≠ [] := by intro e; have := congrArg List.length e; simp [cur] at this; omega
      simp only [Lib.closeSpans, wordsFrom, List.map_append, List.map_cons, List.map_nil, ext_list]
      rw [if_neg hne]
      rfl
  intro f
  induction f with
  | zero =>
    intro pos st acc h0 h1 hst
    obtain rfl : pos = s.size := by omega
    exact hend 0 st acc hst
  | succ f ih =>
    intro pos st acc h0 h1 hst
    by_cases hp : pos < s.size
    · have hc : s[pos].toNat < 128 := by
        have := List.all_eq_true.1 ha s[pos] (by
          show s.data.toList[pos]'(by omega) ∈ s.data.toList
          exact List.getElem_mem _)
        simpa using this
      have hd := decode_ascii s pos hp hc
      have hdrop : s.data.toList.drop pos = s[pos] :: s.data.toList.drop (pos + 1) := by
        rw [List.drop_eq_getElem_cons (by omega)]; rfl
      have htake : s.data.toList.take (pos + 1) = s.data.toList.take pos ++ [s[pos]] := by
        rw [List.take_succ_eq_append_getElem (by omega)]; rfl
      have hlt : (s.data.toList.take pos).length = pos := by rw [List.length_take]; omega
      simp only [Lib.spansFromP, hp, if_true, hd, sepR_c]
      rw [hdrop]
      cases hs : sep s[pos]
      · rw [if_neg (by decide)]
        simp only [wordsFrom, hs]
        rw [if_neg (by decide)]
        cases st with
        | none =>
          rw [ih (pos + 1) (some pos) acc (by omega) (by omega) (fun a h => by cases h; omega)]
          congr 2
          simp only [cur]
          rw [htake, List.drop_append_of_le_length (by omega), List.drop_of_length_le (by omega)]
        | some a =>
          have := hst a rfl
          rw [ih (pos + 1) (some a) acc (by omega) (by omega) (fun b h => by cases h; omega)]
          congr 2
          simp only [cur]
          rw [htake, List.drop_append_of_le_length (by omega)]
      · rw [if_pos rfl]
        simp only [wordsFrom, hs, if_true]
        cases st with
        | none =>
          rw [ih (pos + 1) none acc (by omega) (by omega) (fun a h => by cases h)]
          simp [cur]
        | some a =>
          have := hst a rfl
          have hne : cur s.data.toList pos (some a) ≠ [] := by intro e; have := congrArg List.length e; simp [cur] at this; omega
          rw [if_neg hne, ih (pos + 1) none (acc ++ [(a, pos)]) (by omega) (by omega) (fun a h => by cases h)]
          rw [List.map_append, List.map_cons, List.map_nil, ext_list, List.append_assoc]
          rfl
    · obtain rfl : pos = s.size := by omega
      exact hend (f + 1) st acc hst

/-- The library's fields, as lists. -/
def fields (s : ByteArray) : List (List UInt8) := (Lib.goFieldsP sepR s).map fun x => x.data.toList
theorem fields_words (s : ByteArray) (ha : ascii s.data.toList = true) : fields s = words s.data.toList := by
  unfold fields Lib.goFieldsP Lib.spansOfP
  rw [List.map_map]
  have := spans_words s ha s.size 0 none [] (by omega) (by omega) (fun a h => by cases h)
  exact this

end Dt

namespace Dt

def last : Int := 253402300799
def lastForms : Int := 3155759999

/-- The year of two digits. -/
def full (n : Int) : Int := if n < 70 then 2000 + n else 1900 + n
def mIdx (w : List UInt8) : Option Nat := (List.range 12).find? fun i => monthNames.getD i [] == w
theorem mIdx_some {i : Nat} {w : List UInt8} (h : i < 12) (e : monthNames.getD i [] = w) : mIdx w = some i := by
  subst e
  have : i = 0 ∨ i = 1 ∨ i = 2 ∨ i = 3 ∨ i = 4 ∨ i = 5 ∨ i = 6 ∨ i = 7 ∨ i = 8 ∨ i = 9 ∨ i = 10 ∨ i = 11 := by omega
  rcases this with rfl | rfl | rfl | rfl | rfl | rfl | rfl | rfl | rfl | rfl | rfl | rfl <;> decide
theorem mIdx_none {w : List UInt8} (h : ∀ i, i < 12 → monthNames.getD i [] ≠ w) : mIdx w = none := by
  unfold mIdx
  rw [List.find?_eq_none]
  intro i hi
  have := h i (List.mem_range.1 hi)
  simpa using this
theorem mIdx_lt {w : List UInt8} {i : Nat} (h : mIdx w = some i) : i < 12 := List.mem_range.1 (List.mem_of_find?_eq_some h)
theorem mIdx_at {w : List UInt8} {i : Nat} (h : mIdx w = some i) : monthNames.getD i [] = w := by
  have := List.find?_some h
  simpa using this

/-- What a word says as the part of that place, and whether it says one. -/
def worthP (place : Nat) (w : List UInt8) : Int × Bool :=
  if place = 1 then (match mIdx w with | some i => ((i : Int), true) | none => (0, false))
  else (if place = 0 ∧ w.length = 2 then full (Oct.number 10 9999 w).1 else (Oct.number 10 9999 w).1, decide ((Oct.number 10 9999 w).2 = 0))
theorem num_bd (b : Nat) (most : Int) : ∀ (l : List UInt8) (n m : Int), 0 ≤ n → n ≤ most → Oct.num b most n l = some m → 0 ≤ m ∧ m ≤ most := by
  intro l
  induction l with
  | nil => intro n m h0 h1 h; cases h; exact ⟨h0, h1⟩
  | cons c l ih =>
    intro n m h0 h1 h
    simp only [Oct.num] at h
    split at h
    · cases h
    · refine ih _ m ?_ (by omega) h
      have : 0 ≤ n * (b : Int) := Int.mul_nonneg h0 (by omega)
      omega
theorem number_bd (w : List UInt8) : 0 ≤ (Oct.number 10 9999 w).1 ∧ (Oct.number 10 9999 w).1 ≤ 9999 := by
  unfold Oct.number
  split
  · decide
  · split
    · decide
    · split
      · decide
      · rename_i n h
        exact num_bd 10 9999 w 0 n (by omega) (by omega) h
theorem worthP_bd (i : Nat) (w : List UInt8) : 0 ≤ (worthP i w).1 ∧ (worthP i w).1 ≤ 11899 := by
  have := number_bd w
  unfold worthP
  split
  · split
    · rename_i k h
      have := mIdx_lt h
      simp; omega
    · decide
  · unfold full
    simp only
    (repeat' split) <;> omega
theorem worthP_month (w : List UInt8) : (worthP 1 w).1 ≤ 11 := by
  unfold worthP
  rw [if_pos rfl]
  split
  · rename_i k h
    have := mIdx_lt h
    simp; omega
  · decide

/-- newYear, also of years that have none. -/
def nyT (y : Int) : Int := 365 * (y - 1970) + (y - 1969).tdiv 4 - (y - 1901).tdiv 100 + (y - 1601).tdiv 400
theorem nyT_ny {y : Int} (h : 1970 ≤ y) : nyT y = ny y := by
  unfold nyT ny
  rw [Int.tdiv_eq_ediv_of_nonneg (by omega), Int.tdiv_eq_ediv_of_nonneg (by omega), Int.tdiv_eq_ediv_of_nonneg (by omega)]
def mom (y m d h mi se : Int) : Int := (nyT y + d - 1 + cum y m) * 86400 + h * 3600 + mi * 60 + se
theorem nyT_bd (y : Int) (h0 : 0 ≤ y) (h1 : y ≤ 11899) : -1000000 ≤ nyT y ∧ nyT y ≤ 4000000 := by
  unfold nyT
  have a : (y - 1969).tdiv 4 ≤ 10000 ∧ -1000 ≤ (y - 1969).tdiv 4 := by
    rw [Int.tdiv_eq_ediv]; split <;> (have := Int.sign_eq_one_of_pos (a := (4 : Int)) (by omega)) <;> omega
  have b : (y - 1901).tdiv 100 ≤ 10000 ∧ -1000 ≤ (y - 1901).tdiv 100 := by
    rw [Int.tdiv_eq_ediv]; split <;> (have := Int.sign_eq_one_of_pos (a := (100 : Int)) (by omega)) <;> omega
  have c : (y - 1601).tdiv 400 ≤ 10000 ∧ -1000 ≤ (y - 1601).tdiv 400 := by
    rw [Int.tdiv_eq_ediv]; split <;> (have := Int.sign_eq_one_of_pos (a := (400 : Int)) (by omega)) <;> omega
  omega

def places (n : Nat) : List Nat := if n = 8 then [3, 2, 1, 4, 5, 6] else if n = 7 then [6, 1, 2, 3, 4, 5] else []
/-- What the word at part i's place says. -/
def part (ws : List (List UInt8)) (i : Nat) : Int × Bool := worthP i (ws.getD ((places ws.length).getD i 0) [])
/-- The parts of words, as a moment. -/
def momW (ws : List (List UInt8)) : Int := mom (part ws 0).1 (part ws 1).1 (part ws 2).1 (part ws 3).1 (part ws 4).1 (part ws 5).1
def readable (ws : List (List UInt8)) : Bool := (part ws 0).2 && (part ws 1).2 && (part ws 2).2 && (part ws 3).2 && (part ws 4).2 && (part ws 5).2
/-- What read answers. -/
def readW (ws : List (List UInt8)) : Int × Bool :=
  if ws.length = 8 ∨ ws.length = 7 then (if readable ws then (momW ws, decide (0 ≤ momW ws) && decide (momW ws ≤ last)) else (0, false)) else (0, false)

theorem worth_dc (k : Int) (h0 : 0 ≤ k) (h1 : k < 10) : (Oct.worth (dc k) : Int) = k := by
  unfold dc
  rw [Oct.ch_worth _ (by omega)]; omega
theorem dig_dc (k : Int) (h0 : 0 ≤ k) (h1 : k < 10) : Oct.dig 10 (dc k) = true := by
  have := worth_dc k h0 h1
  unfold Oct.dig
  simp; omega
theorem number_d1 (n : Int) (h0 : 0 ≤ n) (h1 : n < 10) : Oct.number 10 9999 [dc n] = (n, 0) := by
  have := worth_dc n h0 h1
  unfold Oct.number
  rw [if_neg (by simp [Oct.allOf, dig_dc n h0 h1]), if_neg (by omega)]
  simp only [Oct.num]
  rw [if_neg (by omega), this]
  simp
theorem number_d2 (n : Int) (h0 : 0 ≤ n) (h1 : n < 100) : Oct.number 10 9999 (d2 n) = (n, 0) := by
  have a := worth_dc (n / 10) (by omega) (by omega)
  have b := worth_dc (n % 10) (by omega) (by omega)
  unfold Oct.number d2
  rw [if_neg (by simp [Oct.allOf, dig_dc (n / 10) (by omega) (by omega), dig_dc (n % 10) (by omega) (by omega)]), if_neg (by omega)]
  simp only [Oct.num]
  rw [if_neg (by omega), if_neg (by omega)]
  simp only [Prod.mk.injEq, and_true]
  omega
theorem number_d4 (n : Int) (h0 : 0 ≤ n) (h1 : n < 10000) : Oct.number 10 9999 (d4 n) = (n, 0) := by
  have a := worth_dc (n / 1000) (by omega) (by omega)
  have b := worth_dc (n / 100 % 10) (by omega) (by omega)
  have c := worth_dc (n / 10 % 10) (by omega) (by omega)
  have d := worth_dc (n % 10) (by omega) (by omega)
  unfold Oct.number d4
  rw [if_neg (by simp [Oct.allOf, dig_dc (n / 1000) (by omega) (by omega), dig_dc (n / 100 % 10) (by omega) (by omega), dig_dc (n / 10 % 10) (by omega) (by omega), dig_dc (n % 10) (by omega) (by omega)]), if_neg (by omega)]
  simp only [Oct.num]
  rw [if_neg (by omega), if_neg (by omega), if_neg (by omega), if_neg (by omega)]
  simp only [Prod.mk.injEq, and_true]
  omega
theorem worthP_d4 (n : Int) (h0 : 0 ≤ n) (h1 : n < 10000) : worthP 0 (d4 n) = (n, true) := by
  unfold worthP
  rw [if_neg (by omega), if_neg (by simp [d4]), number_d4 n h0 h1]; rfl
theorem worthP_y2 (n : Int) (h0 : 0 ≤ n) (h1 : n < 100) : worthP 0 (d2 n) = (full n, true) := by
  unfold worthP
  rw [if_neg (by omega), if_pos (by simp [d2]), number_d2 n h0 h1]; rfl
theorem worthP_d2 (i : Nat) (n : Int) (hi : 2 ≤ i) (h0 : 0 ≤ n) (h1 : n < 100) : worthP i (d2 n) = (n, true) := by
  unfold worthP
  rw [if_neg (by omega), if_neg (by omega), number_d2 n h0 h1]; rfl
theorem worthP_d1 (i : Nat) (n : Int) (hi : 2 ≤ i) (h0 : 0 ≤ n) (h1 : n < 10) : worthP i [dc n] = (n, true) := by
  unfold worthP
  rw [if_neg (by omega), if_neg (by omega), number_d1 n h0 h1]; rfl
theorem worthP_mon (m : Int) (h0 : 0 ≤ m) (h1 : m ≤ 11) : worthP 1 (monN m) = (m, true) := by
  unfold worthP
  rw [if_pos rfl, mIdx_some (w := monN m) (i := m.toNat) (by omega) rfl]
  simp; omega

theorem momW_f0 {y m d w s : Int} (h : Parts y m d w s) : readW (words (f0 y m d w s)) = (mom y m d (s / 3600) (s / 60 % 60) (s % 60), decide (0 ≤ mom y m d (s / 3600) (s / 60 % 60) (s % 60)) && decide (mom y m d (s / 3600) (s / 60 % 60) (s % 60) ≤ last)) := by
  rw [words_f0 h]
  obtain ⟨a, b, c, e, f, g, i, j, k, l⟩ := h
  unfold readW readable momW part
  simp [places, worthP_d4 y (by omega) (by omega), worthP_mon m c e, worthP_d2 2 d (by omega) (by omega) (by omega), worthP_d2 3 (s / 3600) (by omega) (by omega) (by omega), worthP_d2 4 (s / 60 % 60) (by omega) (by omega) (by omega), worthP_d2 5 (s % 60) (by omega) (by omega) (by omega)]
theorem momW_f1 {y m d w s : Int} (h : Parts y m d w s) : readW (words (f1 y m d w s)) = (mom (full (y % 100)) m d (s / 3600) (s / 60 % 60) (s % 60), decide (0 ≤ mom (full (y % 100)) m d (s / 3600) (s / 60 % 60) (s % 60)) && decide (mom (full (y % 100)) m d (s / 3600) (s / 60 % 60) (s % 60) ≤ last)) := by
  rw [words_f1 h]
  obtain ⟨a, b, c, e, f, g, i, j, k, l⟩ := h
  unfold readW readable momW part
  simp [places, worthP_y2 (y % 100) (by omega) (by omega), worthP_mon m c e, worthP_d2 2 d (by omega) (by omega) (by omega), worthP_d2 3 (s / 3600) (by omega) (by omega) (by omega), worthP_d2 4 (s / 60 % 60) (by omega) (by omega) (by omega), worthP_d2 5 (s % 60) (by omega) (by omega) (by omega)]
theorem momW_f2 {y m d w s : Int} (h : Parts y m d w s) : readW (words (f2 y m d w s)) = (mom y m d (s / 3600) (s / 60 % 60) (s % 60), decide (0 ≤ mom y m d (s / 3600) (s / 60 % 60) (s % 60)) && decide (mom y m d (s / 3600) (s / 60 % 60) (s % 60) ≤ last)) := by
  rw [words_f2 h]
  obtain ⟨a, b, c, e, f, g, i, j, k, l⟩ := h
  have hd : worthP 2 (if d < 10 then [dc d] else d2 d) = (d, true) := by
    split
    · exact worthP_d1 2 d (by omega) (by omega) (by omega)
    · exact worthP_d2 2 d (by omega) (by omega) (by omega)
  unfold readW readable momW part
  simp [places, worthP_d4 y (by omega) (by omega), worthP_mon m c e, hd, worthP_d2 3 (s / 3600) (by omega) (by omega) (by omega), worthP_d2 4 (s / 60 % 60) (by omega) (by omega) (by omega), worthP_d2 5 (s % 60) (by omega) (by omega) (by omega)]

/-- A moment's parts. -/
theorem parts_of {a : Int} (h0 : 0 ≤ a) (h1 : a ≤ last) : ∃ y m d, IsDate (a / 86400) y m d ∧ Parts y m d (wday (a / 86400)) (a % 86400) := by
  unfold last at h1
  obtain ⟨y, m, d, h⟩ := exDate (a / 86400) (by omega) (by omega)
  have := ml_bd y m
  have := wday_bd (a / 86400)
  obtain ⟨p, q, r, s, t, u, v⟩ := h
  exact ⟨y, m, d, ⟨p, q, r, s, t, u, v⟩, p, q, r, s, t, by omega, this.1, this.2, by omega, by omega⟩
theorem mom_back {a y m d : Int} (_h0 : 0 ≤ a) (h : IsDate (a / 86400) y m d) : mom y m d (a % 86400 / 3600) (a % 86400 / 60 % 60) (a % 86400 % 60) = a := by
  have hn := h.n_
  unfold mom
  rw [nyT_ny h.y0]
  omega
theorem years_forms {a y m d : Int} (h : IsDate (a / 86400) y m d) : a ≤ lastForms ↔ y ≤ 2069 := by
  have h1 := h.in_year
  have e : ny 2070 = 36525 := rfl
  unfold lastForms
  constructor
  · intro hl
    rcases Int.lt_or_le 2069 y with g | g
    · have := ny_mono 2070 y (by omega); omega
    · exact g
  · intro hl
    have := ny_mono (y + 1) 2070 (by omega); omega
theorem full_back {y : Int} (h0 : 1970 ≤ y) (h1 : y ≤ 2069) : full (y % 100) = y := by unfold full; split <;> omega
/-- What two digits say of a year lies in the forms' years. -/
theorem mom_short {a y m d : Int} (h : IsDate (a / 86400) y m d) : mom (full (y % 100)) m d (a % 86400 / 3600) (a % 86400 / 60 % 60) (a % 86400 % 60) ≤ lastForms := by
  obtain ⟨y', hy⟩ : ∃ y', full (y % 100) = y' := ⟨_, rfl⟩
  have hb : 1970 ≤ y' ∧ y' ≤ 2069 := by rw [← hy]; unfold full; split <;> omega
  rw [hy]
  have hd : d ≤ 31 := by have := ml_bd y m; have := h.d1; omega
  have hc := cum_mono y' m 11 h.m0 h.m1 (by omega)
  have h11 : cum y' 11 = 334 + lp y' := rfl
  have hl := lp_01 y'
  have e : ny 2070 = 36525 := rfl
  have hs : nyT y' + d - 1 + cum y' m ≤ 36524 := by
    rw [nyT_ny hb.1]
    by_cases g : y' = 2069
    · subst g
      have e' : ny 2069 = 36160 := rfl
      have e2 : lp 2069 = 0 := by decide
      omega
    · have a1 := ny_succ y'
      have a2 := ny_mono (y' + 1) 2069 (by omega)
      have e' : ny 2069 = 36160 := rfl
      omega
  unfold mom lastForms
  omega

/-- The text is a form of moment a. -/
def Says (l : List UInt8) (a : Int) : Prop := 0 ≤ a ∧ a ≤ last ∧ (l = form a 0 ∨ (a ≤ lastForms ∧ l = form a 1) ∨ l = form a 2)
/-- What Parse answers of a text with these words. -/
noncomputable def parseW (l : List UInt8) (ws : List (List UInt8)) : Int × Int :=
  open Classical in
  if 33 < l.length then (0, 10) else
  if (readW ws).2 = true ∧ (l = form (readW ws).1 0 ∨ l = form (readW ws).1 1 ∨ l = form (readW ws).1 2) then ((readW ws).1, 0) else (0, 10)

theorem Says.read {l : List UInt8} {a : Int} (h : Says l a) : readW (words l) = (a, true) ∧ l.length ≤ 33 ∧ ascii l = true := by
  obtain ⟨h0, h1, h⟩ := h
  obtain ⟨y, m, d, hd, hp⟩ := parts_of h0 h1
  have hm := mom_back h0 hd
  have hw := (dayN_all hp.w0 hp.w1).2.2
  rcases h with rfl | ⟨hl, rfl⟩ | rfl
  · rw [form0 hd]
    refine ⟨?_, by rw [len_f0 hp]; omega, ascii_f0 hp⟩
    rw [momW_f0 hp, hm]
    simp [h0, h1]
  · rw [form1 hd]
    refine ⟨?_, by rw [len_f1 hp]; omega, ascii_f1 hp⟩
    have := (years_forms hd).1 hl
    rw [momW_f1 hp, full_back hd.y0 this, hm]
    simp [h0, h1]
  · rw [form2 hd]
    refine ⟨?_, by rw [len_f2 hp]; omega, ascii_f2 hp⟩
    rw [momW_f2 hp, hm]
    simp [h0, h1]
theorem Says.one {l : List UInt8} {a b : Int} (h : Says l a) (h' : Says l b) : a = b := by
  have := h.read.1.symm.trans h'.read.1
  exact (Prod.mk.inj this).1
theorem Says.parse {l : List UInt8} {a : Int} {ws : List (List UInt8)} (h : Says l a) (hw : ascii l = true → ws = words l) : parseW l ws = (a, 0) := by
  obtain ⟨h1, h2, h3⟩ := h.read
  rw [hw h3]
  unfold parseW
  rw [if_neg (by omega), h1, if_pos]
  refine ⟨rfl, ?_⟩
  rcases h.2.2 with e | ⟨_, e⟩ | e
  · exact .inl e
  · exact .inr (.inl e)
  · exact .inr (.inr e)
theorem says_of {l : List UInt8} {ws : List (List UInt8)} {a : Int} (hr : readW ws = (a, true)) (hw : ascii l = true → ws = words l) (hf : l = form a 0 ∨ l = form a 1 ∨ l = form a 2) : Says l a := by
  have hb : 0 ≤ a ∧ a ≤ last := by
    unfold readW at hr
    split at hr
    · split at hr
      · simp only [Prod.mk.injEq, Bool.and_eq_true, decide_eq_true_eq] at hr
        rw [← hr.1]; exact hr.2
      · simp at hr
    · simp at hr
  refine ⟨hb.1, hb.2, ?_⟩
  rcases hf with e | e | e
  · exact .inl e
  · refine .inr (.inl ⟨?_, e⟩)
    obtain ⟨y, m, d, hd, hp⟩ := parts_of hb.1 hb.2
    have he := e
    rw [form1 hd] at he
    have hs := mom_short hd
    rw [hw (by rw [he]; exact ascii_f1 hp), he, momW_f1 hp] at hr
    rw [(Prod.mk.inj hr).1] at hs
    exact hs
  · exact .inr (.inr e)
theorem silent_parse {l : List UInt8} {ws : List (List UInt8)} (h : ∀ a, ¬ Says l a) (hw : ascii l = true → ws = words l) : parseW l ws = (0, 10) := by
  unfold parseW
  split
  · rfl
  · rw [if_neg]
    rintro ⟨hr, hf⟩
    exact h _ (says_of (a := (readW ws).1) (by rw [← hr]) hw hf)

end Dt

namespace Dt

def digit (c : UInt8) : Bool := decide (48 ≤ c.toNat) && decide (c.toNat ≤ 57)
def numV (l : List UInt8) : Int := l.foldl (fun n c => n * 10 + ((c.toNat : Int) - 48)) 0
/-- What digits say; -1: they are none. -/
def numR (l : List UInt8) : Int := if l.all digit then numV l else -1
theorem numV_snoc (l : List UInt8) (c : UInt8) : numV (l ++ [c]) = numV l * 10 + ((c.toNat : Int) - 48) := by unfold numV; rw [List.foldl_append]; rfl
theorem digit_bd {c : UInt8} (h : digit c = true) : 48 ≤ c.toNat ∧ c.toNat ≤ 57 := by
  unfold digit at h; simpa using h
theorem numV_bd (l : List UInt8) (h : l.all digit = true) : 0 ≤ numV l ∧ numV l < 10 ^ l.length := by
  have key : ∀ r : List UInt8, r.reverse.all digit = true → 0 ≤ numV r.reverse ∧ numV r.reverse < 10 ^ r.length := by
    intro r
    induction r with
    | nil => intro _; exact ⟨by decide, by decide⟩
    | cons c r ih =>
      intro h
      rw [List.reverse_cons, List.all_append, Bool.and_eq_true] at h
      have h1 := ih h.1
      have h2 := digit_bd (c := c) (by simpa using h.2)
      rw [List.reverse_cons, numV_snoc, List.length_cons, Int.pow_succ]
      omega
  have := key l.reverse (by simpa using h)
  simpa using this
theorem numR_bd (l : List UInt8) (n : Nat) (hn : l.length ≤ n) : -1 ≤ numR l ∧ numR l < 10 ^ n := by
  have hp : (10 : Int) ^ l.length ≤ 10 ^ n := by have := Nat.pow_le_pow_right (n := 10) (by omega) hn; exact_mod_cast this
  have h1 : (0 : Int) < 10 ^ n := Int.pow_pos (by omega)
  unfold numR
  split
  · have := numV_bd l (by assumption); omega
  · omega
def finR (l : List UInt8) : Int := match mIdx l with | some i => (i : Int) | none => -1
theorem finR_bd (l : List UInt8) : -1 ≤ finR l ∧ finR l ≤ 11 := by
  unfold finR
  split
  · have := mIdx_lt (by assumption); omega
  · omega
/-- Are these a moment's parts? -/
def valid (y m d h mi se : Int) : Prop := 1970 ≤ y ∧ 0 ≤ m ∧ 1 ≤ d ∧ d ≤ ml y m ∧ 0 ≤ h ∧ h ≤ 23 ∧ 0 ≤ mi ∧ mi ≤ 59 ∧ 0 ≤ se ∧ se ≤ 59
instance (y m d h mi se : Int) : Decidable (valid y m d h mi se) := by unfold valid; exact inferInstance
def momR (y m d h mi se : Int) : Int := if valid y m d h mi se then (d - 1 + ny y + cum y m) * 86400 + h * 3600 + mi * 60 + se else -1
theorem momR_date {y m d h mi se : Int} (hy : y ≤ 9999) (hm : m ≤ 11) (h0 : 0 ≤ momR y m d h mi se) : ∃ D, IsDate (momR y m d h mi se / 86400) y m D ∧ 0 ≤ momR y m d h mi se ∧ momR y m d h mi se ≤ last := by
  unfold momR at h0 ⊢
  split
  · rename_i hv
    obtain ⟨a, b, c, e, f, g, i, j, k, l⟩ := hv
    have hd : IsDate (d - 1 + ny y + cum y m) y m d := ⟨a, hy, b, hm, c, e, by omega⟩
    have hr := hd.range
    have e2 : ((d - 1 + ny y + cum y m) * 86400 + h * 3600 + mi * 60 + se) / 86400 = d - 1 + ny y + cum y m := by omega
    rw [e2]
    refine ⟨d, hd, by omega, ?_⟩
    unfold last; omega
  · rename_i hv
    rw [if_neg hv] at h0; omega
theorem momR_of {a y m d : Int} (_h0 : 0 ≤ a) (h : IsDate (a / 86400) y m d) : momR y m d (a % 86400 / 3600) (a % 86400 / 60 % 60) (a % 86400 % 60) = a := by
  have hn := h.n_
  have hv : valid y m d (a % 86400 / 3600) (a % 86400 / 60 % 60) (a % 86400 % 60) := ⟨h.y0, h.m0, h.d0, h.d1, by omega, by omega, by omega, by omega, by omega, by omega⟩
  unfold momR
  rw [if_pos hv]
  omega

def cut (l : List UInt8) (f t : Nat) : List UInt8 := (l.take t).drop f
theorem cut_len (l : List UInt8) (f t : Nat) : (cut l f t).length ≤ t - f := by unfold cut; rw [List.length_drop, List.length_take]; omega
def at0 (l : List UInt8) : Int := momR (numR (cut l 12 16)) (finR (cut l 8 11)) (numR (cut l 5 7)) (numR (cut l 17 19)) (numR (cut l 20 22)) (numR (cut l 23 25))
def from2 (l : List UInt8) : Nat := if l.getD 8 0 = 32 then 9 else 8
def at2 (l : List UInt8) : Int := momR (numR (cut l 20 24)) (finR (cut l 4 7)) (numR (cut l (from2 l) 10)) (numR (cut l 11 13)) (numR (cut l 14 16)) (numR (cut l 17 19))
def y1 (l : List UInt8) (k : Nat) : Int := numR (cut l (k + 9) (k + 11))
def at1 (l : List UInt8) (k : Nat) : Int := momR ((if y1 l k < 70 then y1 l k + 100 else y1 l k) + 1900) (finR (cut l (k + 5) (k + 8))) (numR (cut l (k + 2) (k + 4))) (numR (cut l (k + 12) (k + 14))) (numR (cut l (k + 15) (k + 17))) (numR (cut l (k + 18) (k + 20)))

theorem dc_nat (k : Int) (h0 : 0 ≤ k) (h1 : k < 10) : ((dc k).toNat : Int) = 48 + k := by
  unfold dc
  rw [Oct.ch_small _ (by omega)]; omega
theorem digit_dc (k : Int) (h0 : 0 ≤ k) (h1 : k < 10) : digit (dc k) = true := by
  have := dc_nat k h0 h1
  unfold digit
  simp; omega
theorem numR_d1 (n : Int) (h0 : 0 ≤ n) (h1 : n < 10) : numR [dc n] = n := by
  have a := dc_nat n h0 h1
  unfold numR
  rw [if_pos (by simp [digit_dc n h0 h1])]
  simp [numV]; omega
theorem numR_d2 (n : Int) (h0 : 0 ≤ n) (h1 : n < 100) : numR (d2 n) = n := by
  have a := dc_nat (n / 10) (by omega) (by omega)
  have b := dc_nat (n % 10) (by omega) (by omega)
  unfold numR d2
  rw [if_pos (by simp [digit_dc (n / 10) (by omega) (by omega), digit_dc (n % 10) (by omega) (by omega)])]
  simp [numV]; omega
theorem numR_d4 (n : Int) (h0 : 0 ≤ n) (h1 : n < 10000) : numR (d4 n) = n := by
  have a := dc_nat (n / 1000) (by omega) (by omega)
  have b := dc_nat (n / 100 % 10) (by omega) (by omega)
  have c := dc_nat (n / 10 % 10) (by omega) (by omega)
  have d := dc_nat (n % 10) (by omega) (by omega)
  unfold numR d4
  rw [if_pos (by simp [digit_dc (n / 1000) (by omega) (by omega), digit_dc (n / 100 % 10) (by omega) (by omega), digit_dc (n / 10 % 10) (by omega) (by omega), digit_dc (n % 10) (by omega) (by omega)])]
  simp [numV]; omega
theorem finR_mon (m : Int) (h0 : 0 ≤ m) (h1 : m ≤ 11) : finR (monN m) = m := by
  unfold finR
  rw [mIdx_some (w := monN m) (i := m.toNat) (by omega) rfl]
  simp; omega

theorem three {w : Int} (h0 : 0 ≤ w) (h1 : w < 7) : ∃ a b c, (dayN w).take 3 = [a, b, c] := by
  rcases w_cases h0 h1 with rfl | rfl | rfl | rfl | rfl | rfl | rfl <;> exact ⟨_, _, _, rfl⟩
theorem threeM {m : Int} (h0 : 0 ≤ m) (h1 : m ≤ 11) : ∃ a b c, monN m = [a, b, c] := by
  rcases m_cases h0 h1 with rfl | rfl | rfl | rfl | rfl | rfl | rfl | rfl | rfl | rfl | rfl | rfl <;> exact ⟨_, _, _, rfl⟩
theorem at0_f0 {y m d w s : Int} (h : Parts y m d w s) : at0 (f0 y m d w s) = momR y m d (s / 3600) (s / 60 % 60) (s % 60) := by
  obtain ⟨a, b, c, e, f, g, i, j, k, l⟩ := h
  obtain ⟨p1, p2, p3, hp⟩ := three i j
  obtain ⟨q1, q2, q3, hq⟩ := threeM c e
  have hm := finR_mon m c e
  rw [hq] at hm
  have hL : f0 y m d w s = p1 :: p2 :: p3 :: 44 :: 32 :: (d2 d ++ 32 :: q1 :: q2 :: q3 :: 32 :: (d4 y ++ 32 :: (d2 (s / 3600) ++ 58 :: (d2 (s / 60 % 60) ++ 58 :: (d2 (s % 60) ++ 32 :: gmt))))) := by
    unfold f0 clock; rw [hp, hq]; simp
  unfold at0
  rw [hL]
  have e1 : cut (p1 :: p2 :: p3 :: 44 :: 32 :: (d2 d ++ 32 :: q1 :: q2 :: q3 :: 32 :: (d4 y ++ 32 :: (d2 (s / 3600) ++ 58 :: (d2 (s / 60 % 60) ++ 58 :: (d2 (s % 60) ++ 32 :: gmt)))))) 12 16 = d4 y := rfl
  have e2 : cut (p1 :: p2 :: p3 :: 44 :: 32 :: (d2 d ++ 32 :: q1 :: q2 :: q3 :: 32 :: (d4 y ++ 32 :: (d2 (s / 3600) ++ 58 :: (d2 (s / 60 % 60) ++ 58 :: (d2 (s % 60) ++ 32 :: gmt)))))) 8 11 = [q1, q2, q3] := rfl
  have e3 : cut (p1 :: p2 :: p3 :: 44 :: 32 :: (d2 d ++ 32 :: q1 :: q2 :: q3 :: 32 :: (d4 y ++ 32 :: (d2 (s / 3600) ++ 58 :: (d2 (s / 60 % 60) ++ 58 :: (d2 (s % 60) ++ 32 :: gmt)))))) 5 7 = d2 d := rfl
  have e4 : cut (p1 :: p2 :: p3 :: 44 :: 32 :: (d2 d ++ 32 :: q1 :: q2 :: q3 :: 32 :: (d4 y ++ 32 :: (d2 (s / 3600) ++ 58 :: (d2 (s / 60 % 60) ++ 58 :: (d2 (s % 60) ++ 32 :: gmt)))))) 17 19 = d2 (s / 3600) := rfl
  have e5 : cut (p1 :: p2 :: p3 :: 44 :: 32 :: (d2 d ++ 32 :: q1 :: q2 :: q3 :: 32 :: (d4 y ++ 32 :: (d2 (s / 3600) ++ 58 :: (d2 (s / 60 % 60) ++ 58 :: (d2 (s % 60) ++ 32 :: gmt)))))) 20 22 = d2 (s / 60 % 60) := rfl
  have e6 : cut (p1 :: p2 :: p3 :: 44 :: 32 :: (d2 d ++ 32 :: q1 :: q2 :: q3 :: 32 :: (d4 y ++ 32 :: (d2 (s / 3600) ++ 58 :: (d2 (s / 60 % 60) ++ 58 :: (d2 (s % 60) ++ 32 :: gmt)))))) 23 25 = d2 (s % 60) := rfl
  rw [e1, e2, e3, e4, e5, e6, numR_d4 y (by omega) (by omega), hm, numR_d2 d (by omega) (by omega), numR_d2 _ (by omega) (by omega), numR_d2 _ (by omega) (by omega), numR_d2 _ (by omega) (by omega)]
theorem at2_f2 {y m d w s : Int} (h : Parts y m d w s) : at2 (f2 y m d w s) = momR y m d (s / 3600) (s / 60 % 60) (s % 60) := by
  obtain ⟨a, b, c, e, f, g, i, j, k, l⟩ := h
  obtain ⟨p1, p2, p3, hp⟩ := three i j
  obtain ⟨q1, q2, q3, hq⟩ := threeM c e
  have hm := finR_mon m c e
  rw [hq] at hm
  obtain ⟨x, hx⟩ : ∃ x, (if d < 10 then (32 : UInt8) else dc (d / 10)) = x := ⟨_, rfl⟩
  have hL : f2 y m d w s = p1 :: p2 :: p3 :: 32 :: q1 :: q2 :: q3 :: 32 :: x :: dc (d % 10) :: 32 :: (d2 (s / 3600) ++ 58 :: (d2 (s / 60 % 60) ++ 58 :: (d2 (s % 60) ++ 32 :: d4 y))) := by
    unfold f2 clock db; rw [hp, hq, hx]; simp
  unfold at2
  rw [hL]
  have e0 : numR (cut (p1 :: p2 :: p3 :: 32 :: q1 :: q2 :: q3 :: 32 :: x :: dc (d % 10) :: 32 :: (d2 (s / 3600) ++ 58 :: (d2 (s / 60 % 60) ++ 58 :: (d2 (s % 60) ++ 32 :: d4 y)))) (from2 (p1 :: p2 :: p3 :: 32 :: q1 :: q2 :: q3 :: 32 :: x :: dc (d % 10) :: 32 :: (d2 (s / 3600) ++ 58 :: (d2 (s / 60 % 60) ++ 58 :: (d2 (s % 60) ++ 32 :: d4 y))))) 10) = d := by
    by_cases hd : d < 10
    · rw [if_pos hd] at hx
      have : from2 (p1 :: p2 :: p3 :: 32 :: q1 :: q2 :: q3 :: 32 :: x :: dc (d % 10) :: 32 :: (d2 (s / 3600) ++ 58 :: (d2 (s / 60 % 60) ++ 58 :: (d2 (s % 60) ++ 32 :: d4 y)))) = 9 := by
        unfold from2; exact if_pos hx.symm
      rw [this]
      show numR [dc (d % 10)] = d
      rw [numR_d1 _ (by omega) (by omega)]; omega
    · rw [if_neg hd] at hx
      have : from2 (p1 :: p2 :: p3 :: 32 :: q1 :: q2 :: q3 :: 32 :: x :: dc (d % 10) :: 32 :: (d2 (s / 3600) ++ 58 :: (d2 (s / 60 % 60) ++ 58 :: (d2 (s % 60) ++ 32 :: d4 y)))) = 8 := by
        unfold from2
        refine if_neg ?_
        show ¬ x = 32
        rw [← hx]
        exact dc_ne32 _ (by omega) (by omega)
      rw [this, ← hx]
      show numR (d2 d) = d
      exact numR_d2 d (by omega) (by omega)
  rw [e0]
  have e1 : cut (p1 :: p2 :: p3 :: 32 :: q1 :: q2 :: q3 :: 32 :: x :: dc (d % 10) :: 32 :: (d2 (s / 3600) ++ 58 :: (d2 (s / 60 % 60) ++ 58 :: (d2 (s % 60) ++ 32 :: d4 y)))) 20 24 = d4 y := rfl
  have e2 : cut (p1 :: p2 :: p3 :: 32 :: q1 :: q2 :: q3 :: 32 :: x :: dc (d % 10) :: 32 :: (d2 (s / 3600) ++ 58 :: (d2 (s / 60 % 60) ++ 58 :: (d2 (s % 60) ++ 32 :: d4 y)))) 4 7 = [q1, q2, q3] := rfl
  have e4 : cut (p1 :: p2 :: p3 :: 32 :: q1 :: q2 :: q3 :: 32 :: x :: dc (d % 10) :: 32 :: (d2 (s / 3600) ++ 58 :: (d2 (s / 60 % 60) ++ 58 :: (d2 (s % 60) ++ 32 :: d4 y)))) 11 13 = d2 (s / 3600) := rfl
  have e5 : cut (p1 :: p2 :: p3 :: 32 :: q1 :: q2 :: q3 :: 32 :: x :: dc (d % 10) :: 32 :: (d2 (s / 3600) ++ 58 :: (d2 (s / 60 % 60) ++ 58 :: (d2 (s % 60) ++ 32 :: d4 y)))) 14 16 = d2 (s / 60 % 60) := rfl
  have e6 : cut (p1 :: p2 :: p3 :: 32 :: q1 :: q2 :: q3 :: 32 :: x :: dc (d % 10) :: 32 :: (d2 (s / 3600) ++ 58 :: (d2 (s / 60 % 60) ++ 58 :: (d2 (s % 60) ++ 32 :: d4 y)))) 17 19 = d2 (s % 60) := rfl
  rw [e1, e2, e4, e5, e6, numR_d4 y (by omega) (by omega), hm, numR_d2 _ (by omega) (by omega), numR_d2 _ (by omega) (by omega), numR_d2 _ (by omega) (by omega)]
theorem cut_app (x r : List UInt8) (f t : Nat) : cut (x ++ r) (x.length + f) (x.length + t) = cut r f t := by
  unfold cut
  rw [List.take_length_add_append, List.drop_length_add_append]
theorem at1_f1 {y m d w s : Int} (h : Parts y m d w s) : y1 (f1 y m d w s) (dayN w).length = y % 100 ∧ at1 (f1 y m d w s) (dayN w).length = momR (full (y % 100)) m d (s / 3600) (s / 60 % 60) (s % 60) := by
  obtain ⟨a, b, c, e, f, g, i, j, k, l⟩ := h
  obtain ⟨q1, q2, q3, hq⟩ := threeM c e
  have hm := finR_mon m c e
  rw [hq] at hm
  have hL : f1 y m d w s = dayN w ++ (44 :: 32 :: (d2 d ++ 45 :: q1 :: q2 :: q3 :: 45 :: (d2 (y % 100) ++ 32 :: (d2 (s / 3600) ++ 58 :: (d2 (s / 60 % 60) ++ 58 :: (d2 (s % 60) ++ 32 :: gmt)))))) := by
    unfold f1 clock; rw [hq]; simp
  have hy : y1 (f1 y m d w s) (dayN w).length = y % 100 := by
    unfold y1
    rw [hL, cut_app]
    exact numR_d2 _ (by omega) (by omega)
  refine ⟨hy, ?_⟩
  unfold at1
  rw [hy, hL, cut_app, cut_app, cut_app, cut_app, cut_app]
  have e2 : cut (44 :: 32 :: (d2 d ++ 45 :: q1 :: q2 :: q3 :: 45 :: (d2 (y % 100) ++ 32 :: (d2 (s / 3600) ++ 58 :: (d2 (s / 60 % 60) ++ 58 :: (d2 (s % 60) ++ 32 :: gmt)))))) 5 8 = [q1, q2, q3] := rfl
  have e3 : cut (44 :: 32 :: (d2 d ++ 45 :: q1 :: q2 :: q3 :: 45 :: (d2 (y % 100) ++ 32 :: (d2 (s / 3600) ++ 58 :: (d2 (s / 60 % 60) ++ 58 :: (d2 (s % 60) ++ 32 :: gmt)))))) 2 4 = d2 d := rfl
  have e4 : cut (44 :: 32 :: (d2 d ++ 45 :: q1 :: q2 :: q3 :: 45 :: (d2 (y % 100) ++ 32 :: (d2 (s / 3600) ++ 58 :: (d2 (s / 60 % 60) ++ 58 :: (d2 (s % 60) ++ 32 :: gmt)))))) 12 14 = d2 (s / 3600) := rfl
  have e5 : cut (44 :: 32 :: (d2 d ++ 45 :: q1 :: q2 :: q3 :: 45 :: (d2 (y % 100) ++ 32 :: (d2 (s / 3600) ++ 58 :: (d2 (s / 60 % 60) ++ 58 :: (d2 (s % 60) ++ 32 :: gmt)))))) 15 17 = d2 (s / 60 % 60) := rfl
  have e6 : cut (44 :: 32 :: (d2 d ++ 45 :: q1 :: q2 :: q3 :: 45 :: (d2 (y % 100) ++ 32 :: (d2 (s / 3600) ++ 58 :: (d2 (s / 60 % 60) ++ 58 :: (d2 (s % 60) ++ 32 :: gmt)))))) 18 20 = d2 (s % 60) := rfl
  rw [e2, e3, e4, e5, e6, hm, numR_d2 d (by omega) (by omega), numR_d2 _ (by omega) (by omega), numR_d2 _ (by omega) (by omega), numR_d2 _ (by omega) (by omega)]
  unfold full
  congr 1
  split <;> omega

/-- The text has the length of a second form of that day of the week, and begins with its name. -/
def Named (l : List UInt8) (w : Nat) : Prop := l.length = (dayNames.getD w []).length + 24 ∧ l.take (dayNames.getD w []).length = dayNames.getD w []
theorem Named.one {l : List UInt8} {w v : Nat} (hw : w < 7) (hv : v < 7) (h : Named l w) (h' : Named l v) : w = v := by
  have e : dayNames.getD w [] = dayNames.getD v [] := by
    have hl : (dayNames.getD w []).length = (dayNames.getD v []).length := by have := h.1; have := h'.1; omega
    rw [← h.2, ← h'.2, hl]
  have a : w = 0 ∨ w = 1 ∨ w = 2 ∨ w = 3 ∨ w = 4 ∨ w = 5 ∨ w = 6 := by omega
  have b : v = 0 ∨ v = 1 ∨ v = 2 ∨ v = 3 ∨ v = 4 ∨ v = 5 ∨ v = 6 := by omega
  rcases a with rfl | rfl | rfl | rfl | rfl | rfl | rfl <;> rcases b with rfl | rfl | rfl | rfl | rfl | rfl | rfl <;> first | rfl | (exact absurd e (by decide))
/-- It is the second form of the moment that is read behind that name. -/
def Hit (l : List UInt8) (w : Nat) : Prop := Named l w ∧ 0 ≤ at1 l (dayNames.getD w []).length ∧ l = form (at1 l (dayNames.getD w []).length) 1

theorem len_form {a : Int} (h0 : 0 ≤ a) (h1 : a ≤ last) : (form a 0).length = 29 ∧ 30 ≤ (form a 1).length ∧ (form a 1).length ≤ 33 ∧ (form a 2).length = 24 := by
  obtain ⟨y, m, d, hd, hp⟩ := parts_of h0 h1
  have hw := (dayN_all hp.w0 hp.w1).2.2
  rw [form0 hd, form1 hd, form2 hd, len_f0 hp, len_f1 hp, len_f2 hp]
  omega
theorem says29 {l : List UInt8} {a : Int} (hl : l.length = 29) (h : Says l a) : at0 l = a ∧ l = form a 0 := by
  obtain ⟨h0, h1, h⟩ := h
  have hf := len_form h0 h1
  have hx : l = form a 0 := by
    rcases h with e | ⟨_, e⟩ | e
    · exact e
    · rw [e] at hl; omega
    · rw [e] at hl; omega
  refine ⟨?_, hx⟩
  obtain ⟨y, m, d, hd, hp⟩ := parts_of h0 h1
  rw [hx, form0 hd, at0_f0 hp, momR_of h0 hd]
theorem says24 {l : List UInt8} {a : Int} (hl : l.length = 24) (h : Says l a) : at2 l = a ∧ l = form a 2 := by
  obtain ⟨h0, h1, h⟩ := h
  have hf := len_form h0 h1
  have hx : l = form a 2 := by
    rcases h with e | ⟨_, e⟩ | e
    · rw [e] at hl; omega
    · rw [e] at hl; omega
    · exact e
  refine ⟨?_, hx⟩
  obtain ⟨y, m, d, hd, hp⟩ := parts_of h0 h1
  rw [hx, form2 hd, at2_f2 hp, momR_of h0 hd]
theorem saysX {l : List UInt8} {a : Int} (hl : ¬ l.length = 29) (hl' : ¬ l.length = 24) (h : Says l a) : ∃ w : Nat, w < 7 ∧ Hit l w ∧ 0 ≤ y1 l (dayNames.getD w []).length ∧ at1 l (dayNames.getD w []).length = a := by
  obtain ⟨h0, h1, h⟩ := h
  have hf := len_form h0 h1
  have hx : a ≤ lastForms ∧ l = form a 1 := by
    rcases h with e | e | e
    · rw [e] at hl; omega
    · exact e
    · rw [e] at hl'; omega
  obtain ⟨y, m, d, hd, hp⟩ := parts_of h0 h1
  have hn : (wday (a / 86400)).toNat < 7 := by have := wday_bd (a / 86400); omega
  have ha := at1_f1 hp
  have hfb := full_back hd.y0 ((years_forms hd).1 hx.1)
  rw [hfb, momR_of h0 hd] at ha
  have hlf : l = f1 y m d (wday (a / 86400)) (a % 86400) := by rw [← form1 hd]; exact hx.2
  have hdn : dayNames.getD (wday (a / 86400)).toNat [] = dayN (wday (a / 86400)) := rfl
  refine ⟨(wday (a / 86400)).toNat, hn, ⟨⟨?_, ?_⟩, ?_, ?_⟩, ?_, ?_⟩
  · rw [hdn, hlf, len_f1 hp]
  · rw [hdn, hlf]; unfold f1; rw [List.take_left]
  · rw [hdn, hlf, ha.2]; exact h0
  · rw [hdn]; conv => rhs; rw [hlf, ha.2]
    exact hx.2
  · rw [hdn, hlf, ha.1]; omega
  · rw [hdn, hlf, ha.2]
theorem numR_4 (l : List UInt8) (f t : Nat) (h : t - f ≤ 4) : -1 ≤ numR (cut l f t) ∧ numR (cut l f t) ≤ 9999 := by
  have := numR_bd (cut l f t) 4 (by have := cut_len l f t; omega)
  omega
theorem numR_2 (l : List UInt8) (f t : Nat) (h : t - f ≤ 2) : -1 ≤ numR (cut l f t) ∧ numR (cut l f t) ≤ 99 := by
  have := numR_bd (cut l f t) 2 (by have := cut_len l f t; omega)
  omega
theorem at0_bd (l : List UInt8) (h : 0 ≤ at0 l) : at0 l ≤ last := by
  obtain ⟨D, _, _, h3⟩ := momR_date (numR_4 l 12 16 (by omega)).2 (finR_bd _).2 h
  exact h3
theorem at2_bd (l : List UInt8) (h : 0 ≤ at2 l) : at2 l ≤ last := by
  obtain ⟨D, _, _, h3⟩ := momR_date (numR_4 l 20 24 (by omega)).2 (finR_bd _).2 h
  exact h3
theorem at1_bd (l : List UInt8) (k : Nat) (h : 0 ≤ at1 l k) (hy : 0 ≤ y1 l k) : at1 l k ≤ lastForms := by
  have hb := numR_2 l (k + 9) (k + 11) (by omega)
  have hb' : y1 l k ≤ 99 := hb.2
  obtain ⟨D, h1, h2, h3⟩ := momR_date (by split <;> omega) (finR_bd _).2 h
  exact (years_forms h1).2 (by split <;> omega)
theorem lastForms_last : lastForms ≤ last := by decide
theorem hit_says {l : List UInt8} {w : Nat} (h : Hit l w) (hy : 0 ≤ y1 l (dayNames.getD w []).length) : Says l (at1 l (dayNames.getD w []).length) :=
  ⟨h.2.1, Int.le_trans (at1_bd l _ h.2.1 hy) lastForms_last, .inr (.inl ⟨at1_bd l _ h.2.1 hy, h.2.2⟩)⟩

open Classical in
/-- What the document asks of Parse. -/
noncomputable def asked (l : List UInt8) : Int × Int := if h : ∃ a, Says l a then (choose h, 0) else (0, 10)
theorem asked_yes {l : List UInt8} {a : Int} (h : Says l a) : asked l = (a, 0) := by
  have he : ∃ a, Says l a := ⟨a, h⟩
  unfold asked
  rw [dif_pos he, (Classical.choose_spec he).one h]
theorem asked_no {l : List UInt8} (h : ∀ a, ¬ Says l a) : asked l = (0, 10) := by
  unfold asked
  rw [dif_neg (fun ⟨a, ha⟩ => h a ha)]

end Dt
