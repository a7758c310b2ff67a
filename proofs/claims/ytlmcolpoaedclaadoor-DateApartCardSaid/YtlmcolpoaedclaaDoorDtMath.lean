/- The plain mathematics of package date: the calendar, its forms. No program in it. -/
import Derived.Test.YtlmcolpoaedclaaDoorOctMath
namespace Dt

/-- One day more in February? -/
def lp (y : Int) : Int := if y % 4 = 0 ∧ (y % 100 ≠ 0 ∨ y % 400 = 0) then 1 else 0
theorem lp_01 (y : Int) : 0 ≤ lp y ∧ lp y ≤ 1 := by unfold lp; split <;> omega
/-- How many days has a month (from 0 on)? -/
def ml (y m : Int) : Int := if m = 1 then 28 + lp y else if m = 3 ∨ m = 5 ∨ m = 8 ∨ m = 10 then 30 else 31
theorem ml_bd (y m : Int) : 28 ≤ ml y m ∧ ml y m ≤ 31 := by
  have := lp_01 y
  unfold ml; (repeat' split) <;> omega
/-- The days of the months ahead of one. -/
def cum (y m : Int) : Int :=
  if m ≤ 0 then 0 else if m = 1 then 31 else (if m = 2 then 59 else if m = 3 then 90 else if m = 4 then 120 else if m = 5 then 151 else if m = 6 then 181 else if m = 7 then 212 else if m = 8 then 243 else if m = 9 then 273 else if m = 10 then 304 else if m = 11 then 334 else 365) + lp y
theorem cum_zero (y : Int) : cum y 0 = 0 := rfl
theorem cum_twelve (y : Int) : cum y 12 = 365 + lp y := rfl
theorem cum_succ (y m : Int) (h0 : 0 ≤ m) (h1 : m ≤ 11) : cum y (m + 1) = cum y m + ml y m := by
  have : m = 0 ∨ m = 1 ∨ m = 2 ∨ m = 3 ∨ m = 4 ∨ m = 5 ∨ m = 6 ∨ m = 7 ∨ m = 8 ∨ m = 9 ∨ m = 10 ∨ m = 11 := by omega
  rcases this with rfl | rfl | rfl | rfl | rfl | rfl | rfl | rfl | rfl | rfl | rfl | rfl <;> (simp [cum, ml]; try omega)
theorem cum_bd (y m : Int) : 0 ≤ cum y m ∧ cum y m ≤ 366 := by
  have := lp_01 y
  unfold cum; (repeat' split) <;> omega
theorem cum_mono (y a b : Int) (h0 : 0 ≤ a) (h : a ≤ b) (h1 : b ≤ 12) : cum y a ≤ cum y b := by
  obtain ⟨k, rfl⟩ : ∃ k : Nat, b = a + k := ⟨(b - a).toNat, by omega⟩
  clear h
  induction k with
  | zero => simp
  | succ k ih =>
    have h2 := cum_succ y (a + k) (by omega) (by omega)
    have h3 := ml_bd y (a + k)
    have h4 := ih (by omega)
    rw [show a + ((k + 1 : Nat) : Int) = a + k + 1 by omega]
    omega

/-- The days from 1970-01-01 to a year's first. -/
def ny (y : Int) : Int := 365 * (y - 1970) + (y - 1969) / 4 - (y - 1901) / 100 + (y - 1601) / 400
theorem ny_succ (y : Int) : ny (y + 1) = ny y + 365 + lp y := by unfold ny lp; split <;> omega
theorem ny_1970 : ny 1970 = 0 := rfl
theorem ny_mono (a b : Int) (h : a ≤ b) : ny a ≤ ny b := by
  obtain ⟨k, rfl⟩ : ∃ k : Nat, b = a + k := ⟨(b - a).toNat, by omega⟩
  clear h
  induction k with
  | zero => simp
  | succ k ih =>
    have h2 := ny_succ (a + k)
    have h3 := lp_01 (a + k)
    rw [show a + ((k + 1 : Nat) : Int) = a + k + 1 by omega]
    omega
theorem ny_guess (k : Int) (h : 0 ≤ k) : ny (1970 + k / 366) ≤ k := by unfold ny; omega
theorem ny_bd (y : Int) (h : 1970 ≤ y) (h1 : y ≤ 10000) : 0 ≤ ny y ∧ ny y ≤ 2932897 := by unfold ny; omega
theorem ny_400 (y : Int) : ny (y + 400) = ny y + 146097 := by unfold ny; omega
theorem lp_400 (y : Int) : lp (y + 400) = lp y := by unfold lp; congr 1; simp; omega

/-- Day n (from 1970-01-01 on) is the d-th of month m (from 0 on) of year y. -/
structure IsDate (n y m d : Int) : Prop where
  y0 : 1970 ≤ y
  y1 : y ≤ 9999
  m0 : 0 ≤ m
  m1 : m ≤ 11
  d0 : 1 ≤ d
  d1 : d ≤ ml y m
  n_ : n = ny y + cum y m + d - 1

theorem exYear (k : Nat) : ∀ n : Int, 0 ≤ n → n < ny (1970 + k) → ∃ y : Int, 1970 ≤ y ∧ y < 1970 + k ∧ ny y ≤ n ∧ n < ny (y + 1) := by
  induction k with
  | zero => intro n h0 h1; rw [show (1970 : Int) + ((0 : Nat) : Int) = 1970 by omega, ny_1970] at h1; omega
  | succ k ih =>
    intro n h0 h1
    by_cases h : n < ny (1970 + k)
    · obtain ⟨y, a, b, c, d⟩ := ih n h0 h
      exact ⟨y, a, by omega, c, d⟩
    · exact ⟨1970 + k, by omega, by omega, by omega, by rw [show (1970 : Int) + k + 1 = 1970 + ((k + 1 : Nat) : Int) by omega]; exact h1⟩
theorem exMonth (y : Int) (k : Nat) (hk : k ≤ 12) : ∀ r : Int, 0 ≤ r → r < cum y k → ∃ m : Int, 0 ≤ m ∧ m < k ∧ cum y m ≤ r ∧ r < cum y (m + 1) := by
  induction k with
  | zero => intro r h0 h1; rw [show ((0 : Nat) : Int) = 0 by omega, cum_zero] at h1; omega
  | succ k ih =>
    intro r h0 h1
    by_cases h : r < cum y k
    · obtain ⟨m, a, b, c, d⟩ := ih (by omega) r h0 h
      exact ⟨m, a, by omega, c, d⟩
    · exact ⟨k, by omega, by omega, by omega, by rw [show (k : Int) + 1 = ((k + 1 : Nat) : Int) by omega]; exact h1⟩
theorem exDate (n : Int) (h0 : 0 ≤ n) (h1 : n ≤ 2932896) : ∃ y m d, IsDate n y m d := by
  obtain ⟨y, a, b, c, d⟩ := exYear 8030 n h0 (by have : ny (1970 + ((8030 : Nat) : Int)) = 2932897 := rfl; omega)
  have hs := ny_succ y
  obtain ⟨m, e, f, g, i⟩ := exMonth y 12 (by omega) (n - ny y) (by omega) (by rw [show ((12 : Nat) : Int) = 12 by omega, cum_twelve]; omega)
  have hm := cum_succ y m e (by omega)
  exact ⟨y, m, n - ny y - cum y m + 1, a, by omega, e, by omega, by omega, by omega, by omega⟩

theorem year_one {y y' n : Int} (h : ny y ≤ n) (h1 : n < ny (y + 1)) (h' : ny y' ≤ n) (h1' : n < ny (y' + 1)) : y = y' := by
  rcases Int.lt_trichotomy y y' with g | g | g
  · have := ny_mono (y + 1) y' (by omega); omega
  · exact g
  · have := ny_mono (y' + 1) y (by omega); omega
theorem month_one {y m m' r : Int} (h0 : 0 ≤ m) (h0' : 0 ≤ m') (h2 : m ≤ 11) (h2' : m' ≤ 11) (h : cum y m ≤ r) (h1 : r < cum y (m + 1)) (h' : cum y m' ≤ r) (h1' : r < cum y (m' + 1)) : m = m' := by
  rcases Int.lt_trichotomy m m' with g | g | g
  · have := cum_mono y (m + 1) m' (by omega) (by omega) (by omega); omega
  · exact g
  · have := cum_mono y (m' + 1) m (by omega) (by omega) (by omega); omega
theorem IsDate.in_month {n y m d : Int} (h : IsDate n y m d) : cum y m ≤ n - ny y ∧ n - ny y < cum y (m + 1) := by
  have := cum_succ y m h.m0 h.m1
  have a := h.n_; have b := h.d0; have c := h.d1
  omega
theorem IsDate.in_year {n y m d : Int} (h : IsDate n y m d) : ny y ≤ n ∧ n < ny (y + 1) := by
  have hm := h.in_month
  have h0 := cum_mono y 0 m (by omega) h.m0 (by have := h.m1; omega)
  have h1 := cum_mono y (m + 1) 12 (by have := h.m0; omega) (by have := h.m1; omega) (by omega)
  have hs := ny_succ y
  rw [cum_zero] at h0
  rw [cum_twelve] at h1
  omega
theorem IsDate.one {n y m d y' m' d' : Int} (h : IsDate n y m d) (h' : IsDate n y' m' d') : y = y' ∧ m = m' ∧ d = d' := by
  obtain rfl := year_one h.in_year.1 h.in_year.2 h'.in_year.1 h'.in_year.2
  obtain rfl := month_one h.m0 h'.m0 h.m1 h'.m1 h.in_month.1 h.in_month.2 h'.in_month.1 h'.in_month.2
  have a := h.n_; have b := h'.n_
  exact ⟨rfl, rfl, by omega⟩
theorem IsDate.range {n y m d : Int} (h : IsDate n y m d) : 0 ≤ n ∧ n ≤ 2932896 := by
  have a := h.in_year
  have b := ny_bd y h.y0 (by have := h.y1; omega)
  have c := ny_mono (y + 1) 10000 (by have := h.y1; omega)
  have : ny 10000 = 2932897 := rfl
  omega

open Classical in
/-- A day's year, month, day. -/
noncomputable def date (n : Int) : Int × Int × Int := if h : ∃ p : Int × Int × Int, IsDate n p.1 p.2.1 p.2.2 then choose h else (1970, 0, 1)
theorem date_is {n : Int} (h0 : 0 ≤ n) (h1 : n ≤ 2932896) : IsDate n (date n).1 (date n).2.1 (date n).2.2 := by
  have h : ∃ p : Int × Int × Int, IsDate n p.1 p.2.1 p.2.2 := by
    obtain ⟨y, m, d, h⟩ := exDate n h0 h1
    exact ⟨(y, m, d), h⟩
  unfold date
  rw [dif_pos h]
  exact Classical.choose_spec h
theorem date_eq {n y m d : Int} (h : IsDate n y m d) : date n = (y, m, d) := by
  obtain ⟨a, b, c⟩ := (date_is h.range.1 h.range.2).one h
  rw [← a, ← b, ← c]

/-- The next day. -/
theorem IsDate.next {n y m d y' m' d' : Int} (h : IsDate n y m d) (h' : IsDate (n + 1) y' m' d') : (y' = y ∧ m' = m ∧ d' = d + 1) ∨ (d' = 1 ∧ ((y' = y ∧ m' = m + 1) ∨ (y' = y + 1 ∧ m' = 0 ∧ m = 11))) := by
  obtain ⟨a, b, c, e, f, g, i⟩ := h
  by_cases h1 : d < ml y m
  · exact .inl (h'.one ⟨a, b, c, e, by omega, by omega, by omega⟩)
  · have hs := cum_succ y m c e
    by_cases h2 : m < 11
    · obtain ⟨p, q, r⟩ := h'.one (y' := y) (m' := m + 1) (d' := 1) ⟨a, b, by omega, by omega, by omega, by have := ml_bd y (m + 1); omega, by omega⟩
      exact .inr ⟨r, .inl ⟨p, q⟩⟩
    · obtain rfl : m = 11 := by omega
      have hn := ny_succ y
      rw [show (11 : Int) + 1 = 12 by omega, cum_twelve] at hs
      have hy : y + 1 ≤ 9999 := by
        have := h'.range
        have h10 : ¬ y = 9999 := fun e => by
          subst e
          have : ny (9999 + 1) = 2932897 := rfl
          omega
        omega
      obtain ⟨p, q, r⟩ := h'.one (y' := y + 1) (m' := 0) (d' := 1) ⟨by omega, hy, by omega, by omega, by omega, by have := ml_bd (y + 1) 0; omega, by rw [cum_zero]; omega⟩
      exact .inr ⟨r, .inr ⟨p, q, rfl⟩⟩

end Dt
