/- The plain mathematics of package date: what is read out of words, and that just a form is read. -/
import Derived.Test.YtlmcolpoaedclaaDoorDtMathC
namespace Dt

def last : Int := 253402300799
def lastForms : Int := 3155759999

/-- The year of two digits. -/
def full (n : Int) : Int := if n < 70 then 2000 + n else 1900 + n
def mIdx (w : List UInt8) : Option Nat := (List.range 12).find? fun i => monthNames.getD i [] == w
theorem mIdx_some {i : Nat} {w : List UInt8} (h : i < 12) (e : monthNames.getD i [] = w) : mIdx w = some i := by
  subst e
  have : i = 0 ∨ i = 1 ∨ i = 2 ∨ i = 3 ∨ i = 4 ∨ i = 5 ∨ i = 6 ∨ i = 7 ∨ i = 8 ∨ i = 9 ∨ i = 10 ∨ i = 11 := by omega
  rcases this with rfl | rfl | rfl | rfl | rfl | rfl | rfl | rfl | rfl | rfl | rfl | rfl <;> decide
theorem mIdx_none {w : List UInt8} (h : ∀ i, i < 12 → monthNames.getD i [] ≠ w) : mIdx w = none := by
  unfold mIdx
  rw [List.find?_eq_none]
  intro i hi
  have := h i (List.mem_range.1 hi)
  simpa using this
theorem mIdx_lt {w : List UInt8} {i : Nat} (h : mIdx w = some i) : i < 12 := List.mem_range.1 (List.mem_of_find?_eq_some h)
theorem mIdx_at {w : List UInt8} {i : Nat} (h : mIdx w = some i) : monthNames.getD i [] = w := by
  have := List.find?_some h
  simpa using this

/-- What a word says as the part of that place, and whether it says one. -/
def worthP (place : Nat) (w : List UInt8) : Int × Bool :=
  if place = 1 then (match mIdx w with | some i => ((i : Int), true) | none => (0, false))
  else (if place = 0 ∧ w.length = 2 then full (Oct.number 10 9999 w).1 else (Oct.number 10 9999 w).1, decide ((Oct.number 10 9999 w).2 = 0))
theorem num_bd (b : Nat) (most : Int) : ∀ (l : List UInt8) (n m : Int), 0 ≤ n → n ≤ most → Oct.num b most n l = some m → 0 ≤ m ∧ m ≤ most := by
  intro l
  induction l with
  | nil => intro n m h0 h1 h; cases h; exact ⟨h0, h1⟩
  | cons c l ih =>
    intro n m h0 h1 h
    simp only [Oct.num] at h
    split at h
    · cases h
    · refine ih _ m ?_ (by omega) h
      have : 0 ≤ n * (b : Int) := Int.mul_nonneg h0 (by omega)
      omega
theorem number_bd (w : List UInt8) : 0 ≤ (Oct.number 10 9999 w).1 ∧ (Oct.number 10 9999 w).1 ≤ 9999 := by
  unfold Oct.number
  split
  · decide
  · split
    · decide
    · split
      · decide
      · rename_i n h
        exact num_bd 10 9999 w 0 n (by omega) (by omega) h
theorem worthP_bd (i : Nat) (w : List UInt8) : 0 ≤ (worthP i w).1 ∧ (worthP i w).1 ≤ 11899 := by
  have := number_bd w
  unfold worthP
  split
  · split
    · rename_i k h
      have := mIdx_lt h
      simp; omega
    · decide
  · unfold full
    simp only
    (repeat' split) <;> omega
theorem worthP_month (w : List UInt8) : (worthP 1 w).1 ≤ 11 := by
  unfold worthP
  rw [if_pos rfl]
  split
  · rename_i k h
    have := mIdx_lt h
    simp; omega
  · decide

/-- newYear, also of years that have none. -/
def nyT (y : Int) : Int := 365 * (y - 1970) + (y - 1969).tdiv 4 - (y - 1901).tdiv 100 + (y - 1601).tdiv 400
theorem nyT_ny {y : Int} (h : 1970 ≤ y) : nyT y = ny y := by
  unfold nyT ny
  rw [Int.tdiv_eq_ediv_of_nonneg (by omega), Int.tdiv_eq_ediv_of_nonneg (by omega), Int.tdiv_eq_ediv_of_nonneg (by omega)]
def mom (y m d h mi se : Int) : Int := (nyT y + d - 1 + cum y m) * 86400 + h * 3600 + mi * 60 + se
theorem nyT_bd (y : Int) (h0 : 0 ≤ y) (h1 : y ≤ 11899) : -1000000 ≤ nyT y ∧ nyT y ≤ 4000000 := by
  unfold nyT
  have a : (y - 1969).tdiv 4 ≤ 10000 ∧ -1000 ≤ (y - 1969).tdiv 4 := by
    rw [Int.tdiv_eq_ediv]; split <;> (have := Int.sign_eq_one_of_pos (a := (4 : Int)) (by omega)) <;> omega
  have b : (y - 1901).tdiv 100 ≤ 10000 ∧ -1000 ≤ (y - 1901).tdiv 100 := by
    rw [Int.tdiv_eq_ediv]; split <;> (have := Int.sign_eq_one_of_pos (a := (100 : Int)) (by omega)) <;> omega
  have c : (y - 1601).tdiv 400 ≤ 10000 ∧ -1000 ≤ (y - 1601).tdiv 400 := by
    rw [Int.tdiv_eq_ediv]; split <;> (have := Int.sign_eq_one_of_pos (a := (400 : Int)) (by omega)) <;> omega
  omega

def places (n : Nat) : List Nat := if n = 8 then [3, 2, 1, 4, 5, 6] else if n = 7 then [6, 1, 2, 3, 4, 5] else []
/-- What the word at part i's place says. -/
def part (ws : List (List UInt8)) (i : Nat) : Int × Bool := worthP i (ws.getD ((places ws.length).getD i 0) [])
/-- The parts of words, as a moment. -/
def momW (ws : List (List UInt8)) : Int := mom (part ws 0).1 (part ws 1).1 (part ws 2).1 (part ws 3).1 (part ws 4).1 (part ws 5).1
def readable (ws : List (List UInt8)) : Bool := (part ws 0).2 && (part ws 1).2 && (part ws 2).2 && (part ws 3).2 && (part ws 4).2 && (part ws 5).2
/-- What read answers. -/
def readW (ws : List (List UInt8)) : Int × Bool :=
  if ws.length = 8 ∨ ws.length = 7 then (if readable ws then (momW ws, decide (0 ≤ momW ws) && decide (momW ws ≤ last)) else (0, false)) else (0, false)

theorem worth_dc (k : Int) (h0 : 0 ≤ k) (h1 : k < 10) : (Oct.worth (dc k) : Int) = k := by
  unfold dc
  rw [Oct.ch_worth _ (by omega)]; omega
theorem dig_dc (k : Int) (h0 : 0 ≤ k) (h1 : k < 10) : Oct.dig 10 (dc k) = true := by
  have := worth_dc k h0 h1
  unfold Oct.dig
  simp; omega
theorem number_d1 (n : Int) (h0 : 0 ≤ n) (h1 : n < 10) : Oct.number 10 9999 [dc n] = (n, 0) := by
  have := worth_dc n h0 h1
  unfold Oct.number
  rw [if_neg (by simp [Oct.allOf, dig_dc n h0 h1]), if_neg (by omega)]
  simp only [Oct.num]
  rw [if_neg (by omega), this]
  simp
theorem number_d2 (n : Int) (h0 : 0 ≤ n) (h1 : n < 100) : Oct.number 10 9999 (d2 n) = (n, 0) := by
  have a := worth_dc (n / 10) (by omega) (by omega)
  have b := worth_dc (n % 10) (by omega) (by omega)
  unfold Oct.number d2
  rw [if_neg (by simp [Oct.allOf, dig_dc (n / 10) (by omega) (by omega), dig_dc (n % 10) (by omega) (by omega)]), if_neg (by omega)]
  simp only [Oct.num]
  rw [if_neg (by omega), if_neg (by omega)]
  simp only [Prod.mk.injEq, and_true]
  omega
theorem number_d4 (n : Int) (h0 : 0 ≤ n) (h1 : n < 10000) : Oct.number 10 9999 (d4 n) = (n, 0) := by
  have a := worth_dc (n / 1000) (by omega) (by omega)
  have b := worth_dc (n / 100 % 10) (by omega) (by omega)
  have c := worth_dc (n / 10 % 10) (by omega) (by omega)
  have d := worth_dc (n % 10) (by omega) (by omega)
  unfold Oct.number d4
  rw [if_neg (by simp [Oct.allOf, dig_dc (n / 1000) (by omega) (by omega), dig_dc (n / 100 % 10) (by omega) (by omega), dig_dc (n / 10 % 10) (by omega) (by omega), dig_dc (n % 10) (by omega) (by omega)]), if_neg (by omega)]
  simp only [Oct.num]
  rw [if_neg (by omega), if_neg (by omega), if_neg (by omega), if_neg (by omega)]
  simp only [Prod.mk.injEq, and_true]
  omega
theorem worthP_d4 (n : Int) (h0 : 0 ≤ n) (h1 : n < 10000) : worthP 0 (d4 n) = (n, true) := by
  unfold worthP
  rw [if_neg (by omega), if_neg (by simp [d4]), number_d4 n h0 h1]; rfl
theorem worthP_y2 (n : Int) (h0 : 0 ≤ n) (h1 : n < 100) : worthP 0 (d2 n) = (full n, true) := by
  unfold worthP
  rw [if_neg (by omega), if_pos (by simp [d2]), number_d2 n h0 h1]; rfl
theorem worthP_d2 (i : Nat) (n : Int) (hi : 2 ≤ i) (h0 : 0 ≤ n) (h1 : n < 100) : worthP i (d2 n) = (n, true) := by
  unfold worthP
  rw [if_neg (by omega), if_neg (by omega), number_d2 n h0 h1]; rfl
theorem worthP_d1 (i : Nat) (n : Int) (hi : 2 ≤ i) (h0 : 0 ≤ n) (h1 : n < 10) : worthP i [dc n] = (n, true) := by
  unfold worthP
  rw [if_neg (by omega), if_neg (by omega), number_d1 n h0 h1]; rfl
theorem worthP_mon (m : Int) (h0 : 0 ≤ m) (h1 : m ≤ 11) : worthP 1 (monN m) = (m, true) := by
  unfold worthP
  rw [if_pos rfl, mIdx_some (w := monN m) (i := m.toNat) (by omega) rfl]
  simp; omega

theorem momW_f0 {y m d w s : Int} (h : Parts y m d w s) : readW (words (f0 y m d w s)) = (mom y m d (s / 3600) (s / 60 % 60) (s % 60), decide (0 ≤ mom y m d (s / 3600) (s / 60 % 60) (s % 60)) && decide (mom y m d (s / 3600) (s / 60 % 60) (s % 60) ≤ last)) := by
  rw [words_f0 h]
  obtain ⟨a, b, c, e, f, g, i, j, k, l⟩ := h
  unfold readW readable momW part
  simp [places, worthP_d4 y (by omega) (by omega), worthP_mon m c e, worthP_d2 2 d (by omega) (by omega) (by omega), worthP_d2 3 (s / 3600) (by omega) (by omega) (by omega), worthP_d2 4 (s / 60 % 60) (by omega) (by omega) (by omega), worthP_d2 5 (s % 60) (by omega) (by omega) (by omega)]
theorem momW_f1 {y m d w s : Int} (h : Parts y m d w s) : readW (words (f1 y m d w s)) = (mom (full (y % 100)) m d (s / 3600) (s / 60 % 60) (s % 60), decide (0 ≤ mom (full (y % 100)) m d (s / 3600) (s / 60 % 60) (s % 60)) && decide (mom (full (y % 100)) m d (s / 3600) (s / 60 % 60) (s % 60) ≤ last)) := by
  rw [words_f1 h]
  obtain ⟨a, b, c, e, f, g, i, j, k, l⟩ := h
  unfold readW readable momW part
  simp [places, worthP_y2 (y % 100) (by omega) (by omega), worthP_mon m c e, worthP_d2 2 d (by omega) (by omega) (by omega), worthP_d2 3 (s / 3600) (by omega) (by omega) (by omega), worthP_d2 4 (s / 60 % 60) (by omega) (by omega) (by omega), worthP_d2 5 (s % 60) (by omega) (by omega) (by omega)]
theorem momW_f2 {y m d w s : Int} (h : Parts y m d w s) : readW (words (f2 y m d w s)) = (mom y m d (s / 3600) (s / 60 % 60) (s % 60), decide (0 ≤ mom y m d (s / 3600) (s / 60 % 60) (s % 60)) && decide (mom y m d (s / 3600) (s / 60 % 60) (s % 60) ≤ last)) := by
  rw [words_f2 h]
  obtain ⟨a, b, c, e, f, g, i, j, k, l⟩ := h
  have hd : worthP 2 (if d < 10 then [dc d] else d2 d) = (d, true) := by
    split
    · exact worthP_d1 2 d (by omega) (by omega) (by omega)
    · exact worthP_d2 2 d (by omega) (by omega) (by omega)
  unfold readW readable momW part
  simp [places, worthP_d4 y (by omega) (by omega), worthP_mon m c e, hd, worthP_d2 3 (s / 3600) (by omega) (by omega) (by omega), worthP_d2 4 (s / 60 % 60) (by omega) (by omega) (by omega), worthP_d2 5 (s % 60) (by omega) (by omega) (by omega)]

/-- A moment's parts. -/
theorem parts_of {a : Int} (h0 : 0 ≤ a) (h1 : a ≤ last) : ∃ y m d, IsDate (a / 86400) y m d ∧ Parts y m d (wday (a / 86400)) (a % 86400) := by
  unfold last at h1
  obtain ⟨y, m, d, h⟩ := exDate (a / 86400) (by omega) (by omega)
  have := ml_bd y m
  have := wday_bd (a / 86400)
  obtain ⟨p, q, r, s, t, u, v⟩ := h
  exact ⟨y, m, d, ⟨p, q, r, s, t, u, v⟩, p, q, r, s, t, by omega, this.1, this.2, by omega, by omega⟩
theorem mom_back {a y m d : Int} (_h0 : 0 ≤ a) (h : IsDate (a / 86400) y m d) : mom y m d (a % 86400 / 3600) (a % 86400 / 60 % 60) (a % 86400 % 60) = a := by
  have hn := h.n_
  unfold mom
  rw [nyT_ny h.y0]
  omega
theorem years_forms {a y m d : Int} (h : IsDate (a / 86400) y m d) : a ≤ lastForms ↔ y ≤ 2069 := by
  have h1 := h.in_year
  have e : ny 2070 = 36525 := rfl
  unfold lastForms
  constructor
  · intro hl
    rcases Int.lt_or_le 2069 y with g | g
    · have := ny_mono 2070 y (by omega); omega
    · exact g
  · intro hl
    have := ny_mono (y + 1) 2070 (by omega); omega
theorem full_back {y : Int} (h0 : 1970 ≤ y) (h1 : y ≤ 2069) : full (y % 100) = y := by unfold full; split <;> omega
/-- What two digits say of a year lies in the forms' years. -/
theorem mom_short {a y m d : Int} (h : IsDate (a / 86400) y m d) : mom (full (y % 100)) m d (a % 86400 / 3600) (a % 86400 / 60 % 60) (a % 86400 % 60) ≤ lastForms := by
  obtain ⟨y', hy⟩ : ∃ y', full (y % 100) = y' := ⟨_, rfl⟩
  have hb : 1970 ≤ y' ∧ y' ≤ 2069 := by rw [← hy]; unfold full; split <;> omega
  rw [hy]
  have hd : d ≤ 31 := by have := ml_bd y m; have := h.d1; omega
  have hc := cum_mono y' m 11 h.m0 h.m1 (by omega)
  have h11 : cum y' 11 = 334 + lp y' := rfl
  have hl := lp_01 y'
  have e : ny 2070 = 36525 := rfl
  have hs : nyT y' + d - 1 + cum y' m ≤ 36524 := by
    rw [nyT_ny hb.1]
    by_cases g : y' = 2069
    · subst g
      have e' : ny 2069 = 36160 := rfl
      have e2 : lp 2069 = 0 := by decide
      omega
    · have a1 := ny_succ y'
      have a2 := ny_mono (y' + 1) 2069 (by omega)
      have e' : ny 2069 = 36160 := rfl
      omega
  unfold mom lastForms
  omega

/-- The text is a form of moment a. -/
def Says (l : List UInt8) (a : Int) : Prop := 0 ≤ a ∧ a ≤ last ∧ (l = form a 0 ∨ (a ≤ lastForms ∧ l = form a 1) ∨ l = form a 2)
/-- What Parse answers of a text with these words. -/
noncomputable def parseW (l : List UInt8) (ws : List (List UInt8)) : Int × Int :=
  open Classical in
  if 33 < l.length then (0, 10) else
  if (readW ws).2 = true ∧ (l = form (readW ws).1 0 ∨ l = form (readW ws).1 1 ∨ l = form (readW ws).1 2) then ((readW ws).1, 0) else (0, 10)

theorem Says.read {l : List UInt8} {a : Int} (h : Says l a) : readW (words l) = (a, true) ∧ l.length ≤ 33 ∧ ascii l = true := by
  obtain ⟨h0, h1, h⟩ := h
  obtain ⟨y, m, d, hd, hp⟩ := parts_of h0 h1
  have hm := mom_back h0 hd
  have hw := (dayN_all hp.w0 hp.w1).2.2
  rcases h with rfl | ⟨hl, rfl⟩ | rfl
  · rw [form0 hd]
    refine ⟨?_, by rw [len_f0 hp]; omega, ascii_f0 hp⟩
    rw [momW_f0 hp, hm]
    simp [h0, h1]
  · rw [form1 hd]
    refine ⟨?_, by rw [len_f1 hp]; omega, ascii_f1 hp⟩
    have := (years_forms hd).1 hl
    rw [momW_f1 hp, full_back hd.y0 this, hm]
    simp [h0, h1]
  · rw [form2 hd]
    refine ⟨?_, by rw [len_f2 hp]; omega, ascii_f2 hp⟩
    rw [momW_f2 hp, hm]
    simp [h0, h1]
theorem Says.one {l : List UInt8} {a b : Int} (h : Says l a) (h' : Says l b) : a = b := by
  have := h.read.1.symm.trans h'.read.1
  exact (Prod.mk.inj this).1
theorem Says.parse {l : List UInt8} {a : Int} {ws : List (List UInt8)} (h : Says l a) (hw : ascii l = true → ws = words l) : parseW l ws = (a, 0) := by
  obtain ⟨h1, h2, h3⟩ := h.read
  rw [hw h3]
  unfold parseW
  rw [if_neg (by omega), h1, if_pos]
  refine ⟨rfl, ?_⟩
  rcases h.2.2 with e | ⟨_, e⟩ | e
  · exact .inl e
  · exact .inr (.inl e)
  · exact .inr (.inr e)
theorem says_of {l : List UInt8} {ws : List (List UInt8)} {a : Int} (hr : readW ws = (a, true)) (hw : ascii l = true → ws = words l) (hf : l = form a 0 ∨ l = form a 1 ∨ l = form a 2) : Says l a := by
  have hb : 0 ≤ a ∧ a ≤ last := by
    unfold readW at hr
    split at hr
    · split at hr
      · simp only [Prod.mk.injEq, Bool.and_eq_true, decide_eq_true_eq] at hr
        rw [← hr.1]; exact hr.2
      · simp at hr
    · simp at hr
  refine ⟨hb.1, hb.2, ?_⟩
  rcases hf with e | e | e
  · exact .inl e
  · refine .inr (.inl ⟨?_, e⟩)
    obtain ⟨y, m, d, hd, hp⟩ := parts_of hb.1 hb.2
    have he := e
    rw [form1 hd] at he
    have hs := mom_short hd
    rw [hw (by rw [he]; exact ascii_f1 hp), he, momW_f1 hp] at hr
    rw [(Prod.mk.inj hr).1] at hs
    exact hs
  · exact .inr (.inr e)
theorem silent_parse {l : List UInt8} {ws : List (List UInt8)} (h : ∀ a, ¬ Says l a) (hw : ascii l = true → ws = words l) : parseW l ws = (0, 10) := by
  unfold parseW
  split
  · rfl
  · rw [if_neg]
    rintro ⟨hr, hf⟩
    exact h _ (says_of (a := (readW ws).1) (by rw [← hr]) hw hf)

end Dt
