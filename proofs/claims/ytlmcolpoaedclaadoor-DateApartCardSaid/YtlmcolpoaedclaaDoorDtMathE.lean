/- The plain mathematics of package date: the document's own reading, sign by sign. -/
import Derived.Test.YtlmcolpoaedclaaDoorDtMathD
namespace Dt

def digit (c : UInt8) : Bool := decide (48 ≤ c.toNat) && decide (c.toNat ≤ 57)
def numV (l : List UInt8) : Int := l.foldl (fun n c => n * 10 + ((c.toNat : Int) - 48)) 0
/-- What digits say; -1: they are none. -/
def numR (l : List UInt8) : Int := if l.all digit then numV l else -1
theorem numV_snoc (l : List UInt8) (c : UInt8) : numV (l ++ [c]) = numV l * 10 + ((c.toNat : Int) - 48) := by unfold numV; rw [List.foldl_append]; rfl
theorem digit_bd {c : UInt8} (h : digit c = true) : 48 ≤ c.toNat ∧ c.toNat ≤ 57 := by
  unfold digit at h; simpa using h
theorem numV_bd (l : List UInt8) (h : l.all digit = true) : 0 ≤ numV l ∧ numV l < 10 ^ l.length := by
  have key : ∀ r : List UInt8, r.reverse.all digit = true → 0 ≤ numV r.reverse ∧ numV r.reverse < 10 ^ r.length := by
    intro r
    induction r with
    | nil => intro _; exact ⟨by decide, by decide⟩
    | cons c r ih =>
      intro h
      rw [List.reverse_cons, List.all_append, Bool.and_eq_true] at h
      have h1 := ih h.1
      have h2 := digit_bd (c := c) (by simpa using h.2)
      rw [List.reverse_cons, numV_snoc, List.length_cons, Int.pow_succ]
      omega
  have := key l.reverse (by simpa using h)
  simpa using this
theorem numR_bd (l : List UInt8) (n : Nat) (hn : l.length ≤ n) : -1 ≤ numR l ∧ numR l < 10 ^ n := by
  have hp : (10 : Int) ^ l.length ≤ 10 ^ n := by have := Nat.pow_le_pow_right (n := 10) (by omega) hn; exact_mod_cast this
  have h1 : (0 : Int) < 10 ^ n := Int.pow_pos (by omega)
  unfold numR
  split
  · have := numV_bd l (by assumption); omega
  · omega
def finR (l : List UInt8) : Int := match mIdx l with | some i => (i : Int) | none => -1
theorem finR_bd (l : List UInt8) : -1 ≤ finR l ∧ finR l ≤ 11 := by
  unfold finR
  split
  · have := mIdx_lt (by assumption); omega
  · omega
/-- Are these a moment's parts? -/
def valid (y m d h mi se : Int) : Prop := 1970 ≤ y ∧ 0 ≤ m ∧ 1 ≤ d ∧ d ≤ ml y m ∧ 0 ≤ h ∧ h ≤ 23 ∧ 0 ≤ mi ∧ mi ≤ 59 ∧ 0 ≤ se ∧ se ≤ 59
instance (y m d h mi se : Int) : Decidable (valid y m d h mi se) := by unfold valid; exact inferInstance
def momR (y m d h mi se : Int) : Int := if valid y m d h mi se then (d - 1 + ny y + cum y m) * 86400 + h * 3600 + mi * 60 + se else -1
theorem momR_date {y m d h mi se : Int} (hy : y ≤ 9999) (hm : m ≤ 11) (h0 : 0 ≤ momR y m d h mi se) : ∃ D, IsDate (momR y m d h mi se / 86400) y m D ∧ 0 ≤ momR y m d h mi se ∧ momR y m d h mi se ≤ last := by
  unfold momR at h0 ⊢
  split
  · rename_i hv
    obtain ⟨a, b, c, e, f, g, i, j, k, l⟩ := hv
    have hd : IsDate (d - 1 + ny y + cum y m) y m d := ⟨a, hy, b, hm, c, e, by omega⟩
    have hr := hd.range
    have e2 : ((d - 1 + ny y + cum y m) * 86400 + h * 3600 + mi * 60 + se) / 86400 = d - 1 + ny y + cum y m := by omega
    rw [e2]
    refine ⟨d, hd, by omega, ?_⟩
    unfold last; omega
  · rename_i hv
    rw [if_neg hv] at h0; omega
theorem momR_of {a y m d : Int} (_h0 : 0 ≤ a) (h : IsDate (a / 86400) y m d) : momR y m d (a % 86400 / 3600) (a % 86400 / 60 % 60) (a % 86400 % 60) = a := by
  have hn := h.n_
  have hv : valid y m d (a % 86400 / 3600) (a % 86400 / 60 % 60) (a % 86400 % 60) := ⟨h.y0, h.m0, h.d0, h.d1, by omega, by omega, by omega, by omega, by omega, by omega⟩
  unfold momR
  rw [if_pos hv]
  omega

def cut (l : List UInt8) (f t : Nat) : List UInt8 := (l.take t).drop f
theorem cut_len (l : List UInt8) (f t : Nat) : (cut l f t).length ≤ t - f := by unfold cut; rw [List.length_drop, List.length_take]; omega
def at0 (l : List UInt8) : Int := momR (numR (cut l 12 16)) (finR (cut l 8 11)) (numR (cut l 5 7)) (numR (cut l 17 19)) (numR (cut l 20 22)) (numR (cut l 23 25))
def from2 (l : List UInt8) : Nat := if l.getD 8 0 = 32 then 9 else 8
def at2 (l : List UInt8) : Int := momR (numR (cut l 20 24)) (finR (cut l 4 7)) (numR (cut l (from2 l) 10)) (numR (cut l 11 13)) (numR (cut l 14 16)) (numR (cut l 17 19))
def y1 (l : List UInt8) (k : Nat) : Int := numR (cut l (k + 9) (k + 11))
def at1 (l : List UInt8) (k : Nat) : Int := momR ((if y1 l k < 70 then y1 l k + 100 else y1 l k) + 1900) (finR (cut l (k + 5) (k + 8))) (numR (cut l (k + 2) (k + 4))) (numR (cut l (k + 12) (k + 14))) (numR (cut l (k + 15) (k + 17))) (numR (cut l (k + 18) (k + 20)))

theorem dc_nat (k : Int) (h0 : 0 ≤ k) (h1 : k < 10) : ((dc k).toNat : Int) = 48 + k := by
  unfold dc
  rw [Oct.ch_small _ (by omega)]; omega
theorem digit_dc (k : Int) (h0 : 0 ≤ k) (h1 : k < 10) : digit (dc k) = true := by
  have := dc_nat k h0 h1
  unfold digit
  simp; omega
theorem numR_d1 (n : Int) (h0 : 0 ≤ n) (h1 : n < 10) : numR [dc n] = n := by
  have a := dc_nat n h0 h1
  unfold numR
  rw [if_pos (by simp [digit_dc n h0 h1])]
  simp [numV]; omega
theorem numR_d2 (n : Int) (h0 : 0 ≤ n) (h1 : n < 100) : numR (d2 n) = n := by
  have a := dc_nat (n / 10) (by omega) (by omega)
  have b := dc_nat (n % 10) (by omega) (by omega)
  unfold numR d2
  rw [if_pos (by simp [digit_dc (n / 10) (by omega) (by omega), digit_dc (n % 10) (by omega) (by omega)])]
  simp [numV]; omega
theorem numR_d4 (n : Int) (h0 : 0 ≤ n) (h1 : n < 10000) : numR (d4 n) = n := by
  have a := dc_nat (n / 1000) (by omega) (by omega)
  have b := dc_nat (n / 100 % 10) (by omega) (by omega)
  have c := dc_nat (n / 10 % 10) (by omega) (by omega)
  have d := dc_nat (n % 10) (by omega) (by omega)
  unfold numR d4
  rw [if_pos (by simp [digit_dc (n / 1000) (by omega) (by omega), digit_dc (n / 100 % 10) (by omega) (by omega), digit_dc (n / 10 % 10) (by omega) (by omega), digit_dc (n % 10) (by omega) (by omega)])]
  simp [numV]; omega
theorem finR_mon (m : Int) (h0 : 0 ≤ m) (h1 : m ≤ 11) : finR (monN m) = m := by
  unfold finR
  rw [mIdx_some (w := monN m) (i := m.toNat) (by omega) rfl]
  simp; omega

theorem three {w : Int} (h0 : 0 ≤ w) (h1 : w < 7) : ∃ a b c, (dayN w).take 3 = [a, b, c] := by
  rcases w_cases h0 h1 with rfl | rfl | rfl | rfl | rfl | rfl | rfl <;> exact ⟨_, _, _, rfl⟩
theorem threeM {m : Int} (h0 : 0 ≤ m) (h1 : m ≤ 11) : ∃ a b c, monN m = [a, b, c] := by
  rcases m_cases h0 h1 with rfl | rfl | rfl | rfl | rfl | rfl | rfl | rfl | rfl | rfl | rfl | rfl <;> exact ⟨_, _, _, rfl⟩
theorem at0_f0 {y m d w s : Int} (h : Parts y m d w s) : at0 (f0 y m d w s) = momR y m d (s / 3600) (s / 60 % 60) (s % 60) := by
  obtain ⟨a, b, c, e, f, g, i, j, k, l⟩ := h
  obtain ⟨p1, p2, p3, hp⟩ := three i j
  obtain ⟨q1, q2, q3, hq⟩ := threeM c e
  have hm := finR_mon m c e
  rw [hq] at hm
  have hL : f0 y m d w s = p1 :: p2 :: p3 :: 44 :: 32 :: (d2 d ++ 32 :: q1 :: q2 :: q3 :: 32 :: (d4 y ++ 32 :: (d2 (s / 3600) ++ 58 :: (d2 (s / 60 % 60) ++ 58 :: (d2 (s % 60) ++ 32 :: gmt))))) := by
    unfold f0 clock; rw [hp, hq]; simp
  unfold at0
  rw [hL]
  have e1 : cut (p1 :: p2 :: p3 :: 44 :: 32 :: (d2 d ++ 32 :: q1 :: q2 :: q3 :: 32 :: (d4 y ++ 32 :: (d2 (s / 3600) ++ 58 :: (d2 (s / 60 % 60) ++ 58 :: (d2 (s % 60) ++ 32 :: gmt)))))) 12 16 = d4 y := rfl
  have e2 : cut (p1 :: p2 :: p3 :: 44 :: 32 :: (d2 d ++ 32 :: q1 :: q2 :: q3 :: 32 :: (d4 y ++ 32 :: (d2 (s / 3600) ++ 58 :: (d2 (s / 60 % 60) ++ 58 :: (d2 (s % 60) ++ 32 :: gmt)))))) 8 11 = [q1, q2, q3] := rfl
  have e3 : cut (p1 :: p2 :: p3 :: 44 :: 32 :: (d2 d ++ 32 :: q1 :: q2 :: q3 :: 32 :: (d4 y ++ 32 :: (d2 (s / 3600) ++ 58 :: (d2 (s / 60 % 60) ++ 58 :: (d2 (s % 60) ++ 32 :: gmt)))))) 5 7 = d2 d := rfl
  have e4 : cut (p1 :: p2 :: p3 :: 44 :: 32 :: (d2 d ++ 32 :: q1 :: q2 :: q3 :: 32 :: (d4 y ++ 32 :: (d2 (s / 3600) ++ 58 :: (d2 (s / 60 % 60) ++ 58 :: (d2 (s % 60) ++ 32 :: gmt)))))) 17 19 = d2 (s / 3600) := rfl
  have e5 : cut (p1 :: p2 :: p3 :: 44 :: 32 :: (d2 d ++ 32 :: q1 :: q2 :: q3 :: 32 :: (d4 y ++ 32 :: (d2 (s / 3600) ++ 58 :: (d2 (s / 60 % 60) ++ 58 :: (d2 (s % 60) ++ 32 :: gmt)))))) 20 22 = d2 (s / 60 % 60) := rfl
  have e6 : cut (p1 :: p2 :: p3 :: 44 :: 32 :: (d2 d ++ 32 :: q1 :: q2 :: q3 :: 32 :: (d4 y ++ 32 :: (d2 (s / 3600) ++ 58 :: (d2 (s / 60 % 60) ++ 58 :: (d2 (s % 60) ++ 32 :: gmt)))))) 23 25 = d2 (s % 60) := rfl
  rw [e1, e2, e3, e4, e5, e6, numR_d4 y (by omega) (by omega), hm, numR_d2 d (by omega) (by omega), numR_d2 _ (by omega) (by omega), numR_d2 _ (by omega) (by omega), numR_d2 _ (by omega) (by omega)]
theorem at2_f2 {y m d w s : Int} (h : Parts y m d w s) : at2 (f2 y m d w s) = momR y m d (s / 3600) (s / 60 % 60) (s % 60) := by
  obtain ⟨a, b, c, e, f, g, i, j, k, l⟩ := h
  obtain ⟨p1, p2, p3, hp⟩ := three i j
  obtain ⟨q1, q2, q3, hq⟩ := threeM c e
  have hm := finR_mon m c e
  rw [hq] at hm
  obtain ⟨x, hx⟩ : ∃ x, (if d < 10 then (32 : UInt8) else dc (d / 10)) = x := ⟨_, rfl⟩
  have hL : f2 y m d w s = p1 :: p2 :: p3 :: 32 :: q1 :: q2 :: q3 :: 32 :: x :: dc (d % 10) :: 32 :: (d2 (s / 3600) ++ 58 :: (d2 (s / 60 % 60) ++ 58 :: (d2 (s % 60) ++ 32 :: d4 y))) := by
    unfold f2 clock db; rw [hp, hq, hx]; simp
  unfold at2
  rw [hL]
  have e0 : numR (cut (p1 :: p2 :: p3 :: 32 :: q1 :: q2 :: q3 :: 32 :: x :: dc (d % 10) :: 32 :: (d2 (s / 3600) ++ 58 :: (d2 (s / 60 % 60) ++ 58 :: (d2 (s % 60) ++ 32 :: d4 y)))) (from2 (p1 :: p2 :: p3 :: 32 :: q1 :: q2 :: q3 :: 32 :: x :: dc (d % 10) :: 32 :: (d2 (s / 3600) ++ 58 :: (d2 (s / 60 % 60) ++ 58 :: (d2 (s % 60) ++ 32 :: d4 y))))) 10) = d := by
    by_cases hd : d < 10
    · rw [if_pos hd] at hx
      have : from2 (p1 :: p2 :: p3 :: 32 :: q1 :: q2 :: q3 :: 32 :: x :: dc (d % 10) :: 32 :: (d2 (s / 3600) ++ 58 :: (d2 (s / 60 % 60) ++ 58 :: (d2 (s % 60) ++ 32 :: d4 y)))) = 9 := by
        unfold from2; exact if_pos hx.symm
      rw [this]
      show numR [dc (d % 10)] = d
      rw [numR_d1 _ (by omega) (by omega)]; omega
    · rw [if_neg hd] at hx
      have : from2 (p1 :: p2 :: p3 :: 32 :: q1 :: q2 :: q3 :: 32 :: x :: dc (d % 10) :: 32 :: (d2 (s / 3600) ++ 58 :: (d2 (s / 60 % 60) ++ 58 :: (d2 (s % 60) ++ 32 :: d4 y)))) = 8 := by
        unfold from2
        refine if_neg ?_
        show ¬ x = 32
        rw [← hx]
        exact dc_ne32 _ (by omega) (by omega)
      rw [this, ← hx]
      show numR (d2 d) = d
      exact numR_d2 d (by omega) (by omega)
  rw [e0]
  have e1 : cut (p1 :: p2 :: p3 :: 32 :: q1 :: q2 :: q3 :: 32 :: x :: dc (d % 10) :: 32 :: (d2 (s / 3600) ++ 58 :: (d2 (s / 60 % 60) ++ 58 :: (d2 (s % 60) ++ 32 :: d4 y)))) 20 24 = d4 y := rfl
  have e2 : cut (p1 :: p2 :: p3 :: 32 :: q1 :: q2 :: q3 :: 32 :: x :: dc (d % 10) :: 32 :: (d2 (s / 3600) ++ 58 :: (d2 (s / 60 % 60) ++ 58 :: (d2 (s % 60) ++ 32 :: d4 y)))) 4 7 = [q1, q2, q3] := rfl
  have e4 : cut (p1 :: p2 :: p3 :: 32 :: q1 :: q2 :: q3 :: 32 :: x :: dc (d % 10) :: 32 :: (d2 (s / 3600) ++ 58 :: (d2 (s / 60 % 60) ++ 58 :: (d2 (s % 60) ++ 32 :: d4 y)))) 11 13 = d2 (s / 3600) := rfl
  have e5 : cut (p1 :: p2 :: p3 :: 32 :: q1 :: q2 :: q3 :: 32 :: x :: dc (d % 10) :: 32 :: (d2 (s / 3600) ++ 58 :: (d2 (s / 60 % 60) ++ 58 :: (d2 (s % 60) ++ 32 :: d4 y)))) 14 16 = d2 (s / 60 % 60) := rfl
  have e6 : cut (p1 :: p2 :: p3 :: 32 :: q1 :: q2 :: q3 :: 32 :: x :: dc (d % 10) :: 32 :: (d2 (s / 3600) ++ 58 :: (d2 (s / 60 % 60) ++ 58 :: (d2 (s % 60) ++ 32 :: d4 y)))) 17 19 = d2 (s % 60) := rfl
  rw [e1, e2, e4, e5, e6, numR_d4 y (by omega) (by omega), hm, numR_d2 _ (by omega) (by omega), numR_d2 _ (by omega) (by omega), numR_d2 _ (by omega) (by omega)]
theorem cut_app (x r : List UInt8) (f t : Nat) : cut (x ++ r) (x.length + f) (x.length + t) = cut r f t := by
  unfold cut
  rw [List.take_length_add_append, List.drop_length_add_append]
theorem at1_f1 {y m d w s : Int} (h : Parts y m d w s) : y1 (f1 y m d w s) (dayN w).length = y % 100 ∧ at1 (f1 y m d w s) (dayN w).length = momR (full (y % 100)) m d (s / 3600) (s / 60 % 60) (s % 60) := by
  obtain ⟨a, b, c, e, f, g, i, j, k, l⟩ := h
  obtain ⟨q1, q2, q3, hq⟩ := threeM c e
  have hm := finR_mon m c e
  rw [hq] at hm
  have hL : f1 y m d w s = dayN w ++ (44 :: 32 :: (d2 d ++ 45 :: q1 :: q2 :: q3 :: 45 :: (d2 (y % 100) ++ 32 :: (d2 (s / 3600) ++ 58 :: (d2 (s / 60 % 60) ++ 58 :: (d2 (s % 60) ++ 32 :: gmt)))))) := by
    unfold f1 clock; rw [hq]; simp
  have hy : y1 (f1 y m d w s) (dayN w).length = y % 100 := by
    unfold y1
    rw [hL, cut_app]
    exact numR_d2 _ (by omega) (by omega)
  refine ⟨hy, ?_⟩
  unfold at1
  rw [hy, hL, cut_app, cut_app, cut_app, cut_app, cut_app]
  have e2 : cut (44 :: 32 :: (d2 d ++ 45 :: q1 :: q2 :: q3 :: 45 :: (d2 (y % 100) ++ 32 :: (d2 (s / 3600) ++ 58 :: (d2 (s / 60 % 60) ++ 58 :: (d2 (s % 60) ++ 32 :: gmt)))))) 5 8 = [q1, q2, q3] := rfl
  have e3 : cut (44 :: 32 :: (d2 d ++ 45 :: q1 :: q2 :: q3 :: 45 :: (d2 (y % 100) ++ 32 :: (d2 (s / 3600) ++ 58 :: (d2 (s / 60 % 60) ++ 58 :: (d2 (s % 60) ++ 32 :: gmt)))))) 2 4 = d2 d := rfl
  have e4 : cut (44 :: 32 :: (d2 d ++ 45 :: q1 :: q2 :: q3 :: 45 :: (d2 (y % 100) ++ 32 :: (d2 (s / 3600) ++ 58 :: (d2 (s / 60 % 60) ++ 58 :: (d2 (s % 60) ++ 32 :: gmt)))))) 12 14 = d2 (s / 3600) := rfl
  have e5 : cut (44 :: 32 :: (d2 d ++ 45 :: q1 :: q2 :: q3 :: 45 :: (d2 (y % 100) ++ 32 :: (d2 (s / 3600) ++ 58 :: (d2 (s / 60 % 60) ++ 58 :: (d2 (s % 60) ++ 32 :: gmt)))))) 15 17 = d2 (s / 60 % 60) := rfl
  have e6 : cut (44 :: 32 :: (d2 d ++ 45 :: q1 :: q2 :: q3 :: 45 :: (d2 (y % 100) ++ 32 :: (d2 (s / 3600) ++ 58 :: (d2 (s / 60 % 60) ++ 58 :: (d2 (s % 60) ++ 32 :: gmt)))))) 18 20 = d2 (s % 60) := rfl
  rw [e2, e3, e4, e5, e6, hm, numR_d2 d (by omega) (by omega), numR_d2 _ (by omega) (by omega), numR_d2 _ (by omega) (by omega), numR_d2 _ (by omega) (by omega)]
  unfold full
  congr 1
  split <;> omega

/-- The text has the length of a second form of that day of the week, and begins with its name. -/
def Named (l : List UInt8) (w : Nat) : Prop := l.length = (dayNames.getD w []).length + 24 ∧ l.take (dayNames.getD w []).length = dayNames.getD w []
theorem Named.one {l : List UInt8} {w v : Nat} (hw : w < 7) (hv : v < 7) (h : Named l w) (h' : Named l v) : w = v := by
  have e : dayNames.getD w [] = dayNames.getD v [] := by
    have hl : (dayNames.getD w []).length = (dayNames.getD v []).length := by have := h.1; have := h'.1; omega
    rw [← h.2, ← h'.2, hl]
  have a : w = 0 ∨ w = 1 ∨ w = 2 ∨ w = 3 ∨ w = 4 ∨ w = 5 ∨ w = 6 := by omega
  have b : v = 0 ∨ v = 1 ∨ v = 2 ∨ v = 3 ∨ v = 4 ∨ v = 5 ∨ v = 6 := by omega
  rcases a with rfl | rfl | rfl | rfl | rfl | rfl | rfl <;> rcases b with rfl | rfl | rfl | rfl | rfl | rfl | rfl <;> first | rfl | (exact absurd e (by decide))
/-- It is the second form of the moment that is read behind that name. -/
def Hit (l : List UInt8) (w : Nat) : Prop := Named l w ∧ 0 ≤ at1 l (dayNames.getD w []).length ∧ l = form (at1 l (dayNames.getD w []).length) 1

theorem len_form {a : Int} (h0 : 0 ≤ a) (h1 : a ≤ last) : (form a 0).length = 29 ∧ 30 ≤ (form a 1).length ∧ (form a 1).length ≤ 33 ∧ (form a 2).length = 24 := by
  obtain ⟨y, m, d, hd, hp⟩ := parts_of h0 h1
  have hw := (dayN_all hp.w0 hp.w1).2.2
  rw [form0 hd, form1 hd, form2 hd, len_f0 hp, len_f1 hp, len_f2 hp]
  omega
theorem says29 {l : List UInt8} {a : Int} (hl : l.length = 29) (h : Says l a) : at0 l = a ∧ l = form a 0 := by
  obtain ⟨h0, h1, h⟩ := h
  have hf := len_form h0 h1
  have hx : l = form a 0 := by
    rcases h with e | ⟨_, e⟩ | e
    · exact e
    · rw [e] at hl; omega
    · rw [e] at hl; omega
  refine ⟨?_, hx⟩
  obtain ⟨y, m, d, hd, hp⟩ := parts_of h0 h1
  rw [hx, form0 hd, at0_f0 hp, momR_of h0 hd]
theorem says24 {l : List UInt8} {a : Int} (hl : l.length = 24) (h : Says l a) : at2 l = a ∧ l = form a 2 := by
  obtain ⟨h0, h1, h⟩ := h
  have hf := len_form h0 h1
  have hx : l = form a 2 := by
    rcases h with e | ⟨_, e⟩ | e
    · rw [e] at hl; omega
    · rw [e] at hl; omega
    · exact e
  refine ⟨?_, hx⟩
  obtain ⟨y, m, d, hd, hp⟩ := parts_of h0 h1
  rw [hx, form2 hd, at2_f2 hp, momR_of h0 hd]
theorem saysX {l : List UInt8} {a : Int} (hl : ¬ l.length = 29) (hl' : ¬ l.length = 24) (h : Says l a) : ∃ w : Nat, w < 7 ∧ Hit l w ∧ 0 ≤ y1 l (dayNames.getD w []).length ∧ at1 l (dayNames.getD w []).length = a := by
  obtain ⟨h0, h1, h⟩ := h
  have hf := len_form h0 h1
  have hx : a ≤ lastForms ∧ l = form a 1 := by
    rcases h with e | e | e
    · rw [e] at hl; omega
    · exact e
    · rw [e] at hl'; omega
  obtain ⟨y, m, d, hd, hp⟩ := parts_of h0 h1
  have hn : (wday (a / 86400)).toNat < 7 := by have := wday_bd (a / 86400); omega
  have ha := at1_f1 hp
  have hfb := full_back hd.y0 ((years_forms hd).1 hx.1)
  rw [hfb, momR_of h0 hd] at ha
  have hlf : l = f1 y m d (wday (a / 86400)) (a % 86400) := by rw [← form1 hd]; exact hx.2
  have hdn : dayNames.getD (wday (a / 86400)).toNat [] = dayN (wday (a / 86400)) := rfl
  refine ⟨(wday (a / 86400)).toNat, hn, ⟨⟨?_, ?_⟩, ?_, ?_⟩, ?_, ?_⟩
  · rw [hdn, hlf, len_f1 hp]
  · rw [hdn, hlf]; unfold f1; rw [List.take_left]
  · rw [hdn, hlf, ha.2]; exact h0
  · rw [hdn]; conv => rhs; rw [hlf, ha.2]
    exact hx.2
  · rw [hdn, hlf, ha.1]; omega
  · rw [hdn, hlf, ha.2]
theorem numR_4 (l : List UInt8) (f t : Nat) (h : t - f ≤ 4) : -1 ≤ numR (cut l f t) ∧ numR (cut l f t) ≤ 9999 := by
  have := numR_bd (cut l f t) 4 (by have := cut_len l f t; omega)
  omega
theorem numR_2 (l : List UInt8) (f t : Nat) (h : t - f ≤ 2) : -1 ≤ numR (cut l f t) ∧ numR (cut l f t) ≤ 99 := by
  have := numR_bd (cut l f t) 2 (by have := cut_len l f t; omega)
  omega
theorem at0_bd (l : List UInt8) (h : 0 ≤ at0 l) : at0 l ≤ last := by
  obtain ⟨D, _, _, h3⟩ := momR_date (numR_4 l 12 16 (by omega)).2 (finR_bd _).2 h
  exact h3
theorem at2_bd (l : List UInt8) (h : 0 ≤ at2 l) : at2 l ≤ last := by
  obtain ⟨D, _, _, h3⟩ := momR_date (numR_4 l 20 24 (by omega)).2 (finR_bd _).2 h
  exact h3
theorem at1_bd (l : List UInt8) (k : Nat) (h : 0 ≤ at1 l k) (hy : 0 ≤ y1 l k) : at1 l k ≤ lastForms := by
  have hb := numR_2 l (k + 9) (k + 11) (by omega)
  have hb' : y1 l k ≤ 99 := hb.2
  obtain ⟨D, h1, h2, h3⟩ := momR_date (by split <;> omega) (finR_bd _).2 h
  exact (years_forms h1).2 (by split <;> omega)
theorem lastForms_last : lastForms ≤ last := by decide
theorem hit_says {l : List UInt8} {w : Nat} (h : Hit l w) (hy : 0 ≤ y1 l (dayNames.getD w []).length) : Says l (at1 l (dayNames.getD w []).length) :=
  ⟨h.2.1, Int.le_trans (at1_bd l _ h.2.1 hy) lastForms_last, .inr (.inl ⟨at1_bd l _ h.2.1 hy, h.2.2⟩)⟩

open Classical in
/-- What the document asks of Parse. -/
noncomputable def asked (l : List UInt8) : Int × Int := if h : ∃ a, Says l a then (choose h, 0) else (0, 10)
theorem asked_yes {l : List UInt8} {a : Int} (h : Says l a) : asked l = (a, 0) := by
  have he : ∃ a, Says l a := ⟨a, h⟩
  unfold asked
  rw [dif_pos he, (Classical.choose_spec he).one h]
theorem asked_no {l : List UInt8} (h : ∀ a, ¬ Says l a) : asked l = (0, 10) := by
  unfold asked
  rw [dif_neg (fun ⟨a, ha⟩ => h a ha)]

end Dt
