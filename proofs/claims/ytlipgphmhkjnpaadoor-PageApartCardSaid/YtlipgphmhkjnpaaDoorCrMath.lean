/- The plain mathematics of check sums: registers as natural numbers below 2^32, the shift, runs over octets, sums, frames; nothing of any program. -/
namespace Cr
def poly : Nat := 3988292384
def ones : Nat := 4294967295
/-- One shift of the register. -/
def sh (r : Nat) : Nat := if r % 2 = 1 then (r / 2) ^^^ poly else r / 2
def shs : Nat → Nat → Nat
  | 0, r => r
  | n + 1, r => shs n (sh r)
/-- The register behind one more octet. -/
def st (r b : Nat) : Nat := shs 8 (r ^^^ b)
def run (r : Nat) (l : List UInt8) : Nat := l.foldl (fun r b => st r b.toNat) r
def sum (l : List UInt8) : Nat := run ones l ^^^ ones
def more (s : Nat) (l : List UInt8) : Nat := run (s ^^^ ones) l ^^^ ones
def le4 (n : Nat) : List UInt8 := [UInt8.ofNat (n % 256), UInt8.ofNat (n / 256 % 256), UInt8.ofNat (n / 65536 % 256), UInt8.ofNat (n / 16777216)]
def frame (l : List UInt8) : List UInt8 := l ++ le4 (sum l)

/-! ### numbers, bit by bit -/
theorem xx (a b : Nat) : a ^^^ b ^^^ b = a := by rw [Nat.xor_assoc, Nat.xor_self, Nat.xor_zero]
theorem xor_mod2 (a b : Nat) : (a ^^^ b) % 2 = (a % 2 + b % 2) % 2 := by
  have h := Nat.xor_mod_two_pow (a := a) (b := b) (n := 1)
  rw [Nat.pow_one] at h
  rw [h]
  rcases Nat.mod_two_eq_zero_or_one a with ha | ha <;> rcases Nat.mod_two_eq_zero_or_one b with hb | hb <;> rw [ha, hb] <;> decide
theorem xor_div2 (a b : Nat) : (a ^^^ b) / 2 = a / 2 ^^^ b / 2 := by
  have h := Nat.xor_div_two_pow (a := a) (b := b) (n := 1)
  rwa [Nat.pow_one] at h
theorem sh_xor (a b : Nat) : sh (a ^^^ b) = sh a ^^^ sh b := by
  unfold sh
  rw [xor_mod2, xor_div2]
  generalize a / 2 = x
  generalize b / 2 = y
  rcases Nat.mod_two_eq_zero_or_one a with ha | ha <;> rcases Nat.mod_two_eq_zero_or_one b with hb | hb <;> rw [ha, hb]
  · simp
  · simp [Nat.xor_assoc]
  · simp only [Nat.add_zero, Nat.one_mod, if_true]
    simp
    rw [Nat.xor_assoc, Nat.xor_assoc, Nat.xor_comm poly y]
  · simp
    rw [Nat.xor_assoc, ← Nat.xor_assoc poly y poly, Nat.xor_comm poly y, xx]
theorem shs_xor (n a b : Nat) : shs n (a ^^^ b) = shs n a ^^^ shs n b := by
  induction n generalizing a b with
  | zero => rfl
  | succ n ih => show shs n (sh (a ^^^ b)) = _; rw [sh_xor, ih]; rfl
theorem sh_zero : sh 0 = 0 := by decide
theorem shs_zero (n : Nat) : shs n 0 = 0 := by
  induction n with
  | zero => rfl
  | succ n ih => show shs n (sh 0) = 0; rw [sh_zero, ih]
theorem shs_add (m n r : Nat) : shs (m + n) r = shs n (shs m r) := by
  induction m generalizing r with
  | zero => rw [Nat.zero_add]; rfl
  | succ m ih => rw [Nat.succ_add]; show shs (m + n) (sh r) = _; rw [ih]; rfl
theorem xor_lt {a b : Nat} (ha : a < 4294967296) (hb : b < 4294967296) : a ^^^ b < 4294967296 := Nat.xor_lt_two_pow (n := 32) ha hb
theorem sh_lt {r : Nat} (h : r < 4294967296) : sh r < 4294967296 := by
  unfold sh
  split
  · exact xor_lt (by omega) (by decide)
  · omega
theorem shs_lt {n r : Nat} (h : r < 4294967296) : shs n r < 4294967296 := by
  induction n generalizing r with
  | zero => exact h
  | succ n ih => exact ih (sh_lt h)
/-- The highest bit says what has left. -/
theorem sh_top {r : Nat} (h : r < 4294967296) : sh r / 2147483648 = r % 2 := by
  unfold sh
  split
  · rename_i h1
    have e := Nat.xor_div_two_pow (a := r / 2) (b := poly) (n := 31)
    rw [show (2 : Nat) ^ 31 = 2147483648 by decide] at e
    rw [e, show r / 2 / 2147483648 = 0 by omega, show poly / 2147483648 = 1 by decide, h1]; rfl
  · omega
theorem sh_ne {r : Nat} (h : r < 4294967296) (h0 : r ≠ 0) : sh r ≠ 0 := by
  intro e
  have ht := sh_top h
  rw [e] at ht
  have h2 : r % 2 = 0 := by omega
  unfold sh at e
  rw [if_neg (by omega)] at e
  omega
theorem shs_ne {n r : Nat} (h : r < 4294967296) (h0 : r ≠ 0) : shs n r ≠ 0 := by
  induction n generalizing r with
  | zero => exact h0
  | succ n ih => exact ih (sh_lt h) (sh_ne h h0)
theorem xor_eq_zero {a b : Nat} (h : a ^^^ b = 0) : a = b := by
  have := xx a b
  rw [h, Nat.zero_xor] at this
  exact this.symm
theorem shs_inj {n a b : Nat} (ha : a < 4294967296) (hb : b < 4294967296) (h : shs n a = shs n b) : a = b := by
  by_cases e : a ^^^ b = 0
  · exact xor_eq_zero e
  · exfalso
    have h1 := shs_ne (n := n) (xor_lt ha hb) e
    rw [shs_xor, h, Nat.xor_self] at h1
    exact h1 rfl

/-! ### four bits at a time -/
theorem sh_even (r : Nat) : sh (2 * r) = r := by unfold sh; rw [if_neg (by omega)]; omega
theorem nib (r : Nat) : shs 4 r = r / 16 ^^^ shs 4 (r % 16) := by
  have e : r = 16 * (r / 16) ^^^ r % 16 := by
    have h1 := Nat.two_pow_add_eq_or_of_lt (i := 4) (b := r % 16) (by omega) (r / 16)
    have h2 : (2 ^ 4 * (r / 16)) ^^^ (r % 16) = 2 ^ 4 * (r / 16) ||| r % 16 := by
      apply Nat.eq_of_testBit_eq
      intro i
      rw [Nat.testBit_xor, Nat.testBit_or, Nat.testBit_two_pow_mul]
      by_cases hi : 4 ≤ i
      · have : (r % 16).testBit i = false := Nat.testBit_lt_two_pow (by have : 2 ^ 4 ≤ 2 ^ i := Nat.pow_le_pow_right (by decide) hi; omega)
        rw [this]; simp
      · simp [hi]
    have h3 : 2 ^ 4 * (r / 16) + r % 16 = r := by omega
    rw [show (16 : Nat) = 2 ^ 4 by decide] at *
    rw [h2, ← h1]; omega
  have e2 : shs 4 (16 * (r / 16)) = r / 16 := by
    show sh (sh (sh (sh (16 * (r / 16))))) = _
    rw [show 16 * (r / 16) = 2 * (2 * (2 * (2 * (r / 16)))) by omega, sh_even, sh_even, sh_even, sh_even]
  calc shs 4 r = shs 4 (16 * (r / 16) ^^^ r % 16) := by rw [← e]
    _ = _ := by rw [shs_xor, e2]
theorem shs8 (r : Nat) : shs 8 r = shs 4 (shs 4 r) := shs_add 4 4 r

/-! ### runs -/
theorem u8_lt (b : UInt8) : b.toNat < 4294967296 := by have := b.toNat_lt; omega
theorem run_nil (r : Nat) : run r [] = r := rfl
theorem run_cons (r : Nat) (b : UInt8) (l : List UInt8) : run r (b :: l) = run (st r b.toNat) l := rfl
theorem run_append (r : Nat) (l m : List UInt8) : run r (l ++ m) = run (run r l) m := List.foldl_append
theorem st_lt {r b : Nat} (h : r < 4294967296) (hb : b < 4294967296) : st r b < 4294967296 := shs_lt (xor_lt h hb)
theorem run_lt {r : Nat} (l : List UInt8) (h : r < 4294967296) : run r l < 4294967296 := by
  induction l generalizing r with
  | nil => exact h
  | cons b l ih => exact ih (st_lt h (u8_lt b))
theorem sum_lt (l : List UInt8) : sum l < 4294967296 := xor_lt (run_lt l (by decide)) (by decide)
theorem sum_nil : sum [] = 0 := by decide
theorem more_sum (l m : List UInt8) : more (sum l) m = sum (l ++ m) := by unfold more sum; rw [xx, run_append]
theorem more_nil (s : Nat) : more s [] = s := by unfold more; rw [run_nil, xx]
theorem more_append (s : Nat) (l m : List UInt8) : more (more s l) m = more s (l ++ m) := by unfold more; rw [xx, run_append]
theorem more_zero (l : List UInt8) : more 0 l = sum l := by unfold more sum; rw [Nat.zero_xor]
/-- Differences of octets. -/
def dif (l m : List UInt8) : List UInt8 := List.zipWith (fun a b => a ^^^ b) l m
theorem run_dif (r s : Nat) (l m : List UInt8) (h : l.length = m.length) : run (r ^^^ s) (dif l m) = run r l ^^^ run s m := by
  induction l generalizing r s m with
  | nil =>
    obtain rfl : m = [] := List.length_eq_zero_iff.1 h.symm
    rfl
  | cons a l ih =>
    match m, h with
    | b :: m, h =>
      show run (st (r ^^^ s) (a ^^^ b).toNat) (dif l m) = run (st r a.toNat) l ^^^ run (st s b.toNat) m
      have e : st (r ^^^ s) (a ^^^ b).toNat = st r a.toNat ^^^ st s b.toNat := by
        unfold st
        rw [← shs_xor, UInt8.toNat_xor]
        congr 1
        rw [Nat.xor_assoc, Nat.xor_assoc, ← Nat.xor_assoc s, Nat.xor_comm s, Nat.xor_assoc]
      rw [e]
      exact ih _ _ _ (by simpa using h)
theorem run_zeros (n r : Nat) : run r (List.replicate n 0) = shs (8 * n) r := by
  induction n generalizing r with
  | zero => rfl
  | succ n ih =>
    rw [List.replicate_succ, run_cons, ih, show 8 * (n + 1) = 8 + 8 * n by omega, shs_add]
    unfold st
    rw [show (0 : UInt8).toNat = 0 from rfl, Nat.xor_zero]
/-- Sums of differences: of three texts of one length and their difference. -/
theorem sum_dif3 (a b c : List UInt8) (h1 : a.length = b.length) (h2 : b.length = c.length) : sum (dif (dif a b) c) = sum a ^^^ sum b ^^^ sum c := by
  unfold sum
  have e1 : run (ones ^^^ ones ^^^ ones) (dif (dif a b) c) = run ones a ^^^ run ones b ^^^ run ones c := by
    rw [run_dif _ _ _ _ (by unfold dif; rw [List.length_zipWith]; omega), run_dif _ _ _ _ h1]
  rw [xx] at e1
  rw [e1]
  generalize run ones a = x
  generalize run ones b = y
  generalize run ones c = z
  apply Nat.eq_of_testBit_eq
  intro i
  simp only [Nat.testBit_xor]
  cases x.testBit i <;> cases y.testBit i <;> cases z.testBit i <;> cases ones.testBit i <;> rfl

/-! ### frames -/
theorem xor_add (k a b : Nat) (h : b < 2 ^ k) : 2 ^ k * a ^^^ b = 2 ^ k * a + b := by
  have h1 := Nat.two_pow_add_eq_or_of_lt (i := k) (b := b) h a
  have h2 : (2 ^ k * a) ^^^ b = 2 ^ k * a ||| b := by
    apply Nat.eq_of_testBit_eq
    intro i
    rw [Nat.testBit_xor, Nat.testBit_or, Nat.testBit_two_pow_mul]
    by_cases hi : k ≤ i
    · have : b.testBit i = false := Nat.testBit_lt_two_pow (by have : 2 ^ k ≤ 2 ^ i := Nat.pow_le_pow_right (by decide) hi; omega)
      rw [this]; simp
    · simp [hi]
  rw [h2, ← h1]
theorem shs_mul (k x : Nat) : shs k (2 ^ k * x) = x := by
  induction k generalizing x with
  | zero => show 1 * x = x; omega
  | succ k ih =>
    show shs k (sh (2 ^ (k + 1) * x)) = x
    rw [show 2 ^ (k + 1) * x = 2 * (2 ^ k * x) by rw [Nat.pow_succ, Nat.mul_comm (2 ^ k) 2, Nat.mul_assoc], sh_even, ih]
theorem shs_with (r b k n : Nat) : shs n (shs k r ^^^ b) = shs (k + n) (r ^^^ 2 ^ k * b) := by
  rw [shs_add, shs_xor k, shs_mul]
def w4 (a b c d : Nat) : Nat := a + 256 * b + 65536 * c + 16777216 * d
theorem w4_lt {a b c d : Nat} (ha : a < 256) (hb : b < 256) (hc : c < 256) (hd : d < 256) : w4 a b c d < 4294967296 := by unfold w4; omega
theorem w4_xor {a b c d : Nat} (ha : a < 256) (hb : b < 256) (hc : c < 256) : a ^^^ 2 ^ 8 * b ^^^ 2 ^ 16 * c ^^^ 2 ^ 24 * d = w4 a b c d := by
  rw [Nat.xor_comm a, xor_add 8 b a (by omega), Nat.xor_comm _ (2 ^ 16 * c), xor_add 16 c _ (by omega), Nat.xor_comm _ (2 ^ 24 * d), xor_add 24 d _ (by omega)]
  unfold w4; omega
theorem run4 (r : Nat) (a b c d : UInt8) : run r [a, b, c, d] = shs 32 (r ^^^ w4 a.toNat b.toNat c.toNat d.toNat) := by
  show st (st (st (st r a.toNat) b.toNat) c.toNat) d.toNat = _
  unfold st
  rw [shs_with _ b.toNat 8 8, shs_with _ c.toNat (8 + 8) 8, shs_with _ d.toNat (8 + 8 + 8) 8, ← w4_xor a.toNat_lt b.toNat_lt c.toNat_lt]
  show shs 32 _ = shs 32 _
  congr 1
  simp only [Nat.xor_assoc]
theorem le4_w4 (a b c d : UInt8) : le4 (w4 a.toNat b.toNat c.toNat d.toNat) = [a, b, c, d] := by
  have ha := a.toNat_lt; have hb := b.toNat_lt; have hc := c.toNat_lt; have hd := d.toNat_lt
  have e0 : w4 a.toNat b.toNat c.toNat d.toNat % 256 = a.toNat := by unfold w4; omega
  have e1 : w4 a.toNat b.toNat c.toNat d.toNat / 256 % 256 = b.toNat := by unfold w4; omega
  have e2 : w4 a.toNat b.toNat c.toNat d.toNat / 65536 % 256 = c.toNat := by unfold w4; omega
  have e3 : w4 a.toNat b.toNat c.toNat d.toNat / 16777216 = d.toNat := by unfold w4; omega
  unfold le4
  rw [e0, e1, e2, e3, UInt8.ofNat_toNat, UInt8.ofNat_toNat, UInt8.ofNat_toNat, UInt8.ofNat_toNat]
theorem w4_le4 {n : Nat} : w4 (n % 256) (n / 256 % 256) (n / 65536 % 256) (n / 16777216) = n := by unfold w4; omega
theorem run_le4 (r : Nat) {n : Nat} (h : n < 4294967296) : run r (le4 n) = shs 32 (r ^^^ n) := by
  have t : ∀ k, k < 256 → (UInt8.ofNat k).toNat = k := fun k hk => by rw [UInt8.toNat_ofNat', Nat.mod_eq_of_lt (by omega)]
  unfold le4
  rw [run4, t _ (by omega), t _ (by omega), t _ (by omega), t _ (by omega), w4_le4]
theorem le4_length (n : Nat) : (le4 n).length = 4 := rfl
theorem frame_length (l : List UInt8) : (frame l).length = l.length + 4 := by unfold frame; rw [List.length_append, le4_length]
/-- What a register holds behind a frame. -/
def res : Nat := shs 32 ones
theorem run_frame (l : List UInt8) : run ones (frame l) = res := by
  unfold frame
  rw [run_append, run_le4 _ (sum_lt l)]
  unfold sum res
  rw [← Nat.xor_assoc, Nat.xor_self, Nat.zero_xor]
theorem frame_of_run {l : List UInt8} {a b c d : UInt8} (h : run ones (l ++ [a, b, c, d]) = res) : l ++ [a, b, c, d] = frame l := by
  rw [run_append, run4] at h
  have hr := run_lt l (show ones < 4294967296 by decide)
  have hw := w4_lt a.toNat_lt b.toNat_lt c.toNat_lt d.toNat_lt
  have e := shs_inj (xor_lt hr hw) (by decide) h
  have e2 : w4 a.toNat b.toNat c.toNat d.toNat = sum l := by
    unfold sum
    generalize run ones l = x at *
    rw [← e, ← Nat.xor_assoc, Nat.xor_self, Nat.zero_xor]
  unfold frame
  rw [← e2, le4_w4]
theorem split4 {l : List UInt8} (h : 4 ≤ l.length) : ∃ a b c d, l = l.take (l.length - 4) ++ [a, b, c, d] := by
  have hd : (l.drop (l.length - 4)).length = 4 := by rw [List.length_drop]; omega
  match e : l.drop (l.length - 4), hd with
  | [a, b, c, d], _ => exact ⟨a, b, c, d, by rw [← e, List.take_append_drop]⟩
/-- Octets are a frame if and only if the register says so. -/
theorem frame_iff {l : List UInt8} (h : 4 ≤ l.length) : l = frame (l.take (l.length - 4)) ↔ run ones l = res := by
  constructor
  · intro e; rw [e]; exact run_frame _
  · intro e
    obtain ⟨a, b, c, d, hs⟩ := split4 h
    generalize l.take (l.length - 4) = t at *
    rw [hs] at e ⊢
    exact frame_of_run e
theorem frame_take (l : List UInt8) : (frame l).take ((frame l).length - 4) = l := by
  rw [frame_length, Nat.add_sub_cancel]; unfold frame; exact List.take_left
theorem dif_nil (m : List UInt8) : dif [] m = [] := rfl
theorem dif_length (l m : List UInt8) : (dif l m).length = min l.length m.length := List.length_zipWith
/-- Which octets are others: k as they were, four, n as they were. -/
def turn (k : Nat) (a b c d : UInt8) (n : Nat) : List UInt8 := List.replicate k 0 ++ ([a, b, c, d] ++ List.replicate n 0)
theorem turn_length (k : Nat) (a b c d : UInt8) (n : Nat) : (turn k a b c d n).length = k + 4 + n := by
  unfold turn; simp; omega
theorem run_turn (k : Nat) (a b c d : UInt8) (n : Nat) : run 0 (turn k a b c d n) = shs (8 * n) (shs 32 (w4 a.toNat b.toNat c.toNat d.toNat)) := by
  unfold turn
  rw [run_append, run_append, run_zeros k, shs_zero, run4, run_zeros, Nat.zero_xor]
/-- Of a frame of which four octets one behind the other are others, not all as they were, none is a frame. -/
theorem turned {f : List UInt8} {k n : Nat} {a b c d : UInt8} (hl : f.length = k + 4 + n) (hf : run ones f = res) (hw : w4 a.toNat b.toNat c.toNat d.toNat ≠ 0) : run ones (dif f (turn k a b c d n)) ≠ res := by
  have e := run_dif ones 0 f (turn k a b c d n) (by rw [turn_length]; exact hl)
  rw [Nat.xor_zero, run_turn, hf] at e
  rw [e]
  intro h
  have h2 : shs (8 * n) (shs 32 (w4 a.toNat b.toNat c.toNat d.toNat)) = 0 := by
    generalize shs (8 * n) (shs 32 (w4 a.toNat b.toNat c.toNat d.toNat)) = y at h ⊢
    have := xx y res
    rw [Nat.xor_comm y res, h, Nat.xor_self] at this
    exact this.symm
  have hlt := w4_lt a.toNat_lt b.toNat_lt c.toNat_lt d.toNat_lt
  exact shs_ne (shs_lt hlt) (shs_ne hlt hw) h2
theorem w4_zero {a b c d : UInt8} : w4 a.toNat b.toNat c.toNat d.toNat = 0 ↔ a = 0 ∧ b = 0 ∧ c = 0 ∧ d = 0 := by
  constructor
  · intro h
    unfold w4 at h
    exact ⟨UInt8.toNat_inj.1 (by show a.toNat = 0; omega), UInt8.toNat_inj.1 (by show b.toNat = 0; omega), UInt8.toNat_inj.1 (by show c.toNat = 0; omega), UInt8.toNat_inj.1 (by show d.toNat = 0; omega)⟩
  · rintro ⟨rfl, rfl, rfl, rfl⟩; rfl
theorem dif_turn_zero (f : List UInt8) (k n : Nat) (hl : f.length = k + 4 + n) : dif f (turn k 0 0 0 0 n) = f := by
  have e : turn k 0 0 0 0 n = List.replicate (k + 4 + n) 0 := by
    unfold turn
    rw [show ([0, 0, 0, 0] : List UInt8) = List.replicate 4 0 from rfl, List.replicate_append_replicate, List.replicate_append_replicate]
    congr 1; omega
  rw [e, ← hl]
  clear e hl
  unfold dif
  induction f with
  | nil => rfl
  | cons x f ih => rw [List.length_cons, List.replicate_succ, List.zipWith_cons_cons, ih]; simp
theorem turn_get (k : Nat) (a b c d : UInt8) (n j : Nat) (h : j < (turn k a b c d n).length) : (turn k a b c d n)[j] = if j = k then a else if j = k + 1 then b else if j = k + 2 then c else if j = k + 3 then d else 0 := by
  unfold turn at h ⊢
  by_cases h1 : j < k
  · rw [List.getElem_append_left (by rw [List.length_replicate]; exact h1), List.getElem_replicate, if_neg (by omega), if_neg (by omega), if_neg (by omega), if_neg (by omega)]
  · rw [List.getElem_append_right (by rw [List.length_replicate]; omega)]
    simp only [List.length_replicate]
    by_cases h2 : j - k < 4
    · rw [List.getElem_append_left (by simpa using h2)]
      obtain h3 | h3 | h3 | h3 : j = k ∨ j = k + 1 ∨ j = k + 2 ∨ j = k + 3 := by omega
      all_goals subst h3
      · simp
      · simp
      · simp
      · simp
    · rw [List.getElem_append_right (by simp; omega), List.getElem_replicate, if_neg (by omega), if_neg (by omega), if_neg (by omega), if_neg (by omega)]
theorem dif_get (l m : List UInt8) (j : Nat) (h : j < (dif l m).length) (h1 : j < l.length) (h2 : j < m.length) : (dif l m)[j] = l[j] ^^^ m[j] := by
  simp only [dif, List.getElem_zipWith]
/-- Four octets written one behind the other. -/
theorem dif_set (f : List UInt8) (k n : Nat) (a b c d : UInt8) (hl : f.length = k + 4 + n) :
    (((f.set k (f[k]'(by omega) ^^^ a)).set (k + 1) (f[k + 1]'(by omega) ^^^ b)).set (k + 2) (f[k + 2]'(by omega) ^^^ c)).set (k + 3) (f[k + 3]'(by omega) ^^^ d) = dif f (turn k a b c d n) := by
  refine List.ext_getElem (by rw [dif_length, turn_length]; simp; omega) fun j h1 h2 => ?_
  have hj : j < f.length := by simpa using h1
  rw [dif_get _ _ _ _ hj (by rw [turn_length]; omega), turn_get]
  simp only [List.getElem_set]
  by_cases e3 : j = k + 3
  · subst e3; simp
  · by_cases e2 : j = k + 2
    · subst e2; simp
    · by_cases e1 : j = k + 1
      · subst e1; simp
      · by_cases e0 : j = k
        · subst e0; simp
        · rw [if_neg (fun e => e3 e.symm), if_neg (fun e => e2 e.symm), if_neg (fun e => e1 e.symm), if_neg (fun e => e0 e.symm), if_neg e0, if_neg e1, if_neg e2, if_neg e3]; simp
/-- The first i of four, the rest 0. -/
def upto (l : List UInt8) (i j : Nat) : UInt8 := if j < i then l.getD j 0 else 0
/-- Octets changed one after another from place k on: i of them are. -/
def part (f : List UInt8) (k : Nat) (l : List UInt8) (i : Nat) : List UInt8 := f.mapIdx fun j x => if k ≤ j ∧ j < k + i then x ^^^ l.getD (j - k) 0 else x
theorem part_zero (f : List UInt8) (k : Nat) (l : List UInt8) : part f k l 0 = f := by
  refine List.ext_getElem (by simp [part]) fun j h1 h2 => ?_
  simp only [part, List.getElem_mapIdx]
  rw [if_neg (by omega)]
theorem part_length (f : List UInt8) (k : Nat) (l : List UInt8) (i : Nat) : (part f k l i).length = f.length := by unfold part; simp
theorem part_succ (f : List UInt8) (k : Nat) (l : List UInt8) (i : Nat) (h : k + i < f.length) : part f k l (i + 1) = (part f k l i).set (k + i) ((part f k l i)[k + i]'(by rw [part_length]; exact h) ^^^ l.getD i 0) := by
  refine List.ext_getElem (by rw [List.length_set, part_length, part_length]) fun j h1 h2 => ?_
  rw [List.getElem_set]
  simp only [part, List.getElem_mapIdx]
  by_cases e : k + i = j
  · subst e
    rw [if_pos rfl, if_pos ⟨by omega, by omega⟩, if_neg (by omega), Nat.add_sub_cancel_left]
  · rw [if_neg e]
    by_cases e2 : k ≤ j ∧ j < k + i
    · rw [if_pos ⟨e2.1, by omega⟩, if_pos e2]
    · rw [if_neg (by omega), if_neg e2]
theorem part_four (f : List UInt8) (k n : Nat) (a b c d : UInt8) (hl : f.length = k + 4 + n) : part f k [a, b, c, d] 4 = dif f (turn k a b c d n) := by
  refine List.ext_getElem (by rw [part_length, dif_length, turn_length]; omega) fun j h1 h2 => ?_
  have hj : j < f.length := by rw [part_length] at h1; exact h1
  rw [dif_get _ _ _ _ hj (by rw [turn_length]; omega), turn_get]
  simp only [part, List.getElem_mapIdx]
  by_cases e : k ≤ j ∧ j < k + 4
  · rw [if_pos e]
    obtain h3 | h3 | h3 | h3 : j = k ∨ j = k + 1 ∨ j = k + 2 ∨ j = k + 3 := by omega
    all_goals subst h3
    · simp
    · simp
    · simp
    · simp
  · rw [if_neg e, if_neg (by omega), if_neg (by omega), if_neg (by omega), if_neg (by omega)]; simp

/-! ### a table of sixteen numbers -/
def tab : List Nat := [0, 0x1DB71064, 0x3B6E20C8, 0x26D930AC, 0x76DC4190, 0x6B6B51F4, 0x4DB26158, 0x5005713C, 0xEDB88320, 0xF00F9344, 0xD6D6A3E8, 0xCB61B38C, 0x9B64C2B0, 0x86D3D2D4, 0xA00AE278, 0xBDBDF21C]
theorem tab_is : ∀ i, i < 16 → shs 4 i = tab.getD i 0 := by decide
theorem tab_lt : ∀ i, i < 16 → tab.getD i 0 < 4294967296 := by decide
theorem xor_div16 (a b : Nat) : (a ^^^ b) / 16 = a / 16 ^^^ b / 16 := by
  have h := Nat.xor_div_two_pow (a := a) (b := b) (n := 4)
  rwa [show (2 : Nat) ^ 4 = 16 by decide] at h
/-- Both halves of an octet by the table: the octet laid on first. -/
theorem st_tab (r b : Nat) : st r b = ((r ^^^ b) / 16 ^^^ tab.getD ((r ^^^ b) % 16) 0) / 16 ^^^ tab.getD (((r ^^^ b) / 16 ^^^ tab.getD ((r ^^^ b) % 16) 0) % 16) 0 := by
  unfold st
  rw [shs8, nib (r ^^^ b), tab_is _ (Nat.mod_lt _ (by decide)), nib, tab_is _ (Nat.mod_lt _ (by decide))]
/-- The like, each half laid on by itself. -/
theorem st_tab2 (r b : Nat) (hb : b < 256) : st r b = (r / 16 ^^^ tab.getD ((r ^^^ b) % 16) 0) / 16 ^^^ tab.getD (((r / 16 ^^^ tab.getD ((r ^^^ b) % 16) 0) ^^^ b / 16) % 16) 0 := by
  rw [st_tab, xor_div16 r b]
  have e : r / 16 ^^^ b / 16 ^^^ tab.getD ((r ^^^ b) % 16) 0 = (r / 16 ^^^ tab.getD ((r ^^^ b) % 16) 0) ^^^ b / 16 := by
    rw [Nat.xor_assoc, Nat.xor_comm (b / 16), ← Nat.xor_assoc]
  rw [e]
  generalize r / 16 ^^^ tab.getD ((r ^^^ b) % 16) 0 = y
  rw [xor_div16 y, show b / 16 / 16 = 0 by omega, Nat.xor_zero]

/-! ### opened -/
/-- What is framed, and a code: 0, 11 for too few octets, 33 for no frame. -/
def opn (l : List UInt8) : List UInt8 × Int := if l.length < 4 then ([], 11) else if l = frame (l.take (l.length - 4)) then (l.take (l.length - 4), 0) else ([], 33)
theorem le4_back {n : Nat} (hn : n < 4294967296) {a b c d : UInt8} (h : [a, b, c, d] = le4 n) : w4 a.toNat b.toNat c.toNat d.toNat = n := by
  unfold le4 at h
  simp only [List.cons.injEq, and_true] at h
  obtain ⟨rfl, rfl, rfl, rfl⟩ := h
  have t : ∀ k, k < 256 → (UInt8.ofNat k).toNat = k := fun k hk => by rw [UInt8.toNat_ofNat', Nat.mod_eq_of_lt (by omega)]
  rw [t _ (by omega), t _ (by omega), t _ (by omega), t _ (by omega), w4_le4]
theorem opn_parts (t : List UInt8) (a b c d : UInt8) : opn (t ++ [a, b, c, d]) = if sum t = w4 a.toNat b.toNat c.toNat d.toNat then (t, 0) else ([], 33) := by
  have hl : (t ++ [a, b, c, d]).length = t.length + 4 := by rw [List.length_append]; rfl
  unfold opn
  rw [hl, if_neg (by omega), Nat.add_sub_cancel, List.take_left]
  have e : (t ++ [a, b, c, d] = frame t) = (sum t = w4 a.toNat b.toNat c.toNat d.toNat) := by
    refine propext ⟨fun h => ?_, fun h => ?_⟩
    · unfold frame at h
      exact (le4_back (sum_lt t) (List.append_cancel_left h)).symm
    · unfold frame
      rw [h, le4_w4]
  simp only [e]
theorem opn_short {l : List UInt8} (h : l.length < 4) : opn l = ([], 11) := by unfold opn; rw [if_pos h]
theorem opn_frame (l : List UInt8) : opn (frame l) = (l, 0) := by
  unfold opn
  rw [if_neg (by rw [frame_length]; omega), frame_take, if_pos rfl]
theorem opn_run {l : List UInt8} (h : 4 ≤ l.length) (hr : run ones l ≠ res) : opn l = ([], 33) := by
  unfold opn
  rw [if_neg (by omega), if_neg (fun e => hr ((frame_iff h).1 e))]
/-- Four octets of a frame turned. -/
theorem opn_turned {l : List UInt8} {k n : Nat} {a b c d : UInt8} (hl : (frame l).length = k + 4 + n) :
    opn (part (frame l) k [a, b, c, d] 4) = if a = 0 ∧ b = 0 ∧ c = 0 ∧ d = 0 then (l, 0) else ([], 33) := by
  rw [part_four _ _ n _ _ _ _ hl]
  split
  · rename_i h
    obtain ⟨rfl, rfl, rfl, rfl⟩ := h
    rw [dif_turn_zero _ _ _ hl, opn_frame]
  · rename_i h
    refine opn_run (by rw [dif_length, turn_length]; omega) (turned hl (run_frame l) (fun e => h (w4_zero.1 e)))

/-! ### numbers of four octets, put together -/
theorem or_four {a b c d : Nat} (ha : a < 256) (hb : b < 256) (hc : c < 256) : a ||| b * 256 = a + 256 * b ∧ (a + 256 * b) ||| c * 65536 = a + 256 * b + 65536 * c ∧ (a + 256 * b + 65536 * c) ||| d * 16777216 = w4 a b c d := by
  have g : ∀ k x y : Nat, x < 2 ^ k → x ||| y * 2 ^ k = x + 2 ^ k * y := fun k x y hx => by
    have h1 := Nat.two_pow_add_eq_or_of_lt (i := k) (b := x) hx y
    rw [Nat.or_comm, Nat.mul_comm y, ← h1]; omega
  refine ⟨g 8 a b (by omega), ?_, ?_⟩
  · exact g 16 _ c (by omega)
  · rw [show d * 16777216 = d * 2 ^ 24 from rfl, g 24 _ d (by omega)]; unfold w4; omega
end Cr
