/- The plain mathematics of package chunk: what is written in chunks is read as it. -/
import Derived.Test.YtlbjjeonchcgbaaGreatDoorCkMath
namespace Ck

def chunkOf (p : L) : L := if p = [] then [] else Oct.print p.length 16 ++ [13, 10] ++ p ++ [13, 10]
def encode (ls : List L) : L := ls.flatMap chunkOf ++ [48, 13, 10, 13, 10]
/-- What was ahead, and how much was taken ahead. -/
def sh (o : L) (n : Nat) (r : L × Nat × S × Int) : L × Nat × S × Int := (o ++ r.1, n + r.2.1, r.2.2)
theorem sh_sh (o p : L) (n m : Nat) (r : L × Nat × S × Int) : sh o n (sh p m r) = sh (o ++ p) (n + m) r := by
  unfold sh; simp only [List.append_assoc, Nat.add_assoc]
theorem sh_none (r : L × Nat × S × Int) : sh [] 0 r = r := by unfold sh; simp
theorem go_step {s : S} {b : L} {n : Nat} {o : L} {s' : S} (h : step s b = .ok n o s') : go s b = sh o n (go s' (b.drop n)) := go_ok h

/-! A size line. -/
theorem lineAt_text {s : L} (h : ∀ c ∈ s, c ≠ 10) (hl : s.length ≤ 254) (rest : L) : lineAt (s ++ 13 :: 10 :: rest) = (s, ((s.length + 2 : Nat) : Int), 0) :=
  St.line_text h 255 (by omega) rest
theorem drop_line (s rest : L) : (s ++ 13 :: 10 :: rest).drop (s.length + 2) = rest := by
  rw [show s ++ 13 :: 10 :: rest = (s ++ [13, 10]) ++ rest by simp, show s.length + 2 = (s ++ [13, 10]).length by simp, List.drop_left]
theorem go_size {s : L} (h : ∀ c ∈ s, c ≠ 10) (hl : s.length ≤ 254) {t n : Nat} (hn : sizeOf s = n) (h0 : 0 < n) (ht : t + n ≤ 1048576) (rest : L) :
    go (.size t) (s ++ 13 :: 10 :: rest) = sh [] (s.length + 2) (go (.data (t + n) n) rest) := by
  have hL := lineAt_text h hl rest
  have hs := size_next (b := s ++ 13 :: 10 :: rest) (t := t) (by rw [hL]) (by rw [hL]; show 0 < sizeOf s; omega) (by rw [hL]; show ¬ sizeOf s > _; omega)
  rw [hL] at hs
  simp only [hn, Int.toNat_natCast] at hs
  rw [go_step hs, drop_line]
theorem go_long {s : L} (h : ∀ c ∈ s, c ≠ 10) (hl : s.length ≤ 254) {t n : Nat} (hn : sizeOf s = n) (h0 : 0 < n) (ht : 1048576 < t + n) (rest : L) :
    (go (.size t) (s ++ 13 :: 10 :: rest)) = ([], 0, .size t, 12) := by
  have hL := lineAt_text h hl rest
  exact go_err (size_long (by rw [hL]) (by rw [hL]; show 0 < sizeOf s; omega) (by rw [hL]; show sizeOf s > _; omega))
theorem go_last {s : L} (h : ∀ c ∈ s, c ≠ 10) (hl : s.length ≤ 254) {t : Nat} (hn : sizeOf s = 0) (rest : L) :
    go (.size t) (s ++ 13 :: 10 :: rest) = sh [] (s.length + 2) (go (.trail 0) rest) := by
  have hL := lineAt_text h hl rest
  have hs := size_last (b := s ++ 13 :: 10 :: rest) (t := t) (by rw [hL]) (by rw [hL]; exact hn)
  rw [hL] at hs
  simp only [Int.toNat_natCast] at hs
  rw [go_step hs, drop_line]
theorem go_data (t : Nat) (rest : L) : ∀ p : L, go (sD t p.length) (p ++ rest) = sh p p.length (go (.tail t) rest)
  | [] => by rw [List.length_nil, sh_none]; rfl
  | c :: p => by
    have hs : step (sD t (c :: p).length) ((c :: p) ++ rest) = .ok 1 [c] (sD t p.length) := by
      have := data_next (t := t) (n := (c :: p).length) (l := (c :: p) ++ rest) (A := 0) (by simp) (by simp)
      simpa using this
    rw [go_step hs]
    show sh [c] 1 (go (sD t p.length) (p ++ rest)) = _
    rw [go_data t rest p, sh_sh, List.length_cons, Nat.add_comm]; rfl
theorem go_tail (t : Nat) (rest : L) : go (.tail t) (13 :: 10 :: rest) = sh [] 2 (go (.size t) rest) :=
  go_step (s := .tail t) (b := 13 :: 10 :: rest) (n := 2) (o := []) (s' := .size t) rfl
/-- A chunk is read. -/
theorem go_chunk {s : L} (h : ∀ c ∈ s, c ≠ 10) (hl : s.length ≤ 254) {t : Nat} {p : L} (hn : sizeOf s = (p.length : Int)) (h0 : p ≠ []) (ht : t + p.length ≤ 1048576) (rest : L) :
    go (.size t) (s ++ 13 :: 10 :: (p ++ 13 :: 10 :: rest)) = sh p (s.length + 2 + p.length + 2) (go (.size (t + p.length)) rest) := by
  have hp : 0 < p.length := List.length_pos_iff.2 h0
  rw [go_size h hl hn hp ht]
  have e : S.data (t + p.length) p.length = sD (t + p.length) p.length := by unfold sD; rw [if_neg (by omega)]
  rw [e, go_data, go_tail, sh_sh, sh_sh]
  simp only [List.nil_append, List.append_nil]

/-! A trailer. -/
theorem go_line {s : L} (h : ∀ c ∈ s, c ≠ 10) (hl : s.length ≤ 254) {k : Nat} (h0 : s ≠ []) (hf : fieldBad s = false) (hk : k < 128) (rest : L) :
    go (.trail k) (s ++ 13 :: 10 :: rest) = sh [] (s.length + 2) (go (.trail (k + 1)) rest) := by
  have hL := lineAt_text h hl rest
  have hs := trail_next (b := s ++ 13 :: 10 :: rest) (k := k) (by rw [hL]) (by rw [hL]; exact h0) (by rw [hL]; exact hf) (by omega)
  rw [hL] at hs
  simp only [Int.toNat_natCast] at hs
  rw [go_step hs, drop_line]
theorem go_many {s : L} (h : ∀ c ∈ s, c ≠ 10) (hl : s.length ≤ 254) {k : Nat} (h0 : s ≠ []) (hf : fieldBad s = false) (hk : 128 ≤ k) (rest : L) :
    go (.trail k) (s ++ 13 :: 10 :: rest) = ([], 0, .trail k, 13) := by
  have hL := lineAt_text h hl rest
  exact go_err (trail_many (by rw [hL]) (by rw [hL]; exact h0) (by rw [hL]; exact hf) hk)
theorem go_end (k : Nat) (rest : L) : go (.trail k) (13 :: 10 :: rest) = ([], 2, .over, 0) := by
  have hL := lineAt_text (s := []) (fun c h => by cases h) (Nat.zero_le _) rest
  have hs := trail_over (b := 13 :: 10 :: rest) (k := k) (by have : lineAt (13 :: 10 :: rest) = _ := hL; rw [this]) (by have : lineAt (13 :: 10 :: rest) = _ := hL; rw [this])
  have : lineAt (13 :: 10 :: rest) = _ := hL
  rw [this] at hs
  rw [go_step hs, go_more (s := .over) rfl]; rfl

/-! Sizes as digits. -/
theorem hex_no (n : Nat) : ∀ c ∈ Oct.print n 16, c ≠ 10 := by
  have h := Oct.dgs_dig 16 (by decide) (by decide) n
  unfold Oct.allOf at h
  intro c hc
  have := Oct.all_octets (fun c => !Oct.dig 16 c || decide (c ≠ 10)) (by decide +kernel) c
  have hd : Oct.dig 16 c = true := List.all_eq_true.1 h c hc
  simpa [hd] using this
theorem hex_len : ∀ (k n : Nat), n < 16 ^ (k + 1) → (Oct.dgs 16 n).length ≤ k + 1
  | 0, n, h => by rw [Oct.dgs_last (by simpa using h)]; simp
  | k + 1, n, h => by
    by_cases h2 : n < 16
    · rw [Oct.dgs_last h2]; simp
    · rw [Oct.dgs_more (by decide) (by omega), List.length_append]
      have := hex_len k (n / 16) (by rw [Nat.pow_succ] at h; exact Nat.div_lt_of_lt_mul (by rw [Nat.mul_comm]; exact h))
      simp; omega
theorem take_all_while (p : UInt8 → Bool) : ∀ (a : L) (b : L), (∀ c ∈ a, p c = true) → (∀ c, b.head? = some c → p c = false) → (a ++ b).takeWhile p = a
  | [], [], _, _ => rfl
  | [], c :: b, _, h => by simp [h c rfl]
  | c :: a, b, h1, h2 => by
    rw [List.cons_append, List.takeWhile, h1 c (by simp)]
    simp only []
    rw [take_all_while p a b (fun x hx => h1 x (by simp [hx])) h2]
/-- Noughts, digits, an extension. -/
theorem digits_of {d x : L} (hd : ∀ c ∈ d, Oct.dig 16 c = true) (hl : d.length ≤ 8) (hx : ∀ c, x.head? = some c → Oct.dig 16 c = false) : digits (d ++ x) = d := by
  unfold digits
  rw [List.take_append, List.take_of_length_le hl]
  refine take_all_while _ d _ hd (fun c hc => hx c ?_)
  cases x with
  | nil => simp at hc
  | cons a t =>
    rw [List.head?_take] at hc
    split at hc
    · cases hc
    · exact hc
theorem num_nought (most : Int) (h0 : 0 ≤ most) : ∀ (z : Nat) (r : L), Oct.num 16 most 0 (List.replicate z 48 ++ r) = Oct.num 16 most 0 r
  | 0, r => rfl
  | z + 1, r => by
    show Oct.num 16 most 0 (48 :: (List.replicate z 48 ++ r)) = _
    have hw : Oct.worth 48 = 0 := by decide
    simp only [Oct.num, hw]
    rw [if_neg (by simp; omega)]
    have := num_nought most h0 z r
    simpa using this
theorem sizeOf_hex (z n : Nat) (x : L) (hn : n ≤ 1048576) (hl : z + (Oct.print n 16).length ≤ 8) (hx : ∀ c, x.head? = some c → Oct.dig 16 c = false) (he : ext x = true) : sizeOf (List.replicate z 48 ++ (Oct.print n 16 ++ x)) = n := by
  have h := Oct.dgs_dig 16 (by decide) (by decide) n
  unfold Oct.allOf at h
  have hdg : ∀ c ∈ List.replicate z 48 ++ Oct.print n 16, Oct.dig 16 c = true := by
    intro c hc
    rcases List.mem_append.1 hc with hc | hc
    · rw [(List.mem_replicate.1 hc).2]; decide
    · exact List.all_eq_true.1 h c hc
  have e : List.replicate z 48 ++ (Oct.print n 16 ++ x) = (List.replicate z 48 ++ Oct.print n 16) ++ x := by rw [List.append_assoc]
  have hdd := digits_of hdg (by rw [List.length_append, List.length_replicate]; exact hl) hx
  have hnum : Oct.number 16 4294967295 (List.replicate z 48 ++ Oct.print n 16) = ((n : Int), 0) := by
    have h1 := Oct.number_dgs 16 (by decide) (by decide) 4294967295 n (by omega)
    unfold Oct.number at h1 ⊢
    have hall : Oct.allOf (Oct.dig 16) (List.replicate z 48 ++ Oct.print n 16) = true := List.all_eq_true.2 hdg
    have hne : List.replicate z 48 ++ Oct.print n 16 ≠ [] := fun e => Oct.dgs_ne 16 n (List.append_eq_nil_iff.1 e).2
    have hne2 : Oct.dgs 16 n ≠ [] := Oct.dgs_ne 16 n
    have hall2 : Oct.allOf (Oct.dig 16) (Oct.dgs 16 n) = true := Oct.dgs_dig 16 (by decide) (by decide) n
    rw [if_neg (by rw [hall2]; simp [hne2]), if_neg (by decide)] at h1
    rw [if_neg (by rw [hall]; simp only [Bool.true_eq_false, or_false]; exact hne), if_neg (by decide), num_nought 4294967295 (by decide) z]
    exact h1
  unfold sizeOf
  rw [e, hdd, hnum, if_neg (by simp)]
  rw [List.drop_left, he]; rfl
theorem hex_len8 {n : Nat} (hn : n ≤ 1048576) : (Oct.print n 16).length ≤ 6 := hex_len 5 n (by omega)
theorem sizeOf_print {n : Nat} (hn : n ≤ 1048576) : sizeOf (Oct.print n 16) = n := by
  have := sizeOf_hex 0 n [] hn (by have := hex_len8 hn; omega) (fun c h => by cases h) rfl
  simpa using this

/-! What is written in chunks. -/
theorem go_chunks : ∀ (ls : List L) (t : Nat) (rest : L), t + ls.flatten.length ≤ 1048576 → go (.size t) (ls.flatMap chunkOf ++ rest) = sh ls.flatten (ls.flatMap chunkOf).length (go (.size (t + ls.flatten.length)) rest)
  | [], t, rest, _ => by
    show go (.size t) rest = sh [] 0 (go (.size t) rest)
    rw [sh_none]
  | p :: ls, t, rest, h => by
    rw [List.flatten_cons, List.length_append] at h
    rw [List.flatMap_cons, List.flatten_cons]
    by_cases h0 : p = []
    · subst h0
      have := go_chunks ls t rest (by simpa using h)
      simpa [chunkOf] using this
    · have e : chunkOf p ++ ls.flatMap chunkOf ++ rest = Oct.print p.length 16 ++ 13 :: 10 :: (p ++ 13 :: 10 :: (ls.flatMap chunkOf ++ rest)) := by
        unfold chunkOf; rw [if_neg h0]; simp
      rw [e, go_chunk (hex_no _) (by have := hex_len8 (n := p.length) (by omega); omega) (sizeOf_print (by omega)) h0 (by omega), go_chunks ls _ rest (by omega), sh_sh]
      have el : (chunkOf p).length = (Oct.print p.length 16).length + 2 + p.length + 2 := by unfold chunkOf; rw [if_neg h0]; simp; omega
      rw [List.length_append, List.length_append, el, Nat.add_assoc t]
theorem go_encode (ls : List L) (tail : L) (h : ls.flatten.length ≤ 1048576) : go (.size 0) (encode ls ++ tail) = (ls.flatten, (encode ls).length, .over, 0) := by
  have e : encode ls ++ tail = ls.flatMap chunkOf ++ ([48] ++ 13 :: 10 :: (13 :: 10 :: tail)) := by unfold encode; simp
  rw [e, go_chunks ls 0 _ (by omega), go_last (by decide) (by decide) (by decide +kernel), go_end, sh_sh]
  unfold sh encode
  simp
theorem told_encode (ls : List L) (tail : L) (h : ls.flatten.length ≤ 1048576) : told (encode ls ++ tail) = (ls.flatten, (encode ls).length, true, 0) := by
  unfold told
  rw [go_encode ls tail h]; rfl
end Ck
