/- The plain mathematics of package target: octets coded and made normal. Lists of octets alone. -/
import Derived.Test.YtlikjfemkadciaaGreatDoorOctMath
namespace Tg
abbrev L := List UInt8

/-- Letters, digits, and -._~ : the same, coded or not. -/
def free (c : UInt8) : Bool := Oct.alnum c || c == 45 || c == 46 || c == 95 || c == 126
def mark (c : UInt8) : Bool := [33, 36, 38, 39, 40, 41, 42, 43, 44, 59, 61].contains c
def hostc (c : UInt8) : Bool := free c || mark c
def pathc (c : UInt8) : Bool := free c || mark c || c == 58 || c == 64 || c == 47
def queryc (c : UInt8) : Bool := pathc c || c == 63
def hexd (c : UInt8) : Bool := decide (Oct.worth c < 16)
def numc (c : UInt8) : Bool := hexd c || c == 58 || c == 46
/-- A digit below 16, in great letters. -/
def up (n : Nat) : UInt8 := ([48, 49, 50, 51, 52, 53, 54, 55, 56, 57, 65, 66, 67, 68, 69, 70] : L).getD n 0
/-- A coded octet made normal. -/
def norm (n : Nat) : L := if free (UInt8.ofNat n) then [UInt8.ofNat n] else [37, up (n / 16), up (n % 16)]
/-- Octets that p names, and coded ones, with these made normal. -/
def coded (p : UInt8 → Bool) : L → Option L
  | [] => some []
  | c :: t =>
    if c = 37 then
      match t with
      | a :: b :: r => if hexd a && hexd b then (coded p r).map (norm (16 * Oct.worth a + Oct.worth b) ++ ·) else none
      | _ => none
    else if p c then (coded p t).map (c :: ·) else none

theorem coded_nil (p : UInt8 → Bool) : coded p [] = some [] := by simp only [coded]
theorem coded_esc (p : UInt8 → Bool) (a b : UInt8) (r : L) : coded p (37 :: a :: b :: r) = if hexd a && hexd b then (coded p r).map (norm (16 * Oct.worth a + Oct.worth b) ++ ·) else none := by
  rw [coded, if_pos rfl]
theorem coded_one (p : UInt8 → Bool) : coded p [37] = none := by rw [coded, if_pos rfl]; intro a b r h; cases h
theorem coded_two (p : UInt8 → Bool) (a : UInt8) : coded p [37, a] = none := by rw [coded, if_pos rfl]; intro a b r h; cases h
theorem coded_plain (p : UInt8 → Bool) (c : UInt8) (t : L) (h : c ≠ 37) : coded p (c :: t) = if p c then (coded p t).map (c :: ·) else none := by
  rw [coded.eq_def p (c :: t)]
  simp only [if_neg h]

/-- Octets, taken as the proof takes them: nothing, a coded one, half a coded one, another. -/
theorem coded_ind {P : L → Prop} (h0 : P []) (h1 : ∀ a b r, P r → P (37 :: a :: b :: r)) (h2 : P [37]) (h3 : ∀ a, P [37, a]) (h4 : ∀ c t, c ≠ 37 → P t → P (c :: t)) : ∀ n (l : L), l.length ≤ n → P l
  | 0, l, hl => by rw [List.eq_nil_of_length_eq_zero (l := l) (by omega)]; exact h0
  | n + 1, [], _ => h0
  | n + 1, c :: t, hl => by
    by_cases hc : c = 37
    · subst hc
      match t, hl with
      | [], _ => exact h2
      | [a], _ => exact h3 a
      | a :: b :: r, hl => exact h1 a b r (coded_ind h0 h1 h2 h3 h4 n r (by simp at hl; omega))
    · exact h4 c t hc (coded_ind h0 h1 h2 h3 h4 n t (by simpa using hl))

/-! A text, cut at an octet. -/
def sp (d : UInt8) : L → List L
  | [] => [[]]
  | c :: t => if c = d then [] :: sp d t else match sp d t with | x :: xs => (c :: x) :: xs | [] => [[c]]
theorem sp_nil (d : UInt8) : sp d [] = [[]] := rfl
theorem sp_sep (d : UInt8) (t : L) : sp d (d :: t) = [] :: sp d t := by rw [sp, if_pos rfl]
theorem sp_cases (d : UInt8) : ∀ l : L, ∃ x xs, sp d l = x :: xs
  | [] => ⟨_, _, rfl⟩
  | c :: t => by
    obtain ⟨x, xs, h⟩ := sp_cases d t
    rw [sp]; split
    · exact ⟨_, _, rfl⟩
    · rw [h]; exact ⟨_, _, rfl⟩
theorem sp_other (d c : UInt8) (t : L) (h : c ≠ d) {x : L} {xs : List L} (he : sp d t = x :: xs) : sp d (c :: t) = (c :: x) :: xs := by
  rw [sp, if_neg h, he]
theorem sp_none (d : UInt8) : ∀ a : L, (∀ c ∈ a, c ≠ d) → sp d a = [a]
  | [], _ => rfl
  | c :: t, h => sp_other d c t (h c (by simp)) (sp_none d t fun x hx => h x (by simp [hx]))
theorem sp_app (d : UInt8) (b : L) : ∀ a : L, (∀ c ∈ a, c ≠ d) → sp d (a ++ d :: b) = a :: sp d b
  | [], _ => sp_sep d b
  | c :: t, h => sp_other d c _ (h c (by simp)) (sp_app d b t fun x hx => h x (by simp [hx]))
theorem sp_mem (d : UInt8) : ∀ l : L, ∀ x ∈ sp d l, ∀ c ∈ x, c ≠ d ∧ c ∈ l
  | [], x, hx, c, hc => by rw [sp_nil, List.mem_singleton] at hx; subst hx; cases hc
  | a :: t, x, hx, c, hc => by
    by_cases ha : a = d
    · subst ha
      rw [sp_sep, List.mem_cons] at hx
      rcases hx with rfl | hx
      · cases hc
      · have := sp_mem a t x hx c hc; exact ⟨this.1, by simp [this.2]⟩
    · obtain ⟨y, ys, h⟩ := sp_cases d t
      rw [sp_other d a t ha h, List.mem_cons] at hx
      rcases hx with rfl | hx
      · rcases List.mem_cons.1 hc with rfl | hc
        · exact ⟨ha, by simp⟩
        · have := sp_mem d t y (by rw [h]; simp) c hc; exact ⟨this.1, by simp [this.2]⟩
      · have := sp_mem d t x (by rw [h]; simp [hx]) c hc; exact ⟨this.1, by simp [this.2]⟩
theorem sp_len (d : UInt8) : ∀ l : L, (sp d l).length ≤ l.length + 1
  | [] => by simp [sp_nil]
  | a :: t => by
    have ih := sp_len d t
    by_cases ha : a = d
    · subst ha; rw [sp_sep]; simp; omega
    · obtain ⟨y, ys, h⟩ := sp_cases d t
      rw [sp_other d a t ha h]; rw [h] at ih; simp at ih ⊢; omega
theorem sp_size (d : UInt8) : ∀ l : L, ∀ x ∈ sp d l, x.length ≤ l.length
  | [], x, hx => by rw [sp_nil, List.mem_singleton] at hx; subst hx; simp
  | a :: t, x, hx => by
    by_cases ha : a = d
    · subst ha
      rw [sp_sep, List.mem_cons] at hx
      rcases hx with rfl | hx
      · simp
      · have := sp_size a t x hx; simp; omega
    · obtain ⟨y, ys, h⟩ := sp_cases d t
      rw [sp_other d a t ha h, List.mem_cons] at hx
      rcases hx with rfl | hx
      · have := sp_size d t y (by rw [h]; simp); simp; omega
      · have := sp_size d t x (by rw [h]; simp [hx]); simp; omega

/-! The same, piece by piece. -/
def first (p : UInt8 → Bool) (x : L) : Option L := if x.all p then some x else none
def later (p : UInt8 → Bool) : L → Option L
  | a :: b :: r => if hexd a && hexd b && r.all p then some (norm (16 * Oct.worth a + Oct.worth b) ++ r) else none
  | _ => none
def tails (p : UInt8 → Bool) : List L → Option L
  | [] => some []
  | x :: xs => (later p x).bind fun y => (tails p xs).map (y ++ ·)
def evens (p : UInt8 → Bool) : List L → Option L
  | [] => none
  | x :: xs => (first p x).bind fun y => (tails p xs).map (y ++ ·)
theorem hexd_pct : hexd 37 = false := by decide

theorem coded_evens (p : UInt8 → Bool) (l : L) : coded p l = evens p (sp 37 l) := by
  refine coded_ind (P := fun l => coded p l = evens p (sp 37 l)) ?_ ?_ ?_ ?_ ?_ l.length l (Nat.le_refl _)
  · rw [coded_nil]; rfl
  · intro a b r ih
    rw [coded_esc, sp_sep]
    show _ = (tails p (sp 37 (a :: b :: r))).map ([] ++ ·)
    by_cases ha : a = 37
    · subst ha; rw [sp_sep, hexd_pct]; rfl
    · by_cases hb : b = 37
      · subst hb
        rw [sp_other 37 a _ ha (sp_sep 37 r), hexd_pct, Bool.and_false]; rfl
      · obtain ⟨x, xs, hx⟩ := sp_cases 37 r
        rw [sp_other 37 a _ ha (sp_other 37 b r hb hx)]
        rw [hx] at ih
        rw [ih]
        simp only [tails, later, evens, first]
        by_cases hh : (hexd a && hexd b) = true
        · rw [hh, if_pos rfl, Bool.true_and]
          by_cases hx2 : x.all p = true
          · rw [if_pos hx2, if_pos hx2]; simp [Function.comp_def]
          · rw [if_neg hx2, if_neg hx2]; rfl
        · rw [if_neg hh, if_neg (by simp_all)]; rfl
  · rw [coded_one, sp_sep, sp_nil]; rfl
  · intro a
    rw [coded_two, sp_sep]
    by_cases ha : a = 37
    · subst ha; rw [sp_sep]; rfl
    · rw [sp_other 37 a [] ha (sp_nil 37)]; rfl
  · intro c t hc ih
    obtain ⟨x, xs, hx⟩ := sp_cases 37 t
    rw [coded_plain p c t hc, sp_other 37 c t hc hx, ih, hx]
    simp only [evens, first]
    by_cases hp : p c = true
    · rw [if_pos hp]
      by_cases hx2 : x.all p = true
      · rw [if_pos hx2, if_pos (by rw [List.all_cons, hp, hx2]; rfl)]; simp [Function.comp_def]
      · rw [if_neg hx2, if_neg (by rw [List.all_cons, hp, Bool.true_and]; exact hx2)]; rfl
    · rw [if_neg hp, if_neg (by rw [List.all_cons, Bool.eq_false_iff.2 hp, Bool.false_and]; decide)]; rfl

/-! What was made normal is normal. -/
theorem up_hex (n : Nat) (h : n < 16) : hexd (up n) = true ∧ Oct.worth (up n) = n ∧ up n ≠ 37 ∧ up n ≠ 63 ∧ up n ≠ 47 ∧ up n ≠ 46 := by
  have : ∀ k : Fin 16, hexd (up k.1) = true ∧ Oct.worth (up k.1) = k.1 ∧ up k.1 ≠ 37 ∧ up k.1 ≠ 63 ∧ up k.1 ≠ 47 ∧ up k.1 ≠ 46 := by decide +kernel
  exact this ⟨n, h⟩
theorem hexd_lt {c : UInt8} (h : hexd c = true) : Oct.worth c < 16 := by simpa [hexd] using h
theorem free_facts (c : UInt8) (h : free c = true) : c ≠ 37 ∧ c ≠ 63 ∧ c ≠ 47 ∧ pathc c = true ∧ queryc c = true ∧ hostc c = true := by
  have := Oct.all_octets (fun c => !free c || decide (c ≠ 37 ∧ c ≠ 63 ∧ c ≠ 47 ∧ pathc c = true ∧ queryc c = true ∧ hostc c = true)) (by decide +kernel) c
  simpa [h] using this

/-- Which p are met here: all that is free is among them, % isn't. -/
structure Set' (p : UInt8 → Bool) : Prop where
  free : ∀ c, Tg.free c = true → p c = true
  pct : p 37 = false
theorem set_path : Set' pathc := ⟨fun c h => (free_facts c h).2.2.2.1, by decide⟩
theorem set_query : Set' queryc := ⟨fun c h => (free_facts c h).2.2.2.2.1, by decide⟩

theorem coded_norm {p : UInt8 → Bool} (hp : Set' p) (n : Nat) (hn : n < 256) (r : L) : coded p (norm n ++ r) = (coded p r).map (norm n ++ ·) := by
  unfold norm
  by_cases hf : free (UInt8.ofNat n) = true
  · rw [if_pos hf]
    show coded p (UInt8.ofNat n :: r) = _
    rw [coded_plain p _ _ (free_facts _ hf).1, if_pos (hp.free _ hf)]; rfl
  · rw [if_neg hf]
    have h1 := up_hex (n / 16) (by omega)
    have h2 := up_hex (n % 16) (by omega)
    show coded p (37 :: up (n / 16) :: up (n % 16) :: r) = _
    rw [coded_esc, h1.1, h2.1, if_pos (by decide), h1.2.1, h2.2.1, show 16 * (n / 16) + n % 16 = n by omega]
    unfold norm; rw [if_neg hf]
theorem coded_coded {p : UInt8 → Bool} (hp : Set' p) (l : L) : ∀ m, coded p l = some m → coded p m = some m := by
  refine coded_ind (P := fun l => ∀ m, coded p l = some m → coded p m = some m) ?_ ?_ ?_ ?_ ?_ l.length l (Nat.le_refl _)
  · intro m h; rw [coded_nil] at h; obtain rfl := Option.some.inj h; exact coded_nil p
  · intro a b r ih m h
    rw [coded_esc] at h
    by_cases hh : (hexd a && hexd b) = true
    · rw [if_pos hh] at h
      obtain ⟨x, hx, rfl⟩ := Option.map_eq_some_iff.1 h
      have hh2 := Bool.and_eq_true_iff.1 hh
      have h1 := hexd_lt hh2.1
      have h2 := hexd_lt hh2.2
      rw [coded_norm hp _ (by omega), ih x hx]; rfl
    · rw [if_neg hh] at h; cases h
  · intro m h; rw [coded_one] at h; cases h
  · intro a m h; rw [coded_two] at h; cases h
  · intro c t hc ih m h
    rw [coded_plain p c t hc] at h
    by_cases hpc : p c = true
    · rw [if_pos hpc] at h
      obtain ⟨x, hx, rfl⟩ := Option.map_eq_some_iff.1 h
      rw [coded_plain p c x hc, if_pos hpc, ih x hx]; rfl
    · rw [if_neg hpc] at h; cases h

theorem norm_len (n : Nat) : 1 ≤ (norm n).length ∧ (norm n).length ≤ 3 := by unfold norm; split <;> simp
theorem coded_len {p : UInt8 → Bool} (l : L) : ∀ m, coded p l = some m → m.length ≤ l.length := by
  refine coded_ind (P := fun l => ∀ m, coded p l = some m → m.length ≤ l.length) ?_ ?_ ?_ ?_ ?_ l.length l (Nat.le_refl _)
  · intro m h; rw [coded_nil] at h; obtain rfl := Option.some.inj h; simp
  · intro a b r ih m h
    rw [coded_esc] at h
    by_cases hh : (hexd a && hexd b) = true
    · rw [if_pos hh] at h
      obtain ⟨x, hx, rfl⟩ := Option.map_eq_some_iff.1 h
      have := ih x hx
      have h3 := norm_len (16 * Oct.worth a + Oct.worth b)
      simp; omega
    · rw [if_neg hh] at h; cases h
  · intro m h; rw [coded_one] at h; cases h
  · intro a m h; rw [coded_two] at h; cases h
  · intro c t hc ih m h
    rw [coded_plain p c t hc] at h
    by_cases hpc : p c = true
    · rw [if_pos hpc] at h
      obtain ⟨x, hx, rfl⟩ := Option.map_eq_some_iff.1 h
      have := ih x hx; simp; omega
    · rw [if_neg hpc] at h; cases h

/-- Ahead of an octet that stands for itself the text may be cut. -/
theorem coded_app {p : UInt8 → Bool} (d : UInt8) (hd : d ≠ 37) (hx : hexd d = false) (hp : p d = true) (b : L) (a : L) : coded p (a ++ d :: b) = (coded p a).bind fun x => (coded p b).map fun y => x ++ d :: y := by
  refine coded_ind (P := fun a => coded p (a ++ d :: b) = (coded p a).bind fun x => (coded p b).map fun y => x ++ d :: y) ?_ ?_ ?_ ?_ ?_ a.length a (Nat.le_refl _)
  · rw [coded_nil, List.nil_append, coded_plain p d b hd, if_pos hp]; rfl
  · intro e f r ih
    show coded p (37 :: e :: f :: (r ++ d :: b)) = _
    rw [coded_esc, coded_esc]
    by_cases hh : (hexd e && hexd f) = true
    · rw [if_pos hh, if_pos hh, ih]
      cases coded p r <;> cases coded p b <;> simp
    · rw [if_neg hh, if_neg hh]; rfl
  · rw [coded_one]
    cases b with
    | nil => exact coded_two p d
    | cons e b => show coded p (37 :: d :: e :: b) = _; rw [coded_esc, hx]; rfl
  · intro e
    rw [coded_two]
    show coded p (37 :: e :: d :: b) = _
    rw [coded_esc, hx, Bool.and_false]; rfl
  · intro c t hc ih
    show coded p (c :: (t ++ d :: b)) = _
    rw [coded_plain p c _ hc, coded_plain p c t hc]
    by_cases hpc : p c = true
    · rw [if_pos hpc, if_pos hpc, ih]
      cases coded p t <;> cases coded p b <;> simp
    · rw [if_neg hpc, if_neg hpc]; rfl

/-- An octet that p doesn't name, that isn't free, and that no coded octet has, isn't there behind it. -/
theorem coded_no {p : UInt8 → Bool} (d : UInt8) (hd : d ≠ 37) (hp : p d = false) (hf : free d = false) (hx : hexd d = false) (l : L) : ∀ m, coded p l = some m → ∀ c ∈ m, c ≠ d := by
  refine coded_ind (P := fun l => ∀ m, coded p l = some m → ∀ c ∈ m, c ≠ d) ?_ ?_ ?_ ?_ ?_ l.length l (Nat.le_refl _)
  · intro m h; rw [coded_nil] at h; obtain rfl := Option.some.inj h; intro c hc; cases hc
  · intro a b r ih m h
    rw [coded_esc] at h
    by_cases hh : (hexd a && hexd b) = true
    · rw [if_pos hh] at h
      obtain ⟨x, hx2, rfl⟩ := Option.map_eq_some_iff.1 h
      have hh2 := Bool.and_eq_true_iff.1 hh
      have h1 := hexd_lt hh2.1
      have h2 := hexd_lt hh2.2
      intro c hc
      rcases List.mem_append.1 hc with hc | hc
      · unfold norm at hc
        split at hc
        · rename_i hfr
          rw [List.mem_singleton] at hc; subst hc
          intro e; rw [e, hf] at hfr; cases hfr
        · have u1 := up_hex ((16 * Oct.worth a + Oct.worth b) / 16) (by omega)
          have u2 := up_hex ((16 * Oct.worth a + Oct.worth b) % 16) (by omega)
          simp only [List.mem_cons, List.not_mem_nil, or_false] at hc
          rcases hc with rfl | rfl | rfl
          · exact fun e => hd e.symm
          · intro e; rw [e, hx] at u1; cases u1.1
          · intro e; rw [e, hx] at u2; cases u2.1
      · exact ih x hx2 c hc
    · rw [if_neg hh] at h; cases h
  · intro m h; rw [coded_one] at h; cases h
  · intro a m h; rw [coded_two] at h; cases h
  · intro e t he ih m h
    rw [coded_plain p e t he] at h
    by_cases hpe : p e = true
    · rw [if_pos hpe] at h
      obtain ⟨x, hx2, rfl⟩ := Option.map_eq_some_iff.1 h
      intro c hc
      rcases List.mem_cons.1 hc with rfl | hc
      · intro e2; rw [e2, hp] at hpe; cases hpe
      · exact ih x hx2 c hc
    · rw [if_neg hpe] at h; cases h

end Tg
