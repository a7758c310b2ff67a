/- The plain mathematics of package target: octets coded and made normal. Lists of octets alone. -/
import Derived.Test.YtoanelobggledaaGreatDoorVM1
import Derived.Lib.Join
import Derived.Lib.SlicesCompact
namespace Tg
abbrev L := List UInt8
def free (c : UInt8) : Bool := Oct.alnum c || c == 45 || c == 46 || c == 95 || c == 126
def mark (c : UInt8) : Bool := [33, 36, 38, 39, 40, 41, 42, 43, 44, 59, 61].contains c
def hostc (c : UInt8) : Bool := free c || mark c
def pathc (c : UInt8) : Bool := free c || mark c || c == 58 || c == 64 || c == 47
def queryc (c : UInt8) : Bool := pathc c || c == 63
def hexd (c : UInt8) : Bool := decide (Oct.worth c < 16)
def numc (c : UInt8) : Bool := hexd c || c == 58 || c == 46
def up (n : Nat) : UInt8 := ([48, 49, 50, 51, 52, 53, 54, 55, 56, 57, 65, 66, 67, 68, 69, 70] : L).getD n 0
def norm (n : Nat) : L := if free (UInt8.ofNat n) then [UInt8.ofNat n] else [37, up (n / 16), up (n % 16)]
def coded (p : UInt8 → Bool) : L → Option L
  | [] => some []
  | c :: t =>
    if c = 37 then
      match t with
      | a :: b :: r => if hexd a && hexd b then (coded p r).map (norm (16 * Oct.worth a + Oct.worth b) ++ ·) else none
      | _ => none
    else if p c then (coded p t).map (c :: ·) else none
theorem coded_nil (p : UInt8 → Bool) : coded p [] = some [] := by simp only [coded]
theorem coded_esc (p : UInt8 → Bool) (a b : UInt8) (r : L) : coded p (37 :: a :: b :: r) = if hexd a && hexd b then (coded p r).map (norm (16 * Oct.worth a + Oct.worth b) ++ ·) else none := by
  rw [coded, if_pos rfl]
theorem coded_one (p : UInt8 → Bool) : coded p [37] = none := by rw [coded, if_pos rfl]; intro a b r h; cases h
theorem coded_two (p : UInt8 → Bool) (a : UInt8) : coded p [37, a] = none := by rw [coded, if_pos rfl]; intro a b r h; cases h
theorem coded_plain (p : UInt8 → Bool) (c : UInt8) (t : L) (h : c ≠ 37) : coded p (c :: t) = if p c then (coded p t).map (c :: ·) else none := by
  rw [coded.eq_def p (c :: t)]
  simp only [if_neg h]
theorem coded_ind {P : L → Prop} (h0 : P []) (h1 : ∀ a b r, P r → P (37 :: a :: b :: r)) (h2 : P [37]) (h3 : ∀ a, P [37, a]) (h4 : ∀ c t, c ≠ 37 → P t → P (c :: t)) : ∀ n (l : L), l.length ≤ n → P l
  | 0, l, hl => by rw [List.eq_nil_of_length_eq_zero (l := l) (by omega)]; exact h0
  | n + 1, [], _ => h0
  | n + 1, c :: t, hl => by
    by_cases hc : c = 37
    · subst hc
      match t, hl with
      | [], _ => exact h2
      | [a], _ => exact h3 a
      | a :: b :: r, hl => exact h1 a b r (coded_ind h0 h1 h2 h3 h4 n r (by simp at hl; omega))
    · exact h4 c t hc (coded_ind h0 h1 h2 h3 h4 n t (by simpa using hl))
def sp (d : UInt8) : L → List L
  | [] => [[]]
  | c :: t => if c = d then [] :: sp d t else match sp d t with | x :: xs => (c :: x) :: xs | [] => [[c]]
theorem sp_nil (d : UInt8) : sp d [] = [[]] := rfl
theorem sp_sep (d : UInt8) (t : L) : sp d (d :: t) = [] :: sp d t := by rw [sp, if_pos rfl]
theorem sp_cases (d : UInt8) : ∀ l : L, ∃ x xs, sp d l = x :: xs
  | [] => ⟨_, _, rfl⟩
  | c :: t => by
    obtain ⟨x, xs, h⟩ := sp_cases d t
    rw [sp]; split
    · exact ⟨_, _, rfl⟩
    · rw [h]; exact ⟨_, _, rfl⟩
theorem sp_other (d c : UInt8) (t : L) (h : c ≠ d) {x : L} {xs : List L} (he : sp d t = x :: xs) : sp d (c :: t) = (c :: x) :: xs := by
  rw [sp, if_neg h, he]
theorem sp_none (d : UInt8) : ∀ a : L, (∀ c ∈ a, c ≠ d) → sp d a = [a]
  | [], _ => rfl
  | c :: t, h => sp_other d c t (h c (by simp)) (sp_none d t fun x hx => h x (by simp [hx]))
theorem sp_app (d : UInt8) (b : L) : ∀ a : L, (∀ c ∈ a, c ≠ d) → sp d (a ++ d :: b) = a :: sp d b
  | [], _ => sp_sep d b
  | c :: t, h => sp_other d c _ (h c (by simp)) (sp_app d b t fun x hx => h x (by simp [hx]))
theorem sp_mem (d : UInt8) : ∀ l : L, ∀ x ∈ sp d l, ∀ c ∈ x, c ≠ d ∧ c ∈ l
  | [], x, hx, c, hc => by rw [sp_nil, List.mem_singleton] at hx; subst hx; cases hc
  | a :: t, x, hx, c, hc => by
    by_cases ha : a = d
    · subst ha
      rw [sp_sep, List.mem_cons] at hx
      rcases hx with rfl | hx
      · cases hc
      · have := sp_mem a t x hx c hc; exact ⟨this.1, by simp [this.2]⟩
    · obtain ⟨y, ys, h⟩ := sp_cases d t
      rw [sp_other d a t ha h, List.mem_cons] at hx
      rcases hx with rfl | hx
      · rcases List.mem_cons.1 hc with rfl | hc
        · exact ⟨ha, by simp⟩
        · have := sp_mem d t y (by rw [h]; simp) c hc; exact ⟨this.1, by simp [this.2]⟩
      · have := sp_mem d t x (by rw [h]; simp [hx]) c hc; exact ⟨this.1, by simp [this.2]⟩
theorem sp_len (d : UInt8) : ∀ l : L, (sp d l).length ≤ l.length + 1
  | [] => by simp [sp_nil]
  | a :: t => by
    have ih := sp_len d t
    by_cases ha : a = d
    · subst ha; rw [sp_sep]; simp; omega
    · obtain ⟨y, ys, h⟩ := sp_cases d t
      rw [sp_other d a t ha h]; rw [h] at ih; simp at ih ⊢; omega
theorem sp_size (d : UInt8) : ∀ l : L, ∀ x ∈ sp d l, x.length ≤ l.length
  | [], x, hx => by rw [sp_nil, List.mem_singleton] at hx; subst hx; simp
  | a :: t, x, hx => by
    by_cases ha : a = d
    · subst ha
      rw [sp_sep, List.mem_cons] at hx
      rcases hx with rfl | hx
      · simp
      · have := sp_size a t x hx; simp; omega
    · obtain ⟨y, ys, h⟩ := sp_cases d t
      rw [sp_other d a t ha h, List.mem_cons] at hx
      rcases hx with rfl | hx
      · have := sp_size d t y (by rw [h]; simp); simp; omega
      · have := sp_size d t x (by rw [h]; simp [hx]); simp; omega
def first (p : UInt8 → Bool) (x : L) : Option L := if x.all p then some x else none
def later (p : UInt8 → Bool) : L → Option L
  | a :: b :: r => if hexd a && hexd b && r.all p then some (norm (16 * Oct.worth a + Oct.worth b) ++ r) else none
  | _ => none
def tails (p : UInt8 → Bool) : List L → Option L
  | [] => some []
  | x :: xs => (later p x).bind fun y => (tails p xs).map (y ++ ·)
def evens (p : UInt8 → Bool) : List L → Option L
  | [] => none
  | x :: xs => (first p x).bind fun y => (tails p xs).map (y ++ ·)
theorem hexd_pct : hexd 37 = false := by decide
theorem coded_evens (p : UInt8 → Bool) (l : L) : coded p l = evens p (sp 37 l) := by
  refine coded_ind (P := fun l => coded p l = evens p (sp 37 l)) ?_ ?_ ?_ ?_ ?_ l.length l (Nat.le_refl _)
  · rw [coded_nil]; rfl
  · intro a b r ih
    rw [coded_esc, sp_sep]
    show _ = (tails p (sp 37 (a :: b :: r))).map ([] ++ ·)
    by_cases ha : a = 37
    · subst ha; rw [sp_sep, hexd_pct]; rfl
    · by_cases hb : b = 37
      · subst hb
        rw [sp_other 37 a _ ha (sp_sep 37 r), hexd_pct, Bool.and_false]; rfl
      · obtain ⟨x, xs, hx⟩ := sp_cases 37 r
        rw [sp_other 37 a _ ha (sp_other 37 b r hb hx)]
        rw [hx] at ih
        rw [ih]
        simp only [tails, later, evens, first]
        by_cases hh : (hexd a && hexd b) = true
        · rw [hh, if_pos rfl, Bool.true_and]
          by_cases hx2 : x.all p = true
          · rw [if_pos hx2, if_pos hx2]; simp [Function.comp_def]
          · rw [if_neg hx2, if_neg hx2]; rfl
        · rw [if_neg hh, if_neg (by simp_all)]; rfl
  · rw [coded_one, sp_sep, sp_nil]; rfl
  · intro a
    rw [coded_two, sp_sep]
    by_cases ha : a = 37
    · subst ha; rw [sp_sep]; rfl
    · rw [sp_other 37 a [] ha (sp_nil 37)]; rfl
  · intro c t hc ih
    obtain ⟨x, xs, hx⟩ := sp_cases 37 t
    rw [coded_plain p c t hc, sp_other 37 c t hc hx, ih, hx]
    simp only [evens, first]
    by_cases hp : p c = true
    · rw [if_pos hp]
      by_cases hx2 : x.all p = true
      · rw [if_pos hx2, if_pos (by rw [List.all_cons, hp, hx2]; rfl)]; simp [Function.comp_def]
      · rw [if_neg hx2, if_neg (by rw [List.all_cons, hp, Bool.true_and]; exact hx2)]; rfl
    · rw [if_neg hp, if_neg (by rw [List.all_cons, Bool.eq_false_iff.2 hp, Bool.false_and]; decide)]; rfl
theorem up_hex (n : Nat) (h : n < 16) : hexd (up n) = true ∧ Oct.worth (up n) = n ∧ up n ≠ 37 ∧ up n ≠ 63 ∧ up n ≠ 47 ∧ up n ≠ 46 := by
  have : ∀ k : Fin 16, hexd (up k.1) = true ∧ Oct.worth (up k.1) = k.1 ∧ up k.1 ≠ 37 ∧ up k.1 ≠ 63 ∧ up k.1 ≠ 47 ∧ up k.1 ≠ 46 := by decide +kernel
  exact this ⟨n, h⟩
theorem hexd_lt {c : UInt8} (h : hexd c = true) : Oct.worth c < 16 := by simpa [hexd] using h
theorem free_facts (c : UInt8) (h : free c = true) : c ≠ 37 ∧ c ≠ 63 ∧ c ≠ 47 ∧ pathc c = true ∧ queryc c = true ∧ hostc c = true := by
  have := Oct.all_octets (fun c => !free c || decide (c ≠ 37 ∧ c ≠ 63 ∧ c ≠ 47 ∧ pathc c = true ∧ queryc c = true ∧ hostc c = true)) (by decide +kernel) c
  simpa [h] using this
structure Set' (p : UInt8 → Bool) : Prop where
  free : ∀ c, Tg.free c = true → p c = true
  pct : p 37 = false
theorem set_path : Set' pathc := ⟨fun c h => (free_facts c h).2.2.2.1, by decide⟩
theorem set_query : Set' queryc := ⟨fun c h => (free_facts c h).2.2.2.2.1, by decide⟩
theorem coded_norm {p : UInt8 → Bool} (hp : Set' p) (n : Nat) (hn : n < 256) (r : L) : coded p (norm n ++ r) = (coded p r).map (norm n ++ ·) := by
  unfold norm
  by_cases hf : free (UInt8.ofNat n) = true
  · rw [if_pos hf]
    show coded p (UInt8.ofNat n :: r) = _
    rw [coded_plain p _ _ (free_facts _ hf).1, if_pos (hp.free _ hf)]; rfl
  · rw [if_neg hf]
    have h1 := up_hex (n / 16) (by omega)
    have h2 := up_hex (n % 16) (by omega)
    show coded p (37 :: up (n / 16) :: up (n % 16) :: r) = _
    rw [coded_esc, h1.1, h2.1, if_pos (by decide), h1.2.1, h2.2.1, show 16 * (n / 16) + n % 16 = n by omega]
    unfold norm; rw [if_neg hf]
theorem coded_coded {p : UInt8 → Bool} (hp : Set' p) (l : L) : ∀ m, coded p l = some m → coded p m = some m := by
  refine coded_ind (P := fun l => ∀ m, coded p l = some m → coded p m = some m) ?_ ?_ ?_ ?_ ?_ l.length l (Nat.le_refl _)
  · intro m h; rw [coded_nil] at h; obtain rfl := Option.some.inj h; exact coded_nil p
  · intro a b r ih m h
    rw [coded_esc] at h
    by_cases hh : (hexd a && hexd b) = true
    · rw [if_pos hh] at h
      obtain ⟨x, hx, rfl⟩ := Option.map_eq_some_iff.1 h
      have hh2 := Bool.and_eq_true_iff.1 hh
      have h1 := hexd_lt hh2.1
      have h2 := hexd_lt hh2.2
      rw [coded_norm hp _ (by omega), ih x hx]; rfl
    · rw [if_neg hh] at h; cases h
  · intro m h; rw [coded_one] at h; cases h
  · intro a m h; rw [coded_two] at h; cases h
  · intro c t hc ih m h
    rw [coded_plain p c t hc] at h
    by_cases hpc : p c = true
    · rw [if_pos hpc] at h
      obtain ⟨x, hx, rfl⟩ := Option.map_eq_some_iff.1 h
      rw [coded_plain p c x hc, if_pos hpc, ih x hx]; rfl
    · rw [if_neg hpc] at h; cases h
theorem norm_len (n : Nat) : 1 ≤ (norm n).length ∧ (norm n).length ≤ 3 := by unfold norm; split <;> simp
theorem coded_len {p : UInt8 → Bool} (l : L) : ∀ m, coded p l = some m → m.length ≤ l.length := by
  refine coded_ind (P := fun l => ∀ m, coded p l = some m → m.length ≤ l.length) ?_ ?_ ?_ ?_ ?_ l.length l (Nat.le_refl _)
  · intro m h; rw [coded_nil] at h; obtain rfl := Option.some.inj h; simp
  · intro a b r ih m h
    rw [coded_esc] at h
    by_cases hh : (hexd a && hexd b) = true
    · rw [if_pos hh] at h
      obtain ⟨x, hx, rfl⟩ := Option.map_eq_some_iff.1 h
      have := ih x hx
      have h3 := norm_len (16 * Oct.worth a + Oct.worth b)
      simp; omega
    · rw [if_neg hh] at h; cases h
  · intro m h; rw [coded_one] at h; cases h
  · intro a m h; rw [coded_two] at h; cases h
  · intro c t hc ih m h
    rw [coded_plain p c t hc] at h
    by_cases hpc : p c = true
    · rw [if_pos hpc] at h
      obtain ⟨x, hx, rfl⟩ := Option.map_eq_some_iff.1 h
      have := ih x hx; simp; omega
    · rw [if_neg hpc] at h; cases h
theorem coded_app {p : UInt8 → Bool} (d : UInt8) (hd : d ≠ 37) (hx : hexd d = false) (hp : p d = true) (b : L) (a : L) : coded p (a ++ d :: b) = (coded p a).bind fun x => (coded p b).map fun y => x ++ d :: y := by
  refine coded_ind (P := fun a => coded p (a ++ d :: b) = (coded p a).bind fun x => (coded p b).map fun y => x ++ d :: y) ?_ ?_ ?_ ?_ ?_ a.length a (Nat.le_refl _)
  · rw [coded_nil, List.nil_append, coded_plain p d b hd, if_pos hp]; rfl
  · intro e f r ih
    show coded p (37 :: e :: f :: (r ++ d :: b)) = _
    rw [coded_esc, coded_esc]
    by_cases hh : (hexd e && hexd f) = true
    · rw [if_pos hh, if_pos hh, ih]
      cases coded p r <;> cases coded p b <;> simp
    · rw [if_neg hh, if_neg hh]; rfl
  · rw [coded_one]
    cases b with
    | nil => exact coded_two p d
    | cons e b => show coded p (37 :: d :: e :: b) = _; rw [coded_esc, hx]; rfl
  · intro e
    rw [coded_two]
    show coded p (37 :: e :: d :: b) = _
    rw [coded_esc, hx, Bool.and_false]; rfl
  · intro c t hc ih
    show coded p (c :: (t ++ d :: b)) = _
    rw [coded_plain p c _ hc, coded_plain p c t hc]
    by_cases hpc : p c = true
    · rw [if_pos hpc, if_pos hpc, ih]
      cases coded p t <;> cases coded p b <;> simp
    · rw [if_neg hpc, if_neg hpc]; rfl
theorem coded_no {p : UInt8 → Bool} (d : UInt8) (hd : d ≠ 37) (hp : p d = false) (hf : free d = false) (hx : hexd d = false) (l : L) : ∀ m, coded p l = some m → ∀ c ∈ m, c ≠ d := by
  refine coded_ind (P := fun l => ∀ m, coded p l = some m → ∀ c ∈ m, c ≠ d) ?_ ?_ ?_ ?_ ?_ l.length l (Nat.le_refl _)
  · intro m h; rw [coded_nil] at h; obtain rfl := Option.some.inj h; intro c hc; cases hc
  · intro a b r ih m h
    rw [coded_esc] at h
    by_cases hh : (hexd a && hexd b) = true
    · rw [if_pos hh] at h
      obtain ⟨x, hx2, rfl⟩ := Option.map_eq_some_iff.1 h
      have hh2 := Bool.and_eq_true_iff.1 hh
      have h1 := hexd_lt hh2.1
      have h2 := hexd_lt hh2.2
      intro c hc
      rcases List.mem_append.1 hc with hc | hc
      · unfold norm at hc
        split at hc
        · rename_i hfr
          rw [List.mem_singleton] at hc; subst hc
          intro e; rw [e, hf] at hfr; cases hfr
        · have u1 := up_hex ((16 * Oct.worth a + Oct.worth b) / 16) (by omega)
          have u2 := up_hex ((16 * Oct.worth a + Oct.worth b) % 16) (by omega)
          simp only [List.mem_cons, List.not_mem_nil, or_false] at hc
          rcases hc with rfl | rfl | rfl
          · exact fun e => hd e.symm
          · intro e; rw [e, hx] at u1; cases u1.1
          · intro e; rw [e, hx] at u2; cases u2.1
      · exact ih x hx2 c hc
    · rw [if_neg hh] at h; cases h
  · intro m h; rw [coded_one] at h; cases h
  · intro a m h; rw [coded_two] at h; cases h
  · intro e t he ih m h
    rw [coded_plain p e t he] at h
    by_cases hpe : p e = true
    · rw [if_pos hpe] at h
      obtain ⟨x, hx2, rfl⟩ := Option.map_eq_some_iff.1 h
      intro c hc
      rcases List.mem_cons.1 hc with rfl | hc
      · intro e2; rw [e2, hp] at hpe; cases hpe
      · exact ih x hx2 c hc
    · rw [if_neg hpe] at h; cases h
end Tg

namespace Tg

def dots : List L → List L → List L
  | kept, [] => kept
  | kept, s :: ss =>
    if s = [46] ∨ s = [46, 46] then dots (if ss = [] then (if s = [46, 46] then kept.dropLast else kept) ++ [[]] else if s = [46, 46] then kept.dropLast else kept) ss
    else dots (kept ++ [s]) ss
def slashed (ks : List L) : L := ks.flatMap fun k => 47 :: k
def straight (path : L) : L := slashed (dots [] (sp 47 (path.drop 1)))
theorem slashed_nil : slashed [] = [] := rfl
theorem slashed_cons (k : L) (ks : List L) : slashed (k :: ks) = 47 :: k ++ slashed ks := rfl
theorem slashed_snoc (ks : List L) (k : L) : slashed (ks ++ [k]) = slashed ks ++ 47 :: k := by simp [slashed]
theorem dots_all {P : L → Prop} (h0 : P []) : ∀ (ss kept : List L), (∀ s ∈ ss, P s) → (∀ s ∈ kept, P s) → ∀ s ∈ dots kept ss, P s
  | [], kept, _, hk => hk
  | x :: ss, kept, hs, hk => by
    have hk2 : ∀ s ∈ (if x = [46, 46] then kept.dropLast else kept), P s := by
      intro s hs2; split at hs2
      · exact hk s (List.dropLast_subset _ hs2)
      · exact hk s hs2
    have hss : ∀ s ∈ ss, P s := fun s h => hs s (by simp [h])
    rw [dots]; split
    · refine dots_all h0 ss _ hss ?_
      split
      · intro s hs2
        rcases List.mem_append.1 hs2 with h | h
        · exact hk2 s h
        · rw [List.mem_singleton] at h; subst h; exact h0
      · exact hk2
    · refine dots_all h0 ss _ hss ?_
      intro s hs2
      rcases List.mem_append.1 hs2 with h | h
      · exact hk s h
      · rw [List.mem_singleton] at h; subst h; exact hs _ (by simp)
def plainSeg (s : L) : Prop := s ≠ [46] ∧ s ≠ [46, 46]
theorem dots_plain : ∀ (ss kept : List L), (∀ s ∈ kept, plainSeg s) → ∀ s ∈ dots kept ss, plainSeg s
  | [], kept, hk => hk
  | x :: ss, kept, hk => by
    have hk2 : ∀ s ∈ (if x = [46, 46] then kept.dropLast else kept), plainSeg s := by
      intro s hs2; split at hs2
      · exact hk s (List.dropLast_subset _ hs2)
      · exact hk s hs2
    rw [dots]; split
    · refine dots_plain ss _ ?_
      split
      · intro s hs2
        rcases List.mem_append.1 hs2 with h | h
        · exact hk2 s h
        · rw [List.mem_singleton] at h; subst h; exact ⟨by decide, by decide⟩
      · exact hk2
    · rename_i hx
      refine dots_plain ss _ ?_
      intro s hs2
      rcases List.mem_append.1 hs2 with h | h
      · exact hk s h
      · rw [List.mem_singleton] at h; subst h; exact ⟨fun e => hx (.inl e), fun e => hx (.inr e)⟩
theorem dots_ne : ∀ (ss kept : List L), ss ≠ [] ∨ kept ≠ [] → dots kept ss ≠ []
  | [], kept, h => by
    rcases h with h | h
    · exact absurd rfl h
    · exact h
  | x :: ss, kept, _ => by
    rw [dots]; split
    · refine dots_ne ss _ ?_
      by_cases hs : ss = []
      · right; rw [if_pos hs]; simp
      · exact .inl hs
    · exact dots_ne ss _ (.inr (by simp))
theorem dots_keep : ∀ (ss kept : List L), (∀ s ∈ ss, plainSeg s) → dots kept ss = kept ++ ss
  | [], kept, _ => by simp [dots]
  | x :: ss, kept, h => by
    have hx := h x (by simp)
    rw [dots, if_neg (fun e => e.elim hx.1 hx.2), dots_keep ss _ (fun s hs => h s (by simp [hs]))]
    simp
theorem sp_slashed : ∀ (ks : List L) (k : L), (∀ s ∈ k :: ks, ∀ c ∈ s, c ≠ 47) → sp 47 (k ++ slashed ks) = k :: ks
  | [], k, h => by rw [slashed_nil, List.append_nil]; exact sp_none 47 k (h k (by simp))
  | x :: ks, k, h => by
    rw [slashed_cons]
    show sp 47 (k ++ 47 :: (x ++ slashed ks)) = _
    rw [sp_app 47 _ k (h k (by simp)), sp_slashed ks x (fun s hs => h s (List.mem_cons_of_mem _ hs))]
theorem straight_ne (path : L) : ∃ t, straight path = 47 :: t := by
  obtain ⟨x, xs, h⟩ := sp_cases 47 (path.drop 1)
  have hne := dots_ne (sp 47 (path.drop 1)) [] (.inl (by rw [h]; simp))
  unfold straight
  cases hd : dots [] (sp 47 (path.drop 1)) with
  | nil => exact absurd hd hne
  | cons k ks => exact ⟨_, rfl⟩
theorem sp_straight (path : L) : sp 47 ((straight path).drop 1) = dots [] (sp 47 (path.drop 1)) := by
  obtain ⟨x, xs, h⟩ := sp_cases 47 (path.drop 1)
  have hne := dots_ne (sp 47 (path.drop 1)) [] (.inl (by rw [h]; simp))
  have h47 : ∀ s ∈ dots [] (sp 47 (path.drop 1)), ∀ c ∈ s, c ≠ 47 := dots_all (P := fun s => ∀ c ∈ s, c ≠ 47) (fun c hc => by cases hc) _ _ (fun s hs c hc => (sp_mem 47 _ s hs c hc).1) (fun s hs => by cases hs)
  unfold straight
  cases hd : dots [] (sp 47 (path.drop 1)) with
  | nil => exact absurd hd hne
  | cons k ks =>
    rw [hd] at h47
    show sp 47 (k ++ slashed ks) = _
    exact sp_slashed ks k h47
theorem straight_plain (path : L) : ∀ s ∈ sp 47 ((straight path).drop 1), plainSeg s := by
  rw [sp_straight]
  exact dots_plain _ _ (fun s hs => by cases hs)
theorem straight_straight (path : L) : straight (straight path) = straight path := by
  rw [straight, dots_keep _ _ (straight_plain path), List.nil_append, sp_straight]; rfl
theorem coded_sp {p : UInt8 → Bool} (hp : p 47 = true) : ∀ (n : Nat) (l : L), l.length ≤ n → coded p l = some l → ∀ s ∈ sp 47 l, coded p s = some s
  | n, l, hn, h => by
    by_cases h47 : ∃ a b, l = a ++ 47 :: b ∧ ∀ c ∈ a, c ≠ 47
    · obtain ⟨a, b, rfl, ha⟩ := h47
      rw [coded_app 47 (by decide) (by decide) hp] at h
      cases hca : coded p a with
      | none => rw [hca] at h; cases h
      | some x =>
        cases hcb : coded p b with
        | none => rw [hca, hcb] at h; cases h
        | some y =>
          rw [hca, hcb] at h
          have e : x ++ 47 :: y = a ++ 47 :: b := Option.some.inj h
          have l1 := coded_len a x hca
          have l2 := coded_len b y hcb
          have l3 := congrArg List.length e
          simp at l3
          have e2 := List.append_inj e (by omega)
          obtain ⟨rfl, e3⟩ := e2
          obtain rfl : y = b := by simpa using e3
          rw [sp_app 47 _ _ ha]
          cases n with
          | zero => simp at hn
          | succ n =>
            intro s hs
            rcases List.mem_cons.1 hs with rfl | hs
            · exact hca
            · exact coded_sp hp n y (by simp at hn; omega) hcb s hs
    · have hno : ∀ c ∈ l, c ≠ 47 := by
        intro c hc e
        subst e
        obtain ⟨a, b, h1, h2⟩ := List.eq_append_cons_of_mem hc
        exact h47 ⟨a, b, h1, fun c hc e => h2 (e ▸ hc)⟩
      rw [sp_none 47 l hno]
      intro s hs
      rw [List.mem_singleton] at hs; subst hs; exact h
theorem coded_slashed {p : UInt8 → Bool} (hp : p 47 = true) : ∀ (ks : List L), (∀ s ∈ ks, coded p s = some s) → ∀ k : L, coded p k = some k → coded p (k ++ slashed ks) = some (k ++ slashed ks)
  | [], _, k, hk => by rw [slashed_nil, List.append_nil]; exact hk
  | x :: ks, h, k, hk => by
    rw [slashed_cons]
    show coded p (k ++ 47 :: (x ++ slashed ks)) = _
    rw [coded_app 47 (by decide) (by decide) hp, hk, coded_slashed hp ks (fun s hs => h s (by simp [hs])) x (h x (by simp))]
    rfl
theorem coded_straight {p : UInt8 → Bool} (hp : p 47 = true) (t : L) (h : coded p (47 :: t) = some (47 :: t)) : coded p (straight (47 :: t)) = some (straight (47 :: t)) := by
  have ht : coded p t = some t := by
    rw [coded_plain p 47 t (by decide), if_pos hp] at h
    obtain ⟨x, hx, e⟩ := Option.map_eq_some_iff.1 h
    obtain rfl : x = t := by simpa using e
    exact hx
  have hs := coded_sp hp t.length t (Nat.le_refl _) ht
  have hd := dots_all (P := fun s => coded p s = some s) (coded_nil p) (sp 47 t) [] hs (fun s hs => by cases hs)
  have := coded_slashed hp _ hd [] (coded_nil p)
  exact this
theorem slashed_app (a b : List L) : slashed (a ++ b) = slashed a ++ slashed b := by simp [slashed]
theorem slashed_drop (ks : List L) : (slashed ks.dropLast).length ≤ (slashed ks).length := by
  rcases ks.eq_nil_or_concat with rfl | ⟨a, b, rfl⟩
  · simp
  · simp [slashed_app]
theorem dots_len : ∀ (ss kept : List L), (slashed (dots kept ss)).length ≤ (slashed kept).length + (slashed ss).length
  | [], kept => by simp [dots]
  | x :: ss, kept => by
    have hk2 : (slashed (if x = [46, 46] then kept.dropLast else kept)).length ≤ (slashed kept).length := by
      split
      · exact slashed_drop kept
      · exact Nat.le_refl _
    rw [dots]; split
    · rename_i hx
      have hxl : 1 ≤ x.length := by rcases hx with rfl | rfl <;> simp
      have ih := dots_len ss (if ss = [] then (if x = [46, 46] then kept.dropLast else kept) ++ [[]] else if x = [46, 46] then kept.dropLast else kept)
      refine Nat.le_trans ih ?_
      rw [slashed_cons]
      split
      · rw [slashed_snoc]; simp; omega
      · simp; omega
    · have ih := dots_len ss (kept ++ [x])
      rw [slashed_snoc] at ih
      rw [slashed_cons]
      simp at ih ⊢; omega
theorem slashed_sp : ∀ t : L, slashed (sp 47 t) = 47 :: t
  | [] => rfl
  | c :: t => by
    by_cases hc : c = 47
    · subst hc; rw [sp_sep, slashed_cons, slashed_sp t]; rfl
    · obtain ⟨x, xs, h⟩ := sp_cases 47 t
      have ih := slashed_sp t
      rw [h, slashed_cons] at ih
      rw [sp_other 47 c t hc h, slashed_cons]
      have e : x ++ slashed xs = t := by simpa using ih
      show 47 :: c :: (x ++ slashed xs) = _
      rw [e]
theorem straight_len (t : L) : (straight (47 :: t)).length ≤ t.length + 1 := by
  have := dots_len (sp 47 t) []
  rw [slashed_sp] at this
  simpa [straight, slashed_nil] using this
def ahead (p : UInt8 → Bool) : L → Nat
  | [] => 0
  | c :: t => if p c then 0 else ahead p t + 1
def qm (c : UInt8) : Bool := c == 63
def sq (c : UInt8) : Bool := c == 47 || c == 63
def colon (c : UInt8) : Bool := c == 58
theorem ahead_le (p : UInt8 → Bool) : ∀ l : L, ahead p l ≤ l.length
  | [] => Nat.le_refl _
  | c :: t => by
    rw [ahead]; split
    · exact Nat.zero_le _
    · have := ahead_le p t; simp; omega
theorem ahead_app (p : UInt8 → Bool) : ∀ a b : L, (∀ c ∈ a, p c = false) → ahead p (a ++ b) = a.length + ahead p b
  | [], b, _ => by simp
  | c :: t, b, h => by
    show ahead p (c :: (t ++ b)) = _
    rw [ahead, if_neg (by rw [h c (by simp)]; decide), ahead_app p t b (fun x hx => h x (by simp [hx]))]
    simp; omega
theorem ahead_hit (p : UInt8 → Bool) (c : UInt8) (t : L) (h : p c = true) : ahead p (c :: t) = 0 := by rw [ahead, if_pos h]
theorem ahead_take (p : UInt8 → Bool) : ∀ l : L, ∀ c ∈ l.take (ahead p l), p c = false
  | [], c, h => by simp at h
  | a :: t, c, h => by
    rw [ahead] at h
    split at h
    · simp at h
    · rename_i ha
      rw [List.take_succ_cons, List.mem_cons] at h
      rcases h with rfl | h
      · simpa using ha
      · exact ahead_take p t c h
theorem ahead_drop (p : UInt8 → Bool) : ∀ l : L, l.drop (ahead p l) = [] ∨ ∃ c t, l.drop (ahead p l) = c :: t ∧ p c = true
  | [] => .inl rfl
  | a :: t => by
    rw [ahead]
    split
    · rename_i ha; exact .inr ⟨a, t, rfl, ha⟩
    · rw [List.drop_succ_cons]; exact ahead_drop p t
theorem ahead_all (p : UInt8 → Bool) (l : L) (h : ∀ c ∈ l, p c = false) : ahead p l = l.length := by
  have := ahead_app p l [] h
  simpa [ahead] using this
def place (l : L) : Option L := (coded pathc (l.take (ahead qm l))).bind fun a => (coded queryc (l.drop (ahead qm l))).map fun q => straight a ++ q
theorem place_len (t : L) : ∀ m, place (47 :: t) = some m → m.length ≤ t.length + 1 ∧ ∃ r, m = 47 :: r := by
  intro m h
  unfold place at h
  have e : ahead qm (47 :: t) = ahead qm t + 1 := by rw [ahead, if_neg (by decide)]
  rw [e, List.take_succ_cons, List.drop_succ_cons] at h
  obtain ⟨a, ha, h⟩ := Option.bind_eq_some_iff.1 h
  obtain ⟨q, hq, rfl⟩ := Option.map_eq_some_iff.1 h
  have l1 := coded_len _ _ ha
  have l2 := coded_len _ _ hq
  rw [coded_plain _ _ _ (by decide), if_pos (by decide)] at ha
  obtain ⟨b, hb, rfl⟩ := Option.map_eq_some_iff.1 ha
  have l3 := straight_len b
  obtain ⟨r, hr⟩ := straight_ne (47 :: b)
  have l4 := ahead_le qm t
  refine ⟨?_, r ++ q, by rw [hr]; rfl⟩
  simp at l1 l2 ⊢
  omega
theorem place_place (t : L) : ∀ m, place (47 :: t) = some m → place m = some m := by
  intro m h
  unfold place at h
  have e : ahead qm (47 :: t) = ahead qm t + 1 := by rw [ahead, if_neg (by decide)]
  rw [e, List.take_succ_cons, List.drop_succ_cons] at h
  obtain ⟨a, ha, h⟩ := Option.bind_eq_some_iff.1 h
  obtain ⟨q, hq, rfl⟩ := Option.map_eq_some_iff.1 h
  have ca := coded_coded set_path _ _ ha
  have cq := coded_coded set_query _ _ hq
  rw [coded_plain _ _ _ (by decide), if_pos (by decide)] at ha
  obtain ⟨b, hb, rfl⟩ := Option.map_eq_some_iff.1 ha
  have cs := coded_straight (p := pathc) (by decide) b ca
  have n63 := coded_no (p := pathc) 63 (by decide) (by decide) (by decide) (by decide) _ _ cs
  have hq0 : ahead qm q = 0 := by
    rcases ahead_drop qm t with h0 | ⟨c, r, h0, hc⟩
    · rw [h0, coded_nil] at hq; obtain rfl := Option.some.inj hq; rfl
    · obtain rfl : c = 63 := by simpa [qm] using hc
      rw [h0, coded_plain _ _ _ (by decide), if_pos (by decide)] at hq
      obtain ⟨y, hy, rfl⟩ := Option.map_eq_some_iff.1 hq
      exact ahead_hit qm 63 y rfl
  have hA : ahead qm (straight (47 :: b) ++ q) = (straight (47 :: b)).length := by
    rw [ahead_app qm _ _ (fun c hc => by simpa [qm] using n63 c hc), hq0, Nat.add_zero]
  unfold place
  rw [hA, List.take_left, List.drop_left, cs, cq]
  show some (straight (straight (47 :: b)) ++ q) = _
  rw [straight_straight]
end Tg

namespace Tg
open Oct (lower low)

def isHost : L → Bool
  | [] => false
  | c :: t => if c = 91 then decide (2 ≤ t.length) && (t.getLast? == some 93) && t.dropLast.all numc else (c :: t).all hostc
def portV (t : L) : Option Int := if t = [] then some 80 else if (Oct.number 10 65535 t).2 = 0 ∧ t.length ≤ 5 then some (Oct.number 10 65535 t).1 else none
def trim58 (p : L) : L := if p.head? = some 58 then p.drop 1 else p
def portOf (p : L) : Option Int := portV (trim58 p)
def close (c : UInt8) : Bool := c == 93
def closeAt (l : L) : Nat := if ahead close l < l.length then ahead close l + 1 else 0
def cutP (l : L) : Nat := closeAt l + ahead colon (l.drop (closeAt l))
def siteAt (l : L) (n : Nat) : Option (L × Int) := if isHost (l.take n) then (portOf (l.drop n)).map fun k => (lower (l.take n), k) else none
def site (l : L) : Option (L × Int) := siteAt l (cutP l)
theorem isHost_cons (c : UInt8) (t : L) : isHost (c :: t) = if c = 91 then decide (2 ≤ t.length) && (t.getLast? == some 93) && t.dropLast.all numc else (c :: t).all hostc := rfl
theorem host_cases {h : L} (hh : isHost h = true) : (h ≠ [] ∧ ∀ c ∈ h, hostc c = true) ∨ ∃ i, h = 91 :: (i ++ [93]) ∧ i ≠ [] ∧ ∀ c ∈ i, numc c = true := by
  match h, hh with
  | c :: t, hh =>
    rw [isHost_cons] at hh
    by_cases hc : c = 91
    · subst hc
      rw [if_pos rfl, Bool.and_eq_true, Bool.and_eq_true] at hh
      obtain ⟨⟨h1, h2⟩, h3⟩ := hh
      right
      have h2 : t.getLast? = some 93 := by simpa using h2
      obtain ⟨i, rfl⟩ : ∃ i, t = i ++ [93] := by
        rcases t.eq_nil_or_concat with rfl | ⟨i, x, rfl⟩
        · cases h2
        · rw [List.concat_eq_append] at h2 ⊢
          rw [List.getLast?_append] at h2
          obtain rfl : x = 93 := by simpa using h2
          exact ⟨i, rfl⟩
      refine ⟨i, rfl, ?_, ?_⟩
      · intro e; subst e; simp at h1
      · rw [List.dropLast_concat] at h3; exact fun c hc => List.all_eq_true.1 h3 c hc
    · rw [if_neg hc] at hh
      exact .inl ⟨by simp, fun c hc => List.all_eq_true.1 hh c hc⟩
theorem host_of {h : L} (hh : (h ≠ [] ∧ ∀ c ∈ h, hostc c = true) ∨ ∃ i, h = 91 :: (i ++ [93]) ∧ i ≠ [] ∧ ∀ c ∈ i, numc c = true) : isHost h = true := by
  rcases hh with ⟨h1, h2⟩ | ⟨i, rfl, h1, h2⟩
  · match h, h1 with
    | c :: t, _ =>
      rw [isHost_cons]
      have hc := h2 c (by simp)
      rw [if_neg (by rintro rfl; revert hc; decide)]
      exact List.all_eq_true.2 h2
  · rw [isHost_cons, if_pos rfl, List.dropLast_concat, List.getLast?_append]
    have : 2 ≤ (i ++ [93]).length := by cases i <;> simp_all
    simp only [decide_eq_true this, Bool.true_and, Bool.and_eq_true]
    exact ⟨by simp, List.all_eq_true.2 h2⟩
theorem host_facts (c : UInt8) (h : hostc c = true) : c ≠ 93 ∧ c ≠ 58 ∧ c ≠ 47 ∧ c ≠ 63 ∧ hostc (low c) = true := by
  have := Oct.all_octets (fun c => !hostc c || decide (c ≠ 93 ∧ c ≠ 58 ∧ c ≠ 47 ∧ c ≠ 63 ∧ hostc (low c) = true)) (by decide +kernel) c
  simpa [h] using this
theorem num_facts (c : UInt8) (h : numc c = true) : c ≠ 93 ∧ c ≠ 47 ∧ c ≠ 63 ∧ numc (low c) = true := by
  have := Oct.all_octets (fun c => !numc c || decide (c ≠ 93 ∧ c ≠ 47 ∧ c ≠ 63 ∧ numc (low c) = true)) (by decide +kernel) c
  simpa [h] using this
theorem dig_facts (c : UInt8) (h : Oct.dig 10 c = true) : c ≠ 93 ∧ c ≠ 58 ∧ c ≠ 47 ∧ c ≠ 63 := by
  have := Oct.all_octets (fun c => !Oct.dig 10 c || decide (c ≠ 93 ∧ c ≠ 58 ∧ c ≠ 47 ∧ c ≠ 63)) (by decide +kernel) c
  simpa [h] using this
theorem host_lower {h : L} (hh : isHost h = true) : isHost (lower h) = true := by
  refine host_of ?_
  rcases host_cases hh with ⟨h1, h2⟩ | ⟨i, rfl, h1, h2⟩
  · refine .inl ⟨by simpa [lower] using h1, fun c hc => ?_⟩
    obtain ⟨d, hd, rfl⟩ := List.mem_map.1 hc
    exact (host_facts d (h2 d hd)).2.2.2.2
  · refine .inr ⟨lower i, ?_, by simpa [lower] using h1, fun c hc => ?_⟩
    · simp [lower]; exact ⟨by decide, by decide⟩
    · obtain ⟨d, hd, rfl⟩ := List.mem_map.1 hc
      exact (num_facts d (h2 d hd)).2.2.2
theorem number_digits {t : L} (h : (Oct.number 10 65535 t).2 = 0) : t ≠ [] ∧ ∀ c ∈ t, Oct.dig 10 c = true := by
  unfold Oct.number at h
  split at h
  · cases h
  · rename_i h1
    refine ⟨fun e => h1 (.inl e), ?_⟩
    have : Oct.allOf (Oct.dig 10) t = true := by
      cases hb : Oct.allOf (Oct.dig 10) t
      · exact absurd (.inr hb) h1
      · rfl
    exact fun c hc => List.all_eq_true.1 this c hc
theorem port_cases {p : L} {k : Int} (hp : p = [] ∨ ∃ t, p = 58 :: t) (h : portOf p = some k) : p = [] ∨ ∃ t, p = 58 :: t ∧ ∀ c ∈ t, Oct.dig 10 c = true := by
  rcases hp with rfl | ⟨t, rfl⟩
  · exact .inl rfl
  · refine .inr ⟨t, rfl, ?_⟩
    have h' : portV t = some k := h
    unfold portV at h'
    split at h'
    · rename_i e; subst e; intro c hc; cases hc
    · split at h'
      · rename_i h2; exact (number_digits h2.1).2
      · cases h'
theorem cutP_at {h p : L} {k : Int} (hh : isHost h = true) (hp : p = [] ∨ ∃ t, p = 58 :: t) (hk : portOf p = some k) : cutP (h ++ p) = h.length := by
  have hp2 := port_cases hp hk
  have hn : ∀ c ∈ p, c ≠ 93 := by
    intro c hc
    rcases hp2 with rfl | ⟨t, rfl, ht⟩
    · cases hc
    · rcases List.mem_cons.1 hc with rfl | hc
      · decide
      · exact (dig_facts c (ht c hc)).1
  have ha : ahead colon p = 0 := by
    rcases hp with rfl | ⟨t, rfl⟩
    · rfl
    · exact ahead_hit colon 58 t rfl
  unfold cutP
  rcases host_cases hh with ⟨_, h2⟩ | ⟨i, rfl, _, h2⟩
  · have hc : closeAt (h ++ p) = 0 := by
      unfold closeAt
      rw [ahead_all close (h ++ p), if_neg (Nat.lt_irrefl _)]
      intro c hc
      rcases List.mem_append.1 hc with hc | hc
      · simpa [close] using (host_facts c (h2 c hc)).1
      · simpa [close] using hn c hc
    rw [hc, List.drop_zero, ahead_app colon h p (fun c hc => by simpa [colon] using (host_facts c (h2 c hc)).2.1), ha]
    simp
  · have e : (91 :: (i ++ [93])) ++ p = (91 :: i) ++ (93 :: p) := by simp
    have hc : closeAt ((91 :: (i ++ [93])) ++ p) = i.length + 2 := by
      unfold closeAt
      rw [e, ahead_app close (91 :: i) _ ?_, ahead_hit close 93 p rfl, if_pos (by simp)]
      · simp
      · intro c hc
        rcases List.mem_cons.1 hc with rfl | hc
        · decide
        · simpa [close] using (num_facts c (h2 c hc)).1
    have hd : ((91 :: (i ++ [93])) ++ p).drop (i.length + 2) = p := by
      rw [show i.length + 2 = (91 :: (i ++ [93])).length by simp, List.drop_left]
    rw [hc, hd, ha]; simp
theorem cutP_drop (l : L) : l.drop (cutP l) = [] ∨ ∃ t, l.drop (cutP l) = 58 :: t := by
  unfold cutP
  rw [← List.drop_drop]
  rcases ahead_drop colon (l.drop (closeAt l)) with h | ⟨c, t, h, hc⟩
  · exact .inl h
  · obtain rfl : c = 58 := by simpa [colon] using hc
    exact .inr ⟨t, h⟩
theorem cutP_le (l : L) : cutP l ≤ l.length := by
  unfold cutP
  have h := ahead_le colon (l.drop (closeAt l))
  have h2 := ahead_le close l
  rw [List.length_drop] at h
  have : closeAt l ≤ l.length := by unfold closeAt; split <;> omega
  omega
theorem closeAt_le (l : L) : closeAt l ≤ l.length := by
  unfold closeAt; split <;> omega
def RCut (l : L) (n : Nat) : Prop :=
  (∃ t, n ≤ l.length ∧ l.drop n = 58 :: t ∧ ∀ c ∈ t, c ≠ 58 ∧ c ≠ 93) ∨ (n = l.length ∧ ((∀ c ∈ l, c ≠ 58 ∧ c ≠ 93) ∨ ∃ a t, l = a ++ 93 :: t ∧ ∀ c ∈ t, c ≠ 58 ∧ c ≠ 93))
theorem RCut.drop {l : L} {n : Nat} (h : RCut l n) : n ≤ l.length ∧ (l.drop n = [] ∨ ∃ t, l.drop n = 58 :: t) := by
  rcases h with ⟨t, h1, h2, _⟩ | ⟨rfl, _⟩
  · exact ⟨h1, .inr ⟨t, h2⟩⟩
  · exact ⟨Nat.le_refl _, .inl (by simp)⟩
theorem last_mem {a b c d : L} {x : UInt8} (h : a ++ b = c ++ x :: d) (hl : a.length ≤ c.length) : x ∈ b := by
  have e : b = (c ++ x :: d).drop a.length := by rw [← h, List.drop_left]
  rw [e, List.drop_append_of_le_length hl]
  simp
theorem cutR_at {h p : L} {k : Int} {n : Nat} (hh : isHost h = true) (hp : p = [] ∨ ∃ t, p = 58 :: t) (hk : portOf p = some k) (hr : RCut (h ++ p) n) : n = h.length := by
  have hp2 := port_cases hp hk
  rcases hp2 with rfl | ⟨t, rfl, ht⟩
  · rw [List.append_nil] at hr
    rcases hr with ⟨t, h1, h2, h3⟩ | ⟨h1, _⟩
    · exfalso
      rcases host_cases hh with ⟨_, h4⟩ | ⟨i, rfl, _, h4⟩
      · have : (58 : UInt8) ∈ h := List.mem_of_mem_drop (i := n) (by rw [h2]; exact List.mem_cons_self)
        exact (host_facts 58 (h4 58 this)).2.1 rfl
      · have hl : ((91 : UInt8) :: (i ++ [93])).getLast? = some 93 := by rw [← List.cons_append]; exact List.getLast?_concat
        have h5 : ((91 :: (i ++ [93])).drop n).getLast? = some 93 := by
          rw [List.getLast?_drop, if_neg (by have := congrArg List.length h2; simp at this; simp; omega)]; exact hl
        rw [h2] at h5
        have h6 : (93 : UInt8) ∈ 58 :: t := List.mem_of_getLast? h5
        rcases List.mem_cons.1 h6 with h6 | h6
        · cases h6
        · exact (h3 93 h6).2 rfl
    · exact h1
  · have hd : ∀ c ∈ t, c ≠ 58 ∧ c ≠ 93 := fun c hc => ⟨(dig_facts c (ht c hc)).2.1, (dig_facts c (ht c hc)).1⟩
    rcases hr with ⟨t2, h1, h2, h3⟩ | ⟨h1, h2⟩
    · have e : h ++ 58 :: t = (h ++ 58 :: t).take n ++ 58 :: t2 := by rw [← h2, List.take_append_drop]
      have hl : ((h ++ 58 :: t).take n).length = n := by rw [List.length_take]; omega
      rcases Nat.lt_trichotomy n h.length with hn | hn | hn
      · exfalso
        have e2 : (h ++ 58 :: t).take n ++ [58] ++ t2 = h ++ 58 :: t := by rw [List.append_assoc]; exact e.symm
        exact (h3 58 (last_mem e2 (by simp; omega))).1 rfl
      · exact hn
      · exfalso
        have e2 : h ++ [58] ++ t = (h ++ 58 :: t).take n ++ 58 :: t2 := by rw [List.append_assoc]; exact e
        exact (hd 58 (last_mem e2 (by simp; omega))).1 rfl
    · exfalso
      rcases h2 with h2 | ⟨a, t2, h2, h3⟩
      · exact (h2 58 (by simp)).1 rfl
      · by_cases hn : h.length < a.length
        · have e2 : h ++ [58] ++ t = a ++ 93 :: t2 := by rw [List.append_assoc]; exact h2
          exact (hd 93 (last_mem e2 (by simp; omega))).2 rfl
        · by_cases hn2 : a.length = h.length
          · have := List.append_inj h2 hn2.symm
            have h4 := this.2
            simp at h4
          · have e2 : a ++ [93] ++ t2 = h ++ 58 :: t := by rw [List.append_assoc]; exact h2.symm
            exact (h3 58 (last_mem e2 (by simp; omega))).1 rfl
theorem siteAt_some {l : L} {n : Nat} {x : L × Int} (h : siteAt l n = some x) : isHost (l.take n) = true ∧ portOf (l.drop n) = some x.2 ∧ x.1 = lower (l.take n) := by
  unfold siteAt at h
  split at h
  · rename_i hh
    obtain ⟨k, hk, rfl⟩ := Option.map_eq_some_iff.1 h
    exact ⟨hh, hk, rfl⟩
  · cases h
theorem site_ref {l : L} {n : Nat} (hr : RCut l n) : siteAt l n = site l := by
  have hd := hr.drop
  cases h1 : siteAt l n with
  | some x =>
    have h2 := siteAt_some h1
    have h3 := cutP_at h2.1 hd.2 h2.2.1
    rw [List.take_append_drop, List.length_take, Nat.min_eq_left hd.1] at h3
    rw [site, h3, h1]
  | none =>
    cases h4 : site l with
    | none => rfl
    | some x =>
      have h2 := siteAt_some h4
      have hr2 : RCut (l.take (cutP l) ++ l.drop (cutP l)) n := by rw [List.take_append_drop]; exact hr
      have h3 := cutR_at h2.1 (cutP_drop l) h2.2.1 hr2
      rw [List.length_take, Nat.min_eq_left (cutP_le l)] at h3
      rw [h3] at h1
      rw [site, h1] at h4
      cases h4
theorem low_idem (l : L) : lower (lower l) = lower l := Oct.lower_lower l
structure Site (h : L) (k : Int) : Prop where
  host : isHost h = true
  low : lower h = h
  lo : 0 ≤ k
  hi : k ≤ 65535
theorem number_range {t : L} (h : (Oct.number 10 65535 t).2 = 0) : 0 ≤ (Oct.number 10 65535 t).1 ∧ (Oct.number 10 65535 t).1 ≤ 65535 := by
  have gen : ∀ (t : L) (n m : Int), 0 ≤ n → n ≤ 65535 → Oct.num 10 65535 n t = some m → 0 ≤ m ∧ m ≤ 65535 := by
    intro t
    induction t with
    | nil => intro n m h0 h1 h; rw [Oct.num_nil] at h; obtain rfl := Option.some.inj h; exact ⟨h0, h1⟩
    | cons c r ih =>
      intro n m h0 h1 h
      by_cases hm : (65535 : Int) < n * (10 : Nat) + Oct.worth c
      · rw [Oct.num_more _ _ _ _ _ hm] at h; cases h
      · rw [Oct.num_on _ _ _ _ _ hm] at h
        exact ih _ _ (by omega) (by omega) h
  unfold Oct.number at h ⊢
  split
  · rename_i h1; rw [if_pos h1] at h; cases h
  · rename_i h1
    rw [if_neg h1] at h
    rw [if_neg (by decide)] at h ⊢
    cases hn : Oct.num 10 65535 0 t with
    | none => rw [hn] at h; cases h
    | some m => exact gen t 0 m (by decide) (by decide) hn
theorem site_facts {l : L} {h : L} {k : Int} (hs : site l = some (h, k)) : Site h k ∧ h.length ≤ l.length := by
  have h2 := siteAt_some hs
  have e : h = lower (l.take (cutP l)) := h2.2.2
  refine ⟨⟨by rw [e]; exact host_lower h2.1, by rw [e]; exact low_idem _, ?_, ?_⟩, by rw [e, Oct.lower_length, List.length_take]; omega⟩
  · have h3 := h2.2.1
    unfold portOf portV at h3
    split at h3
    · obtain rfl : (80 : Int) = k := Option.some.inj h3; decide
    · split at h3
      · rename_i hn; have h4 := Option.some.inj h3; have h5 := (number_range hn.1).1; simp only [] at h4; omega
      · cases h3
  · have h3 := h2.2.1
    unfold portOf portV at h3
    split at h3
    · obtain rfl : (80 : Int) = k := Option.some.inj h3; decide
    · split at h3
      · rename_i hn; have h4 := Option.some.inj h3; have h5 := (number_range hn.1).2; simp only [] at h4; omega
      · cases h3
def portT (k : Int) : L := if k = 80 then [] else 58 :: Oct.print k 10
end Tg

namespace Tg
open Oct (lower low)

structure U where
  host : L
  port : Int
  path : L
deriving DecidableEq
def zero : U := ⟨[], 0, []⟩
theorem dgs5 (u : Nat) (h : u ≤ 65535) : (Oct.dgs 10 u).length ≤ 5 := by
  have gen : ∀ n u, u < 10 ^ (n + 1) → (Oct.dgs 10 u).length ≤ n + 1 := by
    intro n
    induction n with
    | zero => intro u hu; rw [Oct.dgs_last (by simpa using hu)]; simp
    | succ n ih =>
      intro u hu
      by_cases hb : u < 10
      · rw [Oct.dgs_last hb]; simp
      · rw [Oct.dgs_more (by decide) (by omega)]
        have := ih (u / 10) (by rw [Nat.pow_succ] at hu; omega)
        simp; omega
  exact gen 4 u (by omega)
theorem portT_of {k : Int} (h0 : 0 ≤ k) (h1 : k ≤ 65535) : portOf (portT k) = some k ∧ (portT k = [] ∨ ∃ t, portT k = 58 :: t) ∧ (portT k).length ≤ 6 := by
  unfold portT
  split
  · rename_i e; subst e; exact ⟨rfl, .inl rfl, by simp⟩
  · have hn : Oct.print k 10 = Oct.dgs 10 k.toNat := rfl
    have h5 := dgs5 k.toNat (by omega)
    have hd := Oct.number_dgs 10 (by decide) (by decide) 65535 k.toNat (by omega)
    rw [hn]
    refine ⟨?_, .inr ⟨_, rfl⟩, by simp; omega⟩
    show portV (Oct.dgs 10 k.toNat) = _
    unfold portV
    rw [if_neg (Oct.dgs_ne 10 _), hd, if_pos ⟨rfl, h5⟩]
    simp; omega
def httpT : L := [104, 116, 116, 112, 58, 47, 47]
def http (l : L) : Bool := decide (7 ≤ l.length) && lower (l.take 7) == httpT
def slash (l : L) : L := if l.head? = some 47 then l else 47 :: l
def atU (h : L) (k : Int) (l : L) : U × Int := match place l with
  | none => (zero, 10)
  | some m => (⟨h, k, m⟩, 0)
def parse (l : L) : U × Int :=
  if 8000 < l.length then (zero, 12) else if http l = false then (zero, 10) else match site ((l.drop 7).take (ahead sq (l.drop 7))) with
  | none => (zero, 10)
  | some x => atU x.1 x.2 (slash ((l.drop 7).drop (ahead sq (l.drop 7))))
def print (u : U) : L := httpT ++ u.host ++ portT u.port ++ u.path
def right (u : U) : Bool := decide (parse (print u) = (u, 0))
def upto : L → L
  | [] => []
  | c :: t => if c = 47 ∨ (47 : UInt8) ∈ t then c :: upto t else []
def resolve (u : U) (r : L) : U × Int :=
  if right u = false then (zero, 2) else if 8000 < r.length then (zero, 12) else if r = [] then (u, 0)
  else if http r = true then parse r
  else if r.take 2 = [47, 47] then parse (httpT.take 5 ++ r)
  else if r.head? = some 47 then atU u.host u.port r
  else if r.head? = some 63 then atU u.host u.port (u.path.take (ahead qm u.path) ++ r)
  else if (r.take (ahead sq r)).contains 58 then (zero, 10)
  else atU u.host u.port (upto (u.path.take (ahead qm u.path)) ++ r)
theorem slash_head (l : L) : ∃ t, slash l = 47 :: t ∧ t.length ≤ l.length := by
  unfold slash
  split
  · rename_i h
    cases l with
    | nil => cases h
    | cons c t =>
      obtain rfl : c = 47 := by simpa using h
      exact ⟨t, rfl, by simp⟩
  · exact ⟨l, rfl, Nat.le_refl _⟩
theorem atU_ok {h : L} {k : Int} {l : L} (he : (atU h k l).2 = 0) : ∃ m, place l = some m ∧ (atU h k l).1 = ⟨h, k, m⟩ := by
  unfold atU at he ⊢
  cases hp : place l with
  | none => rw [hp] at he; cases he
  | some m => exact ⟨m, rfl, rfl⟩
structure Ok (u : U) : Prop where
  site : Site u.host u.port
  place : place u.path = some u.path
  head : ∃ t, u.path = 47 :: t
theorem Ok.at {u : U} (h : Ok u) : atU u.host u.port u.path = (u, 0) := by unfold atU; rw [h.place]
theorem parse_ok {l : L} (he : (parse l).2 = 0) : Ok (parse l).1 ∧ (print (parse l).1).length ≤ l.length + 15 ∧ (parse l).1.path.length ≤ l.length + 1 := by
  unfold parse at he ⊢
  split at he
  · cases he
  · rename_i h1
    rw [if_neg h1]
    split at he
    · cases he
    · rename_i h2
      rw [if_neg h2]
      have hh : http l = true := by simpa using h2
      have h7 : 7 ≤ l.length := by unfold http at hh; simp at hh; exact hh.1
      cases hs : site ((l.drop 7).take (ahead sq (l.drop 7))) with
      | none => rw [hs] at he; cases he
      | some x =>
        rw [hs] at he
        simp only [] at he ⊢
        obtain ⟨m, hm, hu⟩ := atU_ok he
        rw [hu]
        have hf := site_facts hs
        obtain ⟨t, ht, htl⟩ := slash_head ((l.drop 7).drop (ahead sq (l.drop 7)))
        rw [ht] at hm
        have hl := place_len t m hm
        have hp := portT_of hf.1.lo hf.1.hi
        have e1 := hf.2
        rw [List.length_take, List.length_drop] at e1
        rw [List.length_drop, List.length_drop] at htl
        have e3 := ahead_le sq (l.drop 7)
        rw [List.length_drop] at e3
        refine ⟨⟨hf.1, place_place t m hm, hl.2⟩, ?_, ?_⟩
        · unfold print
          simp [httpT]
          have := hp.2.2
          omega
        · show m.length ≤ _; omega
theorem ok_of {u : U} (h : right u = true) : Ok u := by
  have h1 : parse (print u) = (u, 0) := by simpa [right] using h
  have h2 := parse_ok (l := print u) (by rw [h1])
  rw [h1] at h2
  exact h2.1
end Tg

namespace Vr
abbrev T := List UInt8
theorem t_irrefl (a : T) : ¬ a < a := List.lt_irrefl a
theorem t_trans {a b c : T} (h : a < b) (h' : b < c) : a < c := List.lt_trans h h'
theorem t_tri {a b : T} (h1 : ¬ a < b) (h2 : ¬ b < a) : a = b := List.le_antisymm h2 h1
theorem t_lt_of_le_ne {a b : T} (h : a ≤ b) (hn : a ≠ b) : a < b := by
  by_cases h' : a < b
  · exact h'
  · exact absurd (t_tri h' h) hn
theorem t_le_lt {a b c : T} (h : a ≤ b) (h' : b < c) : a < c := by
  by_cases e : a = b
  · rw [e]; exact h'
  · exact t_trans (t_lt_of_le_ne h e) h'
theorem t_le_trans {a b c : T} (h : a ≤ b) (h' : b ≤ c) : a ≤ c := fun hc => h' (t_lt_of_le_ne (fun h2 => by exact absurd (t_le_lt h h2) (fun h3 => t_irrefl _ (t_trans h3 hc))) (fun e => by subst e; exact h hc))
def Up (l : List T) : Prop := l.Pairwise (· < ·)
theorem up_ext {a b : List T} (ha : Up a) (hb : Up b) (h : ∀ x, x ∈ a ↔ x ∈ b) : a = b := by
  induction a generalizing b with
  | nil =>
    cases b with
    | nil => rfl
    | cons y b => exact absurd ((h y).2 (by simp)) (by simp)
  | cons x a ih =>
    cases b with
    | nil => exact absurd ((h x).1 (by simp)) (by simp)
    | cons y b =>
      obtain ⟨a1, a2⟩ := List.pairwise_cons.1 ha
      obtain ⟨b1, b2⟩ := List.pairwise_cons.1 hb
      have e : x = y := by
        rcases List.mem_cons.1 ((h x).1 (by simp)) with e | hx
        · exact e
        · rcases List.mem_cons.1 ((h y).2 (by simp)) with e | hy
          · exact e.symm
          · exact absurd (t_trans (b1 x hx) (a1 y hy)) (t_irrefl _)
      subst e
      congr 1
      refine ih a2 b2 (fun z => ⟨fun hz => ?_, fun hz => ?_⟩)
      · rcases List.mem_cons.1 ((h z).1 (by simp [hz])) with e | hz'
        · subst e; exact absurd (a1 z hz) (t_irrefl _)
        · exact hz'
      · rcases List.mem_cons.1 ((h z).2 (by simp [hz])) with e | hz'
        · subst e; exact absurd (b1 z hz) (t_irrefl _)
        · exact hz'
def place (out : List T) (s : T) : Nat := (out.takeWhile (fun x => decide (x < s))).length
def ins (out : List T) (s : T) : List T := if out[place out s]? = some s then out else out.take (place out s) ++ s :: out.drop (place out s)
theorem take_place (out : List T) (s : T) : out.take (place out s) = out.takeWhile (fun x => decide (x < s)) := by
  unfold place
  exact (List.prefix_iff_eq_take.1 (List.takeWhile_prefix _)).symm
theorem drop_place (out : List T) (s : T) : out.drop (place out s) = out.dropWhile (fun x => decide (x < s)) := by
  have h : out.takeWhile (fun x => decide (x < s)) ++ out.dropWhile (fun x => decide (x < s)) = out := List.takeWhile_append_dropWhile
  have h2 := List.take_append_drop (place out s) out
  rw [take_place] at h2
  exact List.append_cancel_left (h2.trans h.symm)
theorem before_place {out : List T} {s : T} {x : T} (h : x ∈ out.take (place out s)) : x < s := by
  rw [take_place] at h
  have := List.all_eq_true.1 (List.all_takeWhile (p := fun x => decide (x < s)) (l := out)) x h
  simpa using this
theorem at_place {out : List T} {s x : T} (h : out[place out s]? = some x) : ¬ x < s := by
  have e : (out.drop (place out s)).head? = some x := by rw [List.head?_drop]; exact h
  rw [drop_place] at e
  have := List.head?_dropWhile_not (fun x => decide (x < s)) out
  rw [e] at this
  simpa using this
theorem mem_ins (out : List T) (s x : T) : x ∈ ins out s ↔ x = s ∨ x ∈ out := by
  unfold ins
  split
  · rename_i h
    constructor
    · exact Or.inr
    · rintro (rfl | h')
      · exact List.mem_of_getElem? h
      · exact h'
  · conv => rhs; rw [← List.take_append_drop (place out s) out]
    simp only [List.mem_append, List.mem_cons]
    constructor
    · rintro (h | h | h)
      · exact .inr (.inl h)
      · exact .inl h
      · exact .inr (.inr h)
    · rintro (h | h | h)
      · exact .inr (.inl h)
      · exact .inl h
      · exact .inr (.inr h)
theorem up_ins {out : List T} (h : Up out) (s : T) : Up (ins out s) := by
  unfold ins
  split
  · exact h
  · rename_i hne
    have hcut := List.take_append_drop (place out s) out
    have h' : Up (out.take (place out s) ++ out.drop (place out s)) := by rw [hcut]; exact h
    unfold Up at h' ⊢
    rw [List.pairwise_append] at h' ⊢
    obtain ⟨h1, h2, h3⟩ := h'
    have hs : ∀ x ∈ out.drop (place out s), s < x := by
      cases hd : out.drop (place out s) with
      | nil => simp
      | cons y r =>
        have hy : out[place out s]? = some y := by rw [← List.head?_drop, hd]; rfl
        have hn := at_place hy
        have hys : s < y := by
          by_cases h5 : s < y
          · exact h5
          · exact absurd (by rw [hy, t_tri hn h5]) hne
        rw [hd] at h2
        intro x hx
        rcases List.mem_cons.1 hx with rfl | hx
        · exact hys
        · exact t_trans hys ((List.pairwise_cons.1 h2).1 x hx)
    refine ⟨h1, List.pairwise_cons.2 ⟨hs, h2⟩, ?_⟩
    intro a ha b hb
    rcases List.mem_cons.1 hb with rfl | hb
    · exact before_place ha
    · exact h3 a ha b hb
def insAll (l : List T) : List T := l.foldl ins []
theorem fold_ins : ∀ (l out : List T), Up out → Up (l.foldl ins out) ∧ ∀ x, x ∈ l.foldl ins out ↔ x ∈ l ∨ x ∈ out
  | [], out, h => ⟨h, by simp⟩
  | s :: l, out, h => by
    obtain ⟨h1, h2⟩ := fold_ins l (ins out s) (up_ins h s)
    refine ⟨h1, fun x => ?_⟩
    rw [List.foldl_cons, h2, mem_ins, List.mem_cons]
    constructor
    · rintro (h | h | h)
      · exact .inl (.inr h)
      · exact .inl (.inl h)
      · exact .inr h
    · rintro ((h | h) | h)
      · exact .inr (.inl h)
      · exact .inl h
      · exact .inr (.inr h)
theorem up_insAll (l : List T) : Up (insAll l) := (fold_ins l [] List.Pairwise.nil).1
theorem mem_insAll (l : List T) (x : T) : x ∈ insAll l ↔ x ∈ l := by
  have := (fold_ins l [] List.Pairwise.nil).2 x
  unfold insAll; rw [this]; simp
open Go.Lib in
theorem compact_up (d : Array T) (hs : ∀ i j, i ≤ j → j < d.size → d[i]! ≤ d[j]!) : ∀ m, m ≤ d.size → Up (compactUpTo d m) ∧ ∀ x, x ∈ compactUpTo d m ↔ ∃ j, j < m ∧ d[j]! = x := by
  intro m
  induction m with
  | zero => intro _; exact ⟨List.Pairwise.nil, fun x => by simp [compactUpTo]⟩
  | succ m ih =>
    intro hm
    obtain ⟨h1, h2⟩ := ih (by omega)
    rw [compactUpTo_succ]
    by_cases hk : keeps d m = true
    · rw [if_pos hk]
      constructor
      · unfold Up at h1 ⊢
        rw [List.pairwise_append]
        refine ⟨h1, by simp, ?_⟩
        intro a ha b hb
        obtain rfl : b = d[m]! := by simpa using hb
        obtain ⟨j, hj, rfl⟩ := (h2 a).1 ha
        have h3 : m ≠ 0 := by omega
        have h4 : d[m]! ≠ d[m - 1]! := by
          unfold keeps at hk
          rcases of_decide_eq_true hk with h | h
          · exact absurd h h3
          · exact h
        exact t_le_lt (hs j (m - 1) (by omega) (by omega)) (t_lt_of_le_ne (hs (m - 1) m (by omega) (by omega)) (Ne.symm h4))
      · intro x
        rw [List.mem_append, h2]
        constructor
        · rintro (⟨j, hj, rfl⟩ | h)
          · exact ⟨j, by omega, rfl⟩
          · exact ⟨m, by omega, (List.mem_singleton.1 h).symm⟩
        · rintro ⟨j, hj, rfl⟩
          by_cases e : j = m
          · subst e; exact .inr (by simp)
          · exact .inl ⟨j, by omega, rfl⟩
    · rw [if_neg hk, List.append_nil]
      refine ⟨h1, fun x => ?_⟩
      rw [h2]
      unfold keeps at hk
      rw [decide_eq_true_eq] at hk
      have h3 : m ≠ 0 := fun e => hk (.inl e)
      have h4 : d[m]! = d[m - 1]! := Classical.byContradiction fun h => hk (.inr h)
      constructor
      · rintro ⟨j, hj, rfl⟩; exact ⟨j, by omega, rfl⟩
      · rintro ⟨j, hj, rfl⟩
        by_cases e : j = m
        · subst e; exact ⟨j - 1, by omega, h4.symm⟩
        · exact ⟨j, by omega, rfl⟩
theorem le_total' (a b : T) : (decide (a ≤ b) || decide (b ≤ a)) = true := by
  rw [Bool.or_eq_true, decide_eq_true_eq, decide_eq_true_eq]
  by_cases h : b < a
  · exact .inr (fun h' => t_irrefl _ (t_trans h h'))
  · exact .inl h
theorem compact_sort (l : List T) : Go.Lib.compact (l.mergeSort fun x y => decide (x ≤ y)) = insAll l := by
  have hp : (l.mergeSort fun x y => decide (x ≤ y)).Pairwise (fun x y => decide (x ≤ y) = true) :=
    List.pairwise_mergeSort (le := fun (x y : T) => decide (x ≤ y)) (fun a b c h1 h2 => decide_eq_true (t_le_trans (of_decide_eq_true h1) (of_decide_eq_true h2))) le_total' l
  have hm : ∀ x, x ∈ (l.mergeSort fun x y => decide (x ≤ y)) ↔ x ∈ l := fun x => (List.mergeSort_perm l _).mem_iff
  generalize (l.mergeSort fun x y => decide (x ≤ y)) = z at hp hm
  have hs : ∀ i j, i ≤ j → j < z.toArray.size → z.toArray[i]! ≤ z.toArray[j]! := by
    intro i j hij hj
    have hj' : j < z.length := by simpa using hj
    have hi' : i < z.length := by omega
    have e1 : z.toArray[i]! = z[i] := by rw [getElem!_pos z.toArray i (by simpa using hi')]; simp
    have e2 : z.toArray[j]! = z[j] := by rw [getElem!_pos z.toArray j hj]; simp
    rw [e1, e2]
    by_cases e : i = j
    · subst e; exact t_irrefl _
    · exact of_decide_eq_true (List.pairwise_iff_getElem.1 hp i j hi' hj' (by omega))
  obtain ⟨h1, h2⟩ := compact_up z.toArray hs z.length (by simp)
  refine up_ext h1 (up_insAll l) (fun x => ?_)
  rw [mem_insAll, ← hm]
  refine (h2 x).trans ⟨?_, ?_⟩
  · rintro ⟨j, hj, rfl⟩
    rw [getElem!_pos z.toArray j (by simpa using hj)]; simp
  · intro hx
    obtain ⟨j, hj, rfl⟩ := List.mem_iff_getElem.1 hx
    exact ⟨j, hj, by rw [getElem!_pos z.toArray j (by simpa using hj)]; simp⟩
end Vr

namespace Vr
open Oct (token lower low splitAll splitText emit trim scan scan1 nq blank dropL dropR tch)

def good (p : T) : Bool := !(p == [42]) && token p
def names (vs : List T) : List T × Bool := if (splitAll vs).all good then (insAll ((splitAll vs).map lower), true) else ([], false)
def joined (n : T) (fs : List Fld.F) : T := Go.Lib.join (splitAll (Fld.get fs n)) [44]
def has (n : T) (fs : List Fld.F) : Bool := !(Fld.get fs n).isEmpty
def part (n : T) (fs : List Fld.F) : T := if has n fs then 58 :: joined n fs else []
def row (n : T) (fs : List Fld.F) : T := lower n ++ part n fs ++ [10]
def key (ns : List T) (fs : List Fld.F) : T := ns.flatMap fun n => row n fs
theorem good_star {p : T} (h : p = [42]) : good p = false := by subst h; rfl
theorem good_bad {p : T} (h : token p = false) : good p = false := by unfold good; rw [h, Bool.and_false]
theorem good_yes {p : T} (h : ¬ p = [42]) (ht : token p = true) : good p = true := by unfold good; rw [ht, beq_eq_false_iff_ne.2 h]; rfl
theorem names_bad {vs : List T} {k : Nat} (h : k < (splitAll vs).length) (hg : good (splitAll vs)[k] = false) : names vs = ([], false) := by
  unfold names
  rw [if_neg]
  intro ha
  rw [List.all_eq_true] at ha
  rw [ha _ (List.getElem_mem h)] at hg
  cases hg
theorem all_snoc {ps : List T} {k : Nat} (h : k < ps.length) (ha : (ps.take k).all good = true) (hg : good ps[k] = true) : (ps.take (k + 1)).all good = true := by
  rw [List.take_succ_eq_append_getElem h, List.all_append, ha]
  simp [hg]
theorem names_all {vs : List T} (h : (splitAll vs).all good = true) : names vs = (insAll ((splitAll vs).map lower), true) := by unfold names; rw [if_pos h]
theorem mem_splitAll {ls : List T} {p : T} : p ∈ splitAll ls ↔ ∃ l ∈ ls, p ∈ splitText l := by unfold Oct.splitAll; exact List.mem_flatMap
open Go.Lib (lens)
theorem lens_append (a b : List T) : lens (a ++ b) = lens a + lens b := by simp [Go.Lib.lens]
theorem emit_lens (l : T) : lens (emit l) ≤ l.length := by
  unfold Oct.emit; split
  · simp [Go.Lib.lens]
  · have := Oct.trim_len l; simpa [Go.Lib.lens] using this
theorem scan_lens : ∀ (l : T) (st : List T × T × Bool × Bool), lens (l.foldl scan1 st).1 + (l.foldl scan1 st).2.1.length ≤ lens st.1 + st.2.1.length + l.length
  | [], st => by simp
  | c :: l, st => by
    have h := scan_lens l (scan1 st c)
    have h1 : lens (scan1 st c).1 + (scan1 st c).2.1.length ≤ lens st.1 + st.2.1.length + 1 := by
      unfold Oct.scan1
      split
      · have := emit_lens st.2.1
        show lens (st.1 ++ emit st.2.1) + ([] : T).length ≤ _
        rw [lens_append]; simp; omega
      · show lens st.1 + (st.2.1 ++ [c]).length ≤ _
        simp; omega
    rw [List.foldl_cons, List.length_cons]; omega
theorem splitText_lens (l : T) : lens (splitText l) ≤ l.length := by
  have h := scan_lens l ([], [], false, false)
  have h2 := emit_lens (scan l).2.1
  unfold Oct.splitText
  rw [lens_append]
  unfold Oct.scan at h2 ⊢
  simp [Go.Lib.lens] at h h2 ⊢; omega
theorem piece_len {ls : List T} {m : Nat} (h : ∀ l ∈ ls, l.length ≤ m) : ∀ p ∈ splitAll ls, p.length ≤ m := by
  intro p hp
  obtain ⟨l, hl, hp⟩ := mem_splitAll.1 hp
  have h1 := splitText_lens l
  have h2 : p.length ≤ lens (splitText l) := by
    have key : ∀ (ps : List T), p ∈ ps → p.length ≤ lens ps := by
      intro ps
      induction ps with
      | nil => intro h; simp at h
      | cons x r ih =>
        intro h
        simp only [Go.Lib.lens, List.map_cons, List.sum_cons] at ih ⊢
        rcases List.mem_cons.1 h with rfl | h
        · omega
        · have := ih h; omega
    exact key _ hp
  have := h l hl; omega
end Vr

namespace Rl
open Fld (get F without withoutAll drop)

abbrev T := List UInt8
def kPragma : T := [112, 114, 97, 103, 109, 97]
def kNoCache : T := [110, 111, 45, 99, 97, 99, 104, 101]
def kINM : T := [105, 102, 45, 110, 111, 110, 101, 45, 109, 97, 116, 99, 104]
def kIMS : T := [105, 102, 45, 109, 111, 100, 105, 102, 105, 101, 100, 45, 115, 105, 110, 99, 101]
def kIM : T := [105, 102, 45, 109, 97, 116, 99, 104]
def kIUS : T := [105, 102, 45, 117, 110, 109, 111, 100, 105, 102, 105, 101, 100, 45, 115, 105, 110, 99, 101]
def kIR : T := [105, 102, 45, 114, 97, 110, 103, 101]
def kRange : T := [114, 97, 110, 103, 101]
def kAuth : T := [97, 117, 116, 104, 111, 114, 105, 122, 97, 116, 105, 111, 110]
def kVary : T := [118, 97, 114, 121]
def kConn : T := [99, 111, 110, 110, 101, 99, 116, 105, 111, 110]
def kCL : T := [99, 111, 110, 116, 101, 110, 116, 45, 108, 101, 110, 103, 116, 104]
def kETag : T := [101, 116, 97, 103]
def kLoc : T := [108, 111, 99, 97, 116, 105, 111, 110]
def kCLoc : T := [99, 111, 110, 116, 101, 110, 116, 45, 108, 111, 99, 97, 116, 105, 111, 110]
def nINM : T := [73, 102, 45, 78, 111, 110, 101, 45, 77, 97, 116, 99, 104]
def nIMS : T := [73, 102, 45, 77, 111, 100, 105, 102, 105, 101, 100, 45, 83, 105, 110, 99, 101]
def mGet : T := [71, 69, 84]
def mHead : T := [72, 69, 65, 68]
def mOptions : T := [79, 80, 84, 73, 79, 78, 83]
def mTrace : T := [84, 82, 65, 67, 69]
def hops : List T := [[99, 111, 110, 110, 101, 99, 116, 105, 111, 110], [107, 101, 101, 112, 45, 97, 108, 105, 118, 101], [112, 114, 111, 120, 121, 45, 97, 117, 116, 104, 101, 110, 116, 105, 99, 97, 116, 101], [112, 114, 111, 120, 121, 45, 97, 117, 116, 104, 111, 114, 105, 122, 97, 116, 105, 111, 110], [112, 114, 111, 120, 121, 45, 99, 111, 110, 110, 101, 99, 116, 105, 111, 110], [116, 101], [116, 114, 97, 105, 108, 101, 114], [116, 114, 97, 110, 115, 102, 101, 114, 45, 101, 110, 99, 111, 100, 105, 110, 103], [117, 112, 103, 114, 97, 100, 101]]
def four : List T := [[99, 111, 110, 116, 101, 110, 116, 45, 101, 110, 99, 111, 100, 105, 110, 103], [99, 111, 110, 116, 101, 110, 116, 45, 114, 97, 110, 103, 101], [99, 111, 110, 116, 101, 110, 116, 45, 116, 121, 112, 101], [101, 116, 97, 103]]
def has (fs : List F) (n : T) : Bool := !(get fs n).isEmpty
def one (fs : List F) (n : T) : Option T := match get fs n with
  | [v] => some v
  | _ => none
def ask (fs : List F) : Ctl.C := if has fs Fr.kCC = false ∧ (Oct.splitAll (get fs kPragma)).any (fun p => Oct.lower p == kNoCache) = true then { Fr.says fs with nc := true } else Fr.says fs
def own (fs : List F) : Bool := has fs kINM || has fs kIMS || has fs kIM || has fs kIUS || has fs kIR || has fs kRange
def storable (D : T → Option Int) (m : T) (qf : List F) (st : Int) (rf : List F) : Bool :=
  if m ≠ mGet ∨ has qf kRange = true ∨ st < 200 ∨ st = 206 ∨ st = 304 ∨ (ask qf).ns = true ∨ (Fr.says rf).ns = true ∨ (Fr.says rf).pr = true then false
  else if has qf kAuth = true ∧ (Fr.says rf).pu = false ∧ (Fr.says rf).mu = false ∧ (Fr.says rf).sa < 0 then false
  else (Vr.names (get rf kVary)).2 && ((Fr.life D st rf 0).2 || Fr.heur st || (Fr.says rf).pu)
def gone (fs : List F) : List T := hops ++ Oct.splitAll (get fs kConn)
def pass (fs : List F) : List F := withoutAll fs (gone fs)
def kept (fs : List F) : List F := without (pass fs) kCL
def condition (D : T → Option Int) (fs : List F) : List F :=
  (match one fs kETag with | some t => [(nINM, t)] | none => []) ++ (if (Fr.moment D fs Fr.kMod).isSome then [(nIMS, (one fs Fr.kMod).getD [])] else [])
def bare (t : T) : T := if t.take 2 = [87, 47] then t.drop 2 else t
def like (fs : List F) (b : T) : Bool := match one fs kETag with
  | some a => bare a == bare b
  | none => false
def confirms (kf : List F) (st : Int) (rf : List F) : Bool :=
  if st ≠ 304 then false
  else match one rf kETag with
    | some b => like kf b
    | none => match one rf Fr.kMod with
      | none => true
      | some b => decide (one kf Fr.kMod = some b)
def more (rf : List F) : List F := withoutAll (kept rf) four
def update (kf rf : List F) : List F := withoutAll kf ((more rf).map (·.1)) ++ more rf
def safe (m : T) : Bool := decide (m = mGet ∨ m = mHead ∨ m = mOptions ∨ m = mTrace)
def lead (u : Tg.U) (rf : List F) (n : T) : Option Tg.U := match one rf n with
  | none => none
  | some r => if (Tg.resolve u r).2 = 0 ∧ (Tg.resolve u r).1.host = u.host ∧ (Tg.resolve u r).1.port = u.port then some (Tg.resolve u r).1 else none
def addU (us : List Tg.U) (o : Option Tg.U) : List Tg.U := match o with
  | none => us
  | some v => if v ∈ us then us else us ++ [v]
def invalid (u : Tg.U) (m : T) (st : Int) (rf : List F) : List Tg.U := if safe m = true ∨ st < 200 ∨ 400 ≤ st then [] else addU (addU [u] (lead u rf kLoc)) (lead u rf kCLoc)
def unchanged (D : T → Option Int) (m : T) (qf : List F) (st : Int) (kf : List F) : Bool :=
  if st ≠ 200 ∨ ¬ (m = mGet ∨ m = mHead) then false
  else if has qf kINM = true then (Oct.splitAll (get qf kINM)).any fun p => p == [42] || like kf p
  else match Fr.moment D qf kIMS, Fr.moment D kf Fr.kMod with
    | some a, some b => decide (b ≤ a)
    | _, _ => false
theorem drop_drop (fs : List F) (a b : T → Bool) : drop (drop fs a) b = drop fs fun l => a l || b l := by
  unfold Fld.drop
  rw [List.filter_filter]
  apply List.filter_congr
  intro f _
  show _ = !(a (Oct.lower f.1) || b (Oct.lower f.1))
  cases a (Oct.lower f.1) <;> cases b (Oct.lower f.1) <;> rfl
def goneB (fs : List F) (l : T) : Bool := ((gone fs).map Oct.lower).contains l || l == kCL
theorem kept_drop (fs : List F) : kept fs = drop fs (goneB fs) := by
  unfold kept pass
  rw [Fld.withoutAll_drop, Fld.without_drop, drop_drop]
  rfl
theorem kept_sub {fs : List F} {f : F} (h : f ∈ kept fs) : f ∈ fs := by rw [kept_drop] at h; exact Fld.drop_sub h
theorem more_sub {fs : List F} {f : F} (h : f ∈ more fs) : f ∈ fs := kept_sub (Fld.withoutAll_sub _ _ h)
theorem ask_ns (fs : List F) : (ask fs).ns = (Fr.says fs).ns := by unfold ask; split <;> rfl
end Rl

namespace Vr
open Oct (token lower low splitAll splitText emit trim scan scan1 nq blank dropL dropR tch)

def wrap (p : T) : T := [32, 9] ++ p ++ [32, 44]
end Vr

