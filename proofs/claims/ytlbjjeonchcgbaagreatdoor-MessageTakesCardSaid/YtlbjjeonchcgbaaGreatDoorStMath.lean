/- The plain mathematics of package start: first lines. Lists of octets alone. -/
import Derived.Test.YtlbjjeonchcgbaaGreatDoorOctMath
namespace St
abbrev L := List UInt8

structure S where
  method : L
  target : L
  status : Int
  reason : L
  minor : Int
deriving DecidableEq
def zero : S := ⟨[], [], 0, [], 0⟩

def vis (c : UInt8) : Bool := decide (33 ≤ c) && decide (c ≤ 126)
def visible (l : L) : Bool := !l.isEmpty && l.all vis
def rightQ (s : S) : Bool := Oct.token s.method && decide (s.method.length ≤ 32) && visible s.target && decide (s.target.length ≤ 8000) && s.reason.isEmpty
def rightA (s : S) : Bool := s.method.isEmpty && s.target.isEmpty && decide (100 ≤ s.status) && decide (s.status ≤ 999) && Oct.value s.reason && decide (s.reason.length ≤ 200)
def right (s : S) : Bool := decide (0 ≤ s.minor) && decide (s.minor ≤ 1) && (if s.status = 0 then rightQ s else rightA s)
def http : L := [72, 84, 84, 80, 47, 49, 46]
def ver (k : Int) : L := http ++ Oct.print k 10
/-- A line's text without its end. -/
def body (s : S) : L := if s.status = 0 then s.method ++ 32 :: (s.target ++ 32 :: ver s.minor) else ver s.minor ++ 32 :: (Oct.print s.status 10 ++ 32 :: s.reason)
def text (s : S) : L := body s ++ [13, 10]

/-- Where an octet stands first; the length: nowhere. -/
def upto (d : UInt8) : L → Nat
  | [] => 0
  | c :: t => if c = d then 0 else upto d t + 1
theorem upto_nil (d : UInt8) : upto d [] = 0 := rfl
theorem upto_hit (d : UInt8) (t : L) : upto d (d :: t) = 0 := by rw [upto, if_pos rfl]
theorem upto_miss (d c : UInt8) (t : L) (h : c ≠ d) : upto d (c :: t) = upto d t + 1 := by rw [upto, if_neg h]
theorem upto_le (d : UInt8) : ∀ l : L, upto d l ≤ l.length
  | [] => Nat.le_refl _
  | c :: t => by
    have := upto_le d t
    rw [upto]; split <;> simp <;> omega
theorem upto_app (d : UInt8) (b : L) : ∀ a : L, (∀ c ∈ a, c ≠ d) → upto d (a ++ d :: b) = a.length
  | [], _ => upto_hit d b
  | c :: t, h => by
    show upto d (c :: (t ++ d :: b)) = _
    rw [upto_miss d c _ (h c (by simp)), upto_app d b t (fun x hx => h x (by simp [hx]))]; rfl
theorem upto_none (d : UInt8) : ∀ l : L, (∀ c ∈ l, c ≠ d) → upto d l = l.length
  | [], _ => rfl
  | c :: t, h => by rw [upto_miss d c _ (h c (by simp)), upto_none d t (fun x hx => h x (by simp [hx]))]; rfl
theorem upto_take (d : UInt8) : ∀ l : L, ∀ c ∈ l.take (upto d l), c ≠ d
  | [], c, h => by simp at h
  | a :: t, c, h => by
    by_cases ha : a = d
    · subst ha; rw [upto_hit] at h; simp at h
    · rw [upto_miss d a t ha, List.take_succ_cons, List.mem_cons] at h
      rcases h with rfl | h
      · exact ha
      · exact upto_take d t c h
theorem upto_drop (d : UInt8) : ∀ l : L, upto d l < l.length → l.drop (upto d l) = d :: l.drop (upto d l + 1)
  | [], h => by simp at h
  | a :: t, h => by
    by_cases ha : a = d
    · subst ha; rw [upto_hit]; rfl
    · rw [upto_miss d a t ha] at h ⊢
      rw [List.drop_succ_cons, List.drop_succ_cons]
      exact upto_drop d t (by simpa using h)

/-- Up to the first LF, without its CR; how many octets with it; the error. -/
def line (most : Nat) (b : L) : L × Int × Int :=
  if upto 10 b < b.length ∧ upto 10 b ≤ most then
    if 1 ≤ upto 10 b ∧ b[upto 10 b - 1]? = some 13 then (b.take (upto 10 b - 1), ((upto 10 b + 1 : Nat) : Int), 0) else ([], 0, 10)
  else if b.length ≤ most then ([], 0, 11) else ([], 0, 12)
def http0 : L := [72, 84, 84, 80, 47, 49, 46, 48]
def http1 : L := [72, 84, 84, 80, 47, 49, 46, 49]
def minorOf (l : L) : Int := if l = http0 then 0 else if l = http1 then 1 else -1
/-- A request's line, of its pieces. -/
def reqAt (m t v : L) : S × Int :=
  if minorOf v < 0 ∨ Oct.token m = false ∨ visible t = false then (zero, 10)
  else if 32 < m.length ∨ 8000 < t.length then (zero, 12) else (⟨m, t, 0, [], minorOf v⟩, 0)
def reqOf (l : L) : S × Int :=
  if upto 32 l = l.length then (zero, 10)
  else if upto 32 (l.drop (upto 32 l + 1)) = (l.drop (upto 32 l + 1)).length then (zero, 10)
  else reqAt (l.take (upto 32 l)) ((l.drop (upto 32 l + 1)).take (upto 32 (l.drop (upto 32 l + 1)))) ((l.drop (upto 32 l + 1)).drop (upto 32 (l.drop (upto 32 l + 1)) + 1))
/-- A response's line, of its pieces. -/
def resAt (v d r : L) : S × Int :=
  if (Oct.number 10 999 d).2 ≠ 0 ∨ (Oct.number 10 999 d).1 < 100 ∨ minorOf v < 0 ∨ Oct.value r = false then (zero, 10)
  else if 200 < r.length then (zero, 12) else (⟨[], [], (Oct.number 10 999 d).1, r, minorOf v⟩, 0)
def resOf (l : L) : S × Int :=
  if l.length < 13 ∨ l[8]? ≠ some 32 ∨ l[12]? ≠ some 32 then (zero, 10) else resAt (l.take 8) ((l.take 12).drop 9) (l.drop 13)
def whole (x : L × Int × Int) (f : L → S × Int) : S × Int × Int :=
  if x.2.2 ≠ 0 then (zero, 0, x.2.2) else if (f x.1).2 ≠ 0 then (zero, 0, (f x.1).2) else ((f x.1).1, x.2.1, 0)
def request (b : L) : S × Int × Int := whole (line 8200 b) reqOf
def response (b : L) : S × Int × Int := whole (line 300 b) resOf

theorem whole_of {l : L} {n : Int} {f : L → S × Int} {x : S} {e : Int} (h : f l = (x, e)) : whole (l, n, 0) f = if e ≠ 0 then (zero, 0, e) else (x, n, 0) := by
  unfold whole
  simp only [h]
  rw [if_neg (by simp)]
theorem whole_first {l : L} {n e : Int} {f : L → S × Int} (h : e ≠ 0) : whole (l, n, e) f = (zero, 0, e) := by
  unfold whole
  simp only []
  rw [if_pos h]
theorem reqOf_none {l : L} (h : upto 32 l = l.length) : reqOf l = (zero, 10) := by unfold reqOf; rw [if_pos h]
theorem reqOf_one {l : L} (h : upto 32 l ≠ l.length) (h2 : upto 32 (l.drop (upto 32 l + 1)) = (l.drop (upto 32 l + 1)).length) : reqOf l = (zero, 10) := by unfold reqOf; rw [if_neg h, if_pos h2]
theorem reqOf_two {l : L} (h : upto 32 l ≠ l.length) (h2 : upto 32 (l.drop (upto 32 l + 1)) ≠ (l.drop (upto 32 l + 1)).length) :
    reqOf l = reqAt (l.take (upto 32 l)) ((l.drop (upto 32 l + 1)).take (upto 32 (l.drop (upto 32 l + 1)))) ((l.drop (upto 32 l + 1)).drop (upto 32 (l.drop (upto 32 l + 1)) + 1)) := by unfold reqOf; rw [if_neg h, if_neg h2]

/-! Which octets stand where. -/
theorem tch_facts (c : UInt8) (h : Oct.tch c = true) : c ≠ 10 ∧ c ≠ 32 ∧ c ≠ 47 := by
  have := Oct.all_octets (fun c => !Oct.tch c || decide (c ≠ 10 ∧ c ≠ 32 ∧ c ≠ 47)) (by decide +kernel) c
  simpa [h] using this
theorem vis_facts (c : UInt8) (h : vis c = true) : c ≠ 10 ∧ c ≠ 32 := by
  have := Oct.all_octets (fun c => !vis c || decide (c ≠ 10 ∧ c ≠ 32)) (by decide +kernel) c
  simpa [h] using this
theorem plain_facts (c : UInt8) (h : Oct.plain c = true) : c ≠ 10 := by
  have := Oct.all_octets (fun c => !Oct.plain c || decide (c ≠ 10)) (by decide +kernel) c
  simpa [h] using this
theorem dig_facts (c : UInt8) (h : Oct.dig 10 c = true) : c ≠ 10 ∧ c ≠ 32 := by
  have := Oct.all_octets (fun c => !Oct.dig 10 c || decide (c ≠ 10 ∧ c ≠ 32)) (by decide +kernel) c
  simpa [h] using this
theorem token_no {m : L} (h : Oct.token m = true) : ∀ c ∈ m, c ≠ 10 ∧ c ≠ 32 ∧ c ≠ 47 := by
  unfold Oct.token at h
  rw [Bool.and_eq_true] at h
  exact fun c hc => tch_facts c (List.all_eq_true.1 h.2 c hc)
theorem visible_no {t : L} (h : visible t = true) : ∀ c ∈ t, c ≠ 10 ∧ c ≠ 32 := by
  unfold visible at h
  rw [Bool.and_eq_true] at h
  exact fun c hc => vis_facts c (List.all_eq_true.1 h.2 c hc)
theorem value_no {r : L} (h : Oct.value r = true) : ∀ c ∈ r, c ≠ 10 := by
  unfold Oct.value at h
  rw [Bool.and_eq_true] at h
  exact fun c hc => plain_facts c (List.all_eq_true.1 h.1 c hc)
theorem print_no (n : Int) : ∀ c ∈ Oct.print n 10, c ≠ 10 ∧ c ≠ 32 := by
  have h := Oct.dgs_dig 10 (by decide) (by decide) n.toNat
  unfold Oct.allOf at h
  exact fun c hc => dig_facts c (List.all_eq_true.1 h c hc)
theorem ver_no (k : Int) : ∀ c ∈ ver k, c ≠ 10 ∧ c ≠ 32 := by
  intro c hc
  rcases List.mem_append.1 hc with h | h
  · have : ∀ c ∈ http, c ≠ 10 ∧ c ≠ 32 := by decide
    exact this c h
  · exact print_no k c h
theorem ver_two {k : Int} (h0 : 0 ≤ k) (h1 : k ≤ 1) : (k = 0 ∧ ver k = http0) ∨ (k = 1 ∧ ver k = http1) := by
  have : k = 0 ∨ k = 1 := by omega
  rcases this with rfl | rfl
  · left; exact ⟨rfl, by decide +kernel⟩
  · right; exact ⟨rfl, by decide +kernel⟩
theorem minor_ver {k : Int} (h0 : 0 ≤ k) (h1 : k ≤ 1) : minorOf (ver k) = k ∧ (ver k).length = 8 := by
  rcases ver_two h0 h1 with ⟨rfl, h⟩ | ⟨rfl, h⟩
  · rw [h]; decide
  · rw [h]; decide
theorem minor_range (l : L) : -1 ≤ minorOf l ∧ minorOf l ≤ 1 ∧ (0 ≤ minorOf l → ver (minorOf l) = l) := by
  unfold minorOf
  split
  · rename_i h; exact ⟨by decide, by decide, fun _ => by rw [h]; decide +kernel⟩
  · split
    · rename_i h; exact ⟨by decide, by decide, fun _ => by rw [h]; decide +kernel⟩
    · exact ⟨by decide, by decide, fun h => absurd h (by decide)⟩
theorem dgs_three (n : Nat) (h0 : 100 ≤ n) (h1 : n ≤ 999) : (Oct.dgs 10 n).length = 3 := by
  rw [Oct.dgs_more (by decide) (by omega), Oct.dgs_more (by decide) (by omega), Oct.dgs_last (by omega)]; rfl

/-! A line's text is read as it. -/
theorem line_text {l : L} (h : ∀ c ∈ l, c ≠ 10) (most : Nat) (hm : l.length + 1 ≤ most) (tail : L) : line most (l ++ 13 :: 10 :: tail) = (l, ((l.length + 2 : Nat) : Int), 0) := by
  have e : l ++ 13 :: 10 :: tail = (l ++ [13]) ++ 10 :: tail := by simp
  have hu : upto 10 (l ++ 13 :: 10 :: tail) = l.length + 1 := by
    rw [e, upto_app 10 tail (l ++ [13]) (fun c hc => by
      rcases List.mem_append.1 hc with h2 | h2
      · exact h c h2
      · rw [List.mem_singleton] at h2; subst h2; decide)]
    simp
  unfold line
  rw [hu, if_pos ⟨by simp, hm⟩, if_pos ⟨by omega, by simp⟩]
  simp; omega
theorem reqOf_form {m t v : L} (hm : ∀ c ∈ m, c ≠ 32) (ht : ∀ c ∈ t, c ≠ 32) : reqOf (m ++ 32 :: (t ++ 32 :: v)) = reqAt m t v := by
  have h1 := upto_app 32 (t ++ 32 :: v) m hm
  have h2 := upto_app 32 v t ht
  unfold reqOf
  have hd : (m ++ 32 :: (t ++ 32 :: v)).drop (m.length + 1) = t ++ 32 :: v := by
    rw [show m ++ 32 :: (t ++ 32 :: v) = (m ++ [32]) ++ (t ++ 32 :: v) by simp, show m.length + 1 = (m ++ [32]).length by simp, List.drop_left]
  have hd2 : (t ++ 32 :: v).drop (t.length + 1) = v := by
    rw [show t ++ 32 :: v = (t ++ [32]) ++ v by simp, show t.length + 1 = (t ++ [32]).length by simp, List.drop_left]
  rw [h1, if_neg (by simp), hd, h2, if_neg (by simp), hd2, List.take_left, List.take_left]
theorem reqOf_text {s : S} (hr : right s = true) (h0 : s.status = 0) : reqOf (body s) = (s, 0) := by
  obtain ⟨m, t, st, r, k⟩ := s
  simp only [] at h0
  subst h0
  unfold right rightQ at hr
  simp only [Bool.and_eq_true, decide_eq_true_eq, if_pos] at hr
  obtain ⟨⟨k0, k1⟩, ⟨⟨⟨h1, h2⟩, h3⟩, h4⟩, h5⟩ := hr
  obtain rfl : r = [] := by simpa using h5
  have hv := minor_ver k0 k1
  show reqOf (m ++ 32 :: (t ++ 32 :: ver k)) = _
  rw [reqOf_form (fun c hc => (token_no h1 c hc).2.1) (fun c hc => (visible_no h3 c hc).2)]
  unfold reqAt
  rw [hv.1, if_neg (by rw [h1, h3]; simp; omega), if_neg (by omega)]
theorem resOf_form {v d r : L} (hv : v.length = 8) (hd : d.length = 3) : resOf (v ++ 32 :: (d ++ 32 :: r)) = resAt v d r := by
  unfold resOf
  have e1 : v ++ 32 :: (d ++ 32 :: r) = (v ++ 32 :: d) ++ 32 :: r := by simp
  have l1 : (v ++ 32 :: d).length = 12 := by simp; omega
  have g8 : (v ++ 32 :: (d ++ 32 :: r))[8]? = some 32 := by rw [List.getElem?_append_right (by omega), hv]; rfl
  have g12 : (v ++ 32 :: (d ++ 32 :: r))[12]? = some 32 := by rw [e1, List.getElem?_append_right (by omega), l1]; rfl
  have t8 : (v ++ 32 :: (d ++ 32 :: r)).take 8 = v := by rw [← hv, List.take_left]
  have t12 : ((v ++ 32 :: (d ++ 32 :: r)).take 12).drop 9 = d := by
    rw [e1, ← l1, List.take_left, show v ++ 32 :: d = (v ++ [32]) ++ d by simp, show 9 = (v ++ [32]).length by simp; omega, List.drop_left]
  have d13 : (v ++ 32 :: (d ++ 32 :: r)).drop 13 = r := by
    rw [e1, show (v ++ 32 :: d) ++ 32 :: r = ((v ++ 32 :: d) ++ [32]) ++ r by simp, show 13 = ((v ++ 32 :: d) ++ [32]).length by simp at l1 ⊢; omega, List.drop_left]
  rw [if_neg (by rw [g8, g12]; simp; omega), t8, t12, d13]
theorem resOf_text {s : S} (hr : right s = true) (h0 : s.status ≠ 0) : resOf (body s) = (s, 0) := by
  obtain ⟨m, t, st, r, k⟩ := s
  simp only [] at h0
  unfold right at hr
  simp only [Bool.and_eq_true, decide_eq_true_eq, if_neg h0] at hr
  obtain ⟨⟨k0, k1⟩, hr⟩ := hr
  unfold rightA at hr
  simp only [Bool.and_eq_true, decide_eq_true_eq] at hr
  obtain ⟨⟨⟨⟨⟨h1, h2⟩, h3⟩, h4⟩, h5⟩, h6⟩ := hr
  obtain rfl : m = [] := by simpa using h1
  obtain rfl : t = [] := by simpa using h2
  have hv := minor_ver k0 k1
  have hd : (Oct.print st 10).length = 3 := dgs_three st.toNat (by omega) (by omega)
  have hn : Oct.number 10 999 (Oct.print st 10) = (st, 0) := by
    show Oct.number 10 999 (Oct.dgs 10 st.toNat) = _
    rw [Oct.number_dgs 10 (by decide) (by decide) 999 st.toNat (by omega)]
    rw [show ((st.toNat : Nat) : Int) = st by omega]
  have e : body ⟨[], [], st, r, k⟩ = ver k ++ 32 :: (Oct.print st 10 ++ 32 :: r) := by unfold body; rw [if_neg h0]
  rw [e, resOf_form hv.2 hd]
  unfold resAt
  rw [hn, hv.1, if_neg (by rw [h5]; simp; omega), if_neg (by omega)]
theorem body_no {s : S} (hr : right s = true) : ∀ c ∈ body s, c ≠ 10 := by
  unfold right at hr
  simp only [Bool.and_eq_true, decide_eq_true_eq] at hr
  obtain ⟨_, hr⟩ := hr
  unfold body
  split
  · rename_i h0
    rw [if_pos h0] at hr
    unfold rightQ at hr
    simp only [Bool.and_eq_true, decide_eq_true_eq] at hr
    obtain ⟨⟨⟨⟨h1, _⟩, h3⟩, _⟩, _⟩ := hr
    intro c hc
    simp only [List.mem_append, List.mem_cons] at hc
    rcases hc with h | rfl | h | rfl | h
    · exact (token_no h1 c h).1
    · decide
    · exact (visible_no h3 c h).1
    · decide
    · exact (ver_no _ c h).1
  · rename_i h0
    rw [if_neg h0] at hr
    unfold rightA at hr
    simp only [Bool.and_eq_true, decide_eq_true_eq] at hr
    intro c hc
    simp only [List.mem_append, List.mem_cons] at hc
    rcases hc with h | rfl | h | rfl | h
    · exact (ver_no _ c h).1
    · decide
    · exact (print_no _ c h).1
    · decide
    · exact value_no hr.1.2 c h
theorem body_len {s : S} (hr : right s = true) : (s.status = 0 → (body s).length ≤ 8042) ∧ (s.status ≠ 0 → (body s).length ≤ 213) := by
  unfold right at hr
  simp only [Bool.and_eq_true, decide_eq_true_eq] at hr
  obtain ⟨⟨k0, k1⟩, hr⟩ := hr
  have hv := (minor_ver k0 k1).2
  constructor
  · intro h0
    rw [if_pos h0] at hr
    unfold rightQ at hr
    simp only [Bool.and_eq_true, decide_eq_true_eq] at hr
    unfold body; rw [if_pos h0]
    simp; omega
  · intro h0
    rw [if_neg h0] at hr
    unfold rightA at hr
    simp only [Bool.and_eq_true, decide_eq_true_eq] at hr
    have hd : (Oct.print s.status 10).length = 3 := dgs_three s.status.toNat (by omega) (by omega)
    unfold body; rw [if_neg h0]
    simp; omega
theorem text_len {s : S} : (text s).length = (body s).length + 2 := by simp [text]
theorem text_tail (s : S) (tail : L) : text s ++ tail = body s ++ 13 :: 10 :: tail := by simp [text]
theorem request_text {s : S} (hr : right s = true) (h0 : s.status = 0) (tail : L) : request (text s ++ tail) = (s, ((text s).length : Int), 0) := by
  unfold request
  rw [text_tail, line_text (body_no hr) 8200 (by have := (body_len hr).1 h0; omega), text_len]
  unfold whole
  rw [if_neg (by simp), reqOf_text hr h0, if_neg (by simp)]
theorem response_text {s : S} (hr : right s = true) (h0 : s.status ≠ 0) (tail : L) : response (text s ++ tail) = (s, ((text s).length : Int), 0) := by
  unfold response
  rw [text_tail, line_text (body_no hr) 300 (by have := (body_len hr).2 h0; omega), text_len]
  unfold whole
  rw [if_neg (by simp), resOf_text hr h0, if_neg (by simp)]

/-! No line is both. -/
theorem line_ok {most : Nat} {b : L} (h : (line most b).2.2 = 0) : (line most b).1 = b.take (upto 10 b - 1) := by
  unfold line at h ⊢
  split
  · rename_i h1
    rw [if_pos h1] at h
    split
    · rfl
    · rename_i h2; rw [if_neg h2] at h; cases h
  · rename_i h1
    rw [if_neg h1] at h
    split at h <;> cases h
theorem whole_ok {x : L × Int × Int} {f : L → S × Int} (h : (whole x f).2.2 = 0) : x.2.2 = 0 ∧ (f x.1).2 = 0 := by
  unfold whole at h
  split at h
  · rename_i h1; exact absurd h h1
  · rename_i h1
    split at h
    · rename_i h2; exact absurd h h2
    · rename_i h2; exact ⟨Decidable.of_not_not h1, Decidable.of_not_not h2⟩
theorem reqOf_token {l : L} (h : (reqOf l).2 = 0) : Oct.token (l.take (upto 32 l)) = true := by
  unfold reqOf at h
  split at h
  · cases h
  · split at h
    · cases h
    · unfold reqAt at h
      split at h
      · cases h
      · rename_i h1
        cases ht : Oct.token (l.take (upto 32 l)) with
        | true => rfl
        | false => exact absurd (.inr (.inl ht)) h1
theorem resOf_head {l : L} (h : (resOf l).2 = 0) : l[8]? = some 32 ∧ (l.take 8 = http0 ∨ l.take 8 = http1) := by
  unfold resOf at h
  split at h
  · cases h
  · rename_i h1
    unfold resAt at h
    split at h
    · cases h
    · rename_i h2
      refine ⟨?_, ?_⟩
      · cases h3 : decide (l[8]? = some 32) with
        | true => simpa using h3
        | false => exact absurd (.inr (.inl (by simpa using h3))) h1
      · by_cases h3 : l.take 8 = http0
        · exact .inl h3
        · by_cases h4 : l.take 8 = http1
          · exact .inr h4
          · exfalso
            apply h2
            right; right; left
            unfold minorOf; rw [if_neg h3, if_neg h4]; decide
theorem not_both (b : L) (h : (request b).2.2 = 0) : (response b).2.2 ≠ 0 := by
  intro h2
  have r1 := whole_ok h
  have r2 := whole_ok h2
  have e1 := line_ok r1.1
  have e2 := line_ok r2.1
  rw [e1] at r1
  rw [e2] at r2
  generalize b.take (upto 10 b - 1) = l at *
  have t := reqOf_token r1.2
  obtain ⟨g8, g⟩ := resOf_head r2.2
  have hlen : 8 < l.length := (List.getElem?_eq_some_iff.1 g8).1
  have hs : l = l.take 8 ++ 32 :: l.drop 9 := by
    conv => lhs; rw [← List.take_append_drop 8 l, List.drop_eq_getElem_cons hlen]
    rw [(List.getElem?_eq_some_iff.1 g8).2]
  have hn : ∀ c ∈ l.take 8, c ≠ 32 := by
    rcases g with g | g <;> (rw [g]; decide)
  have hl8 : (l.take 8).length = 8 := by rw [List.length_take]; omega
  have hu : upto 32 l = 8 := by
    rw [hs, upto_app 32 _ _ hn, hl8]
  rw [hu] at t
  have hm : (47 : UInt8) ∈ l.take 8 := by
    rcases g with g | g <;> (rw [g]; decide)
  exact (token_no t 47 hm).2.2 rfl

/-! A line's beginnings ask for more. -/
theorem line_more {most : Nat} {b : L} (h : ∀ c ∈ b, c ≠ 10) (hl : b.length ≤ most) : line most b = ([], 0, 11) := by
  unfold line
  rw [upto_none 10 b h, if_neg (by omega), if_pos hl]
theorem line_long {most : Nat} {b : L} (h : ∀ c ∈ b, c ≠ 10) (hl : most < b.length) : line most b = ([], 0, 12) := by
  unfold line
  rw [upto_none 10 b h, if_neg (by omega), if_neg (by omega)]
theorem cut_no {s : S} (hr : right s = true) (k : Nat) (hk : k < (text s).length) : ∀ c ∈ (text s).take k, c ≠ 10 := by
  have e : (text s).take k = (body s ++ [13]).take k := by
    rw [text_len] at hk
    rw [show text s = (body s ++ [13]) ++ [10] by simp [text], List.take_append_of_le_length (by simp; omega)]
  rw [e]
  intro c hc
  have hc := List.mem_of_mem_take hc
  rcases List.mem_append.1 hc with h | h
  · exact body_no hr c h
  · rw [List.mem_singleton] at h; subst h; decide
theorem request_cut {s : S} (hr : right s = true) (h0 : s.status = 0) (k : Nat) (hk : k < (text s).length) : request ((text s).take k) = (zero, 0, 11) := by
  unfold request
  have := (body_len hr).1 h0
  rw [line_more (cut_no hr k hk) (by rw [List.length_take]; rw [text_len] at hk ⊢; omega)]; rfl
theorem response_cut {s : S} (hr : right s = true) (h0 : s.status ≠ 0) (k : Nat) (hk : k < (text s).length) : response ((text s).take k) = (zero, 0, 11) := by
  unfold response
  have := (body_len hr).2 h0
  rw [line_more (cut_no hr k hk) (by rw [List.length_take]; rw [text_len] at hk ⊢; omega)]; rfl

/-! Unlike lines have unlike texts. -/
theorem text_inj {a b : S} (ha : right a = true) (hb : right b = true) (h : text a = text b) : a = b := by
  by_cases h1 : a.status = 0
  · have r1 := request_text ha h1 []
    by_cases h2 : b.status = 0
    · have r2 := request_text hb h2 []
      rw [h] at r1
      rw [r1] at r2
      exact congrArg Prod.fst r2
    · have r2 := response_text hb h2 []
      rw [← h] at r2
      exact absurd (by rw [r2]) (not_both _ (by rw [r1]))
  · have r1 := response_text ha h1 []
    by_cases h2 : b.status = 0
    · have r2 := request_text hb h2 []
      rw [← h] at r2
      exact absurd (by rw [r1]) (not_both _ (by rw [r2]))
    · have r2 := response_text hb h2 []
      rw [h] at r1
      rw [r1] at r2
      exact congrArg Prod.fst r2

/-! As long as may be. -/
theorem reqAt_ok {m t : L} {k : Int} (hm : Oct.token m = true) (ht : visible t = true) (k0 : 0 ≤ k) (k1 : k ≤ 1) : reqAt m t (ver k) = if 32 < m.length ∨ 8000 < t.length then (zero, 12) else (⟨m, t, 0, [], k⟩, 0) := by
  unfold reqAt
  rw [(minor_ver k0 k1).1, if_neg (by rw [hm, ht]; simp; omega)]
theorem resAt_ok {d r : L} {k : Int} {n : Int} (hn : Oct.number 10 999 d = (n, 0)) (hn1 : 100 ≤ n) (hr : Oct.value r = true) (k0 : 0 ≤ k) (k1 : k ≤ 1) : resAt (ver k) d r = if 200 < r.length then (zero, 12) else (⟨[], [], n, r, k⟩, 0) := by
  unfold resAt
  rw [hn, (minor_ver k0 k1).1, if_neg (by rw [hr]; simp; omega)]
theorem request_form {m t : L} {k : Int} (hm : Oct.token m = true) (ht : visible t = true) (k0 : 0 ≤ k) (k1 : k ≤ 1) (hl : m.length + t.length ≤ 8180) :
    request (m ++ 32 :: (t ++ 32 :: ver k) ++ [13, 10]) = if 32 < m.length ∨ 8000 < t.length then (zero, 0, 12) else (⟨m, t, 0, [], k⟩, ((m.length + t.length + 12 : Nat) : Int), 0) := by
  have hv := minor_ver k0 k1
  have hn : ∀ c ∈ m ++ 32 :: (t ++ 32 :: ver k), c ≠ 10 := by
    intro c hc
    simp only [List.mem_append, List.mem_cons] at hc
    rcases hc with h | rfl | h | rfl | h
    · exact (token_no hm c h).1
    · decide
    · exact (visible_no ht c h).1
    · decide
    · exact (ver_no _ c h).1
  unfold request
  rw [show m ++ 32 :: (t ++ 32 :: ver k) ++ [13, 10] = (m ++ 32 :: (t ++ 32 :: ver k)) ++ 13 :: 10 :: [] from rfl, line_text hn 8200 (by simp; omega)]
  unfold whole
  rw [if_neg (by simp), reqOf_form (fun c hc => (token_no hm c hc).2.1) (fun c hc => (visible_no ht c hc).2), reqAt_ok hm ht k0 k1]
  by_cases h : 32 < m.length ∨ 8000 < t.length
  · rw [if_pos h, if_pos h]; rfl
  · rw [if_neg h, if_neg h, if_neg (by simp)]
    simp [hv.2]; omega
theorem response_form {d r : L} {k : Int} {n : Int} (hd : d.length = 3) (hn : Oct.number 10 999 d = (n, 0)) (hn1 : 100 ≤ n) (hdn : ∀ c ∈ d, c ≠ 10) (hr : Oct.value r = true) (k0 : 0 ≤ k) (k1 : k ≤ 1) (hl : r.length ≤ 280) :
    response (ver k ++ 32 :: (d ++ 32 :: r) ++ [13, 10]) = if 200 < r.length then (zero, 0, 12) else (⟨[], [], n, r, k⟩, ((r.length + 15 : Nat) : Int), 0) := by
  have hv := minor_ver k0 k1
  have hno : ∀ c ∈ ver k ++ 32 :: (d ++ 32 :: r), c ≠ 10 := by
    intro c hc
    simp only [List.mem_append, List.mem_cons] at hc
    rcases hc with h | rfl | h | rfl | h
    · exact (ver_no _ c h).1
    · decide
    · exact hdn c h
    · decide
    · exact value_no hr c h
  unfold response
  rw [show ver k ++ 32 :: (d ++ 32 :: r) ++ [13, 10] = (ver k ++ 32 :: (d ++ 32 :: r)) ++ 13 :: 10 :: [] from rfl, line_text hno 300 (by simp; omega)]
  unfold whole
  rw [if_neg (by simp), resOf_form hv.2 hd, resAt_ok hn hn1 hr k0 k1]
  by_cases h : 200 < r.length
  · rw [if_pos h, if_pos h]; rfl
  · rw [if_neg h, if_neg h, if_neg (by simp)]
    simp [hv.2]; omega
theorem request_zeros (n : Nat) : request (List.replicate n 0) = if n ≤ 8200 then (zero, 0, 11) else (zero, 0, 12) := by
  have h : ∀ c ∈ List.replicate n (0 : UInt8), c ≠ 10 := fun c hc => by rw [(List.mem_replicate.1 hc).2]; decide
  unfold request
  split
  · rw [line_more h (by simpa using ‹n ≤ 8200›)]; rfl
  · rw [line_long h (by simp; omega)]; rfl
theorem response_zeros (n : Nat) : response (List.replicate n 0) = if n ≤ 300 then (zero, 0, 11) else (zero, 0, 12) := by
  have h : ∀ c ∈ List.replicate n (0 : UInt8), c ≠ 10 := fun c hc => by rw [(List.mem_replicate.1 hc).2]; decide
  unfold response
  split
  · rw [line_more h (by simpa using ‹n ≤ 300›)]; rfl
  · rw [line_long h (by simp; omega)]; rfl
end St
