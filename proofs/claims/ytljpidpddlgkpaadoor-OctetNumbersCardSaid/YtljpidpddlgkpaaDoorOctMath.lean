/- The plain mathematics of package octet: lists of octets alone. -/
import Derived.Lib.SlTrimSet
import Derived.Lib.Bytealg
namespace Oct

/-- May a value have this octet? -/
def plain (c : UInt8) : Bool := c == 9 || (decide (32 ≤ c) && c != 127)
def blank (c : UInt8) : Bool := c == 32 || c == 9
/-- The octets of a token beside letters and digits. -/
def marks : List UInt8 := [33, 35, 36, 37, 38, 39, 42, 43, 45, 46, 94, 95, 96, 124, 126]
def alnum (c : UInt8) : Bool := (decide (97 ≤ c) && decide (c ≤ 122)) || (decide (65 ≤ c) && decide (c ≤ 90)) || (decide (48 ≤ c) && decide (c ≤ 57))
def tch (c : UInt8) : Bool := alnum c || marks.contains c
def token (l : List UInt8) : Bool := !l.isEmpty && l.all tch
def trim (l : List UInt8) : List UInt8 := Go.Lib.trimS l [32, 9]
def value (l : List UInt8) : Bool := l.all plain && trim l == l
def low (c : UInt8) : UInt8 := if 65 ≤ c ∧ c ≤ 90 then c + 32 else c
def lower (l : List UInt8) : List UInt8 := l.map low

theorem nat8 (c : UInt8) (n : UInt8) : (c == n) = ((c.toNat : Int) == (n.toNat : Int)) := by
  rw [Bool.eq_iff_iff, beq_iff_eq, beq_iff_eq, ← UInt8.toNat_inj]; omega
theorem le8 (c n : UInt8) : decide (c ≤ n) = decide ((c.toNat : Int) ≤ (n.toNat : Int)) := by
  rw [Bool.eq_iff_iff, decide_eq_true_iff, decide_eq_true_iff, UInt8.le_iff_toNat_le]; omega
/-- The octet's tests as numbers. -/
theorem plain_int (c : UInt8) : plain c = ((c.toNat : Int) == 9 || (decide (32 ≤ (c.toNat : Int)) && !((c.toNat : Int) == 127))) := by
  unfold plain; rw [bne, nat8, nat8, le8]; rfl
theorem blank_int (c : UInt8) : blank c = ((c.toNat : Int) == 32 || (c.toNat : Int) == 9) := by
  unfold blank; rw [nat8, nat8]; rfl
theorem alnum_int (c : UInt8) : alnum c = ((decide (97 ≤ (c.toNat : Int)) && decide ((c.toNat : Int) ≤ 122)) || (decide (65 ≤ (c.toNat : Int)) && decide ((c.toNat : Int) ≤ 90)) || (decide (48 ≤ (c.toNat : Int)) && decide ((c.toNat : Int) ≤ 57))) := by
  unfold alnum; rw [le8, le8, le8, le8, le8, le8]; rfl

theorem blank_eq (c : UInt8) : ([32, 9] : List UInt8).contains c = blank c := by
  simp [blank, List.contains, List.elem]
  cases h : (c == 32) <;> cases h' : (c == 9) <;> simp_all

def dropL (l : List UInt8) : List UInt8 := l.dropWhile blank
def dropR (l : List UInt8) : List UInt8 := (l.reverse.dropWhile blank).reverse
theorem trimL_eq (l : List UInt8) : Go.Lib.trimLeftS l [32, 9] = dropL l := by
  unfold Go.Lib.trimLeftS dropL; congr 1; funext c; exact blank_eq c
theorem trimR_eq (l : List UInt8) : Go.Lib.trimRightS l [32, 9] = dropR l := by
  unfold Go.Lib.trimRightS dropR; congr 2; funext c; exact blank_eq c
theorem trim_eq (l : List UInt8) : trim l = dropL (dropR l) := by
  unfold trim Go.Lib.trimS; rw [trimL_eq, trimR_eq]

theorem dropL_cons_blank (c : UInt8) (l : List UInt8) (h : blank c = true) : dropL (c :: l) = dropL l := by simp [dropL, h]
theorem dropL_cons_not (c : UInt8) (l : List UInt8) (h : blank c = false) : dropL (c :: l) = c :: l := by simp [dropL, h]
theorem dropR_append_blank (c : UInt8) (l : List UInt8) (h : blank c = true) : dropR (l ++ [c]) = dropR l := by simp [dropR, h]
theorem dropR_append_not (c : UInt8) (l : List UInt8) (h : blank c = false) : dropR (l ++ [c]) = l ++ [c] := by simp [dropR, h]
theorem dropR_nil : dropR [] = [] := rfl
theorem dropL_nil : dropL [] = [] := rfl

/-- A list is empty or has a last octet. -/
theorem snoc_cases (l : List UInt8) : l = [] ∨ ∃ i c, l = i ++ [c] := by
  cases h : l.reverse with
  | nil => left; simpa using h
  | cons c r => right; refine ⟨r.reverse, c, ?_⟩; have := congrArg List.reverse h; simpa using this

theorem snoc_ind {P : List UInt8 → Prop} (h0 : P []) (h1 : ∀ l c, P l → P (l ++ [c])) (l : List UInt8) : P l := by
  have : ∀ r : List UInt8, P r.reverse := by
    intro r
    induction r with
    | nil => simpa using h0
    | cons c r ih => rw [List.reverse_cons]; exact h1 _ _ ih
  simpa using this l.reverse

/-- Which lists have no blank at their ends. -/
def clean (l : List UInt8) : Bool := (l.head?.map blank).getD false == false && (l.getLast?.map blank).getD false == false

theorem dropL_len (l : List UInt8) : (dropL l).length ≤ l.length := by
  unfold dropL; exact (List.dropWhile_sublist _).length_le
theorem dropR_len (l : List UInt8) : (dropR l).length ≤ l.length := by
  unfold dropR
  rw [List.length_reverse]
  have := (List.dropWhile_sublist (p := blank) (l := l.reverse)).length_le
  simpa using this

theorem dropL_fix (l : List UInt8) : dropL l = l ↔ (∀ c r, l = c :: r → blank c = false) := by
  constructor
  · intro h c r e
    subst e
    cases hb : blank c with
    | false => rfl
    | true =>
      rw [dropL_cons_blank c r hb] at h
      have := dropL_len r
      rw [h] at this; simp at this; omega
  · intro h
    cases l with
    | nil => rfl
    | cons c r => exact dropL_cons_not c r (h c r rfl)

theorem dropR_fix (l : List UInt8) : dropR l = l ↔ (∀ i c, l = i ++ [c] → blank c = false) := by
  constructor
  · intro h i c e
    subst e
    cases hb : blank c with
    | false => rfl
    | true =>
      rw [dropR_append_blank c i hb] at h
      have := dropR_len i
      rw [h] at this; simp at this; omega
  · intro h
    rcases snoc_cases l with rfl | ⟨i, c, rfl⟩
    · rfl
    · exact dropR_append_not c i (h i c rfl)

theorem dropL_no (l : List UInt8) : ∀ c r, dropL l = c :: r → blank c = false := by
  induction l with
  | nil => intro c r h; simp [dropL] at h
  | cons d l ih =>
    intro c r h
    cases hb : blank d with
    | true => rw [dropL_cons_blank d l hb] at h; exact ih c r h
    | false => rw [dropL_cons_not d l hb] at h; cases h; exact hb
theorem dropL_idem (l : List UInt8) : dropL (dropL l) = dropL l := (dropL_fix _).2 (dropL_no l)
theorem dropR_idem (l : List UInt8) : dropR (dropR l) = dropR l := by
  refine snoc_ind (P := fun l => dropR (dropR l) = dropR l) rfl (fun l c ih => ?_) l
  cases hb : blank c with
  | true => rw [dropR_append_blank c l hb]; exact ih
  | false => rw [dropR_append_not c l hb, dropR_append_not c l hb]

/-- What is left of a list of which the last octet is no blank: its last octet is none. -/
theorem dropL_last (l : List UInt8) (h : ∀ i c, l = i ++ [c] → blank c = false) : ∀ i c, dropL l = i ++ [c] → blank c = false := by
  induction l with
  | nil => intro i c e; simp [dropL] at e
  | cons d l ih =>
    intro i c e
    cases hb : blank d with
    | true =>
      rw [dropL_cons_blank d l hb] at e
      exact ih (fun i' c' e' => h (d :: i') c' (by rw [e']; rfl)) i c e
    | false => rw [dropL_cons_not d l hb] at e; exact h i c e
theorem dropR_last (l : List UInt8) : ∀ i c, dropR l = i ++ [c] → blank c = false := (dropR_fix _).1 (dropR_idem l)

/-- Trimmed once is trimmed. -/
theorem dropR_trim (l : List UInt8) : dropR (trim l) = trim l := by
  rw [trim_eq]; exact (dropR_fix _).2 (dropL_last _ (dropR_last l))
theorem dropL_trim (l : List UInt8) : dropL (trim l) = trim l := by rw [trim_eq]; exact dropL_idem _
theorem trim_trim (l : List UInt8) : trim (trim l) = trim l := by
  rw [trim_eq (trim l), dropR_trim, dropL_trim]

theorem trim_fix (l : List UInt8) : trim l = l ↔ dropL l = l ∧ dropR l = l := by
  constructor
  · intro h; exact ⟨by rw [← h]; exact dropL_trim l, by rw [← h]; exact dropR_trim l⟩
  · intro ⟨h1, h2⟩; rw [trim_eq, h2, h1]

/-- A trimmed text as the document says it: no blank at its beginning, none at its end. -/
theorem trim_fix' (l : List UInt8) : trim l = l ↔ (∀ c r, l = c :: r → blank c = false) ∧ (∀ i c, l = i ++ [c] → blank c = false) := by
  rw [trim_fix, dropL_fix, dropR_fix]

/-- Blanks around. -/
theorem dropL_blanks (b l : List UInt8) (h : b.all blank = true) : dropL (b ++ l) = dropL l := by
  induction b with
  | nil => rfl
  | cons c b ih =>
    simp only [List.all_cons, Bool.and_eq_true] at h
    rw [List.cons_append, dropL_cons_blank _ _ h.1, ih h.2]
theorem dropR_blanks (b l : List UInt8) (h : b.all blank = true) : dropR (l ++ b) = dropR l := by
  revert h
  refine snoc_ind (P := fun b => b.all blank = true → dropR (l ++ b) = dropR l) (fun _ => by simp) (fun b c ih h => ?_) b
  simp only [List.all_append, List.all_cons, List.all_nil, Bool.and_true, Bool.and_eq_true] at h
  rw [← List.append_assoc, dropR_append_blank _ _ h.2, ih h.1]

theorem dropL_all (l : List UInt8) (h : l.all blank = true) : dropL l = [] := by
  have := dropL_blanks l [] h; simpa [dropL] using this
theorem dropR_all (l : List UInt8) (h : l.all blank = true) : dropR l = [] := by
  have := dropR_blanks l [] h; simpa [dropR] using this
theorem dropL_eq_nil (l : List UInt8) (h : dropL l = []) : l.all blank = true := by
  induction l with
  | nil => rfl
  | cons c l ih =>
    cases hb : blank c with
    | true => rw [dropL_cons_blank c l hb] at h; simp [hb, ih h]
    | false => rw [dropL_cons_not c l hb] at h; cases h
theorem dropR_eq_nil (l : List UInt8) (h : dropR l = []) : l.all blank = true := by
  unfold dropR at h
  have h' : l.reverse.dropWhile blank = [] := by simpa using h
  have := dropL_eq_nil l.reverse h'
  simpa using this
theorem trim_eq_nil (l : List UInt8) : trim l = [] ↔ l.all blank = true := by
  constructor
  · intro h
    rw [trim_eq] at h
    have h1 := dropL_eq_nil _ h
    by_cases he : dropR l = []
    · exact dropR_eq_nil l he
    · rcases snoc_cases (dropR l) with h0 | ⟨i, c, hc⟩
      · exact absurd h0 he
      · have := dropR_last l i c hc
        rw [hc] at h1; simp [this] at h1
  · intro h; rw [trim_eq, dropR_all l h]; rfl

/-- The two ends may be trimmed in either order. -/
theorem dropL_dropR (l : List UInt8) : dropL (dropR l) = dropR (dropL l) := by
  by_cases h : l.all blank = true
  · rw [dropR_all l h, dropL_all l h]; rfl
  · induction l with
    | nil => rfl
    | cons c l ih =>
      cases hb : blank c with
      | true =>
        have hl : ¬ l.all blank = true := by intro h'; exact h (by simp [hb, h'])
        have hne : dropR l ≠ [] := fun e => hl (dropR_eq_nil l e)
        have hcr : dropR (c :: l) = c :: dropR l := by
          unfold dropR
          rw [List.reverse_cons]
          have hd : ∀ (a b : List UInt8), a.dropWhile blank ≠ [] → (a ++ b).dropWhile blank = a.dropWhile blank ++ b := by
            intro a b
            induction a with
            | nil => intro h; simp at h
            | cons x a ih =>
              intro h
              cases hx : blank x with
              | true => simp [hx] at h ⊢; exact ih h
              | false => simp [hx]
          rw [hd l.reverse [c] (by intro e; exact hne (by unfold dropR; rw [e]; rfl))]
          simp
        rw [hcr, dropL_cons_blank _ _ hb, dropL_cons_blank _ _ hb]
        exact ih hl
      | false =>
        rw [dropL_cons_not c l hb]
        refine (dropL_fix _).2 ?_
        intro d r e
        rcases snoc_cases l with h0 | ⟨i, x, hx⟩
        · subst h0
          have : dropR [c] = [c] := dropR_append_not c [] hb
          rw [this] at e; cases e; exact hb
        · have hpre : dropR (c :: l) <+: (c :: l) := by
            unfold dropR
            have := List.dropWhile_suffix blank (l := (c :: l).reverse)
            have := List.reverse_prefix.2 this
            simpa using this
          rw [e] at hpre
          have := hpre
          rcases this with ⟨t, ht⟩
          simp at ht
          rw [ht.1]; exact hb

theorem trim_eq' (l : List UInt8) : trim l = dropR (dropL l) := by rw [trim_eq, dropL_dropR]

theorem trim_blanks (b l b' : List UInt8) (h : b.all blank = true) (h' : b'.all blank = true) : trim (b ++ l ++ b') = trim l := by
  rw [trim_eq, dropR_blanks _ _ h', dropL_dropR, dropL_blanks _ _ h, ← trim_eq']

/-- Small letters. -/
theorem low_low (c : UInt8) : low (low c) = low c := by
  unfold low
  by_cases h : 65 ≤ c ∧ c ≤ 90
  · have h2 : ¬ (65 ≤ c + 32 ∧ c + 32 ≤ 90) := by
      have h3 : (c + 32).toNat = c.toNat + 32 := by
        rw [UInt8.toNat_add]; have := UInt8.le_iff_toNat_le.1 h.2; simp at this; simp; omega
      rintro ⟨_, h4⟩
      have a := UInt8.le_iff_toNat_le.1 h.1
      have b := UInt8.le_iff_toNat_le.1 h4
      rw [h3] at b; simp at a b; omega
    rw [if_pos h, if_neg h2]
  · rw [if_neg h, if_neg h]
theorem lower_lower (l : List UInt8) : lower (lower l) = lower l := by simp [lower, low_low]
theorem lower_length (l : List UInt8) : (lower l).length = l.length := by simp [lower]

/-- All of the 256 octets. -/
theorem all_octets (p : UInt8 → Bool) (h : (List.range 256).all (fun n => p (UInt8.ofNat n)) = true) (c : UInt8) : p c = true := by
  have := List.all_eq_true.1 h c.toNat (by simp; exact c.toNat_lt)
  simpa using this

theorem tch_plain (c : UInt8) (h : tch c = true) : plain c = true ∧ blank c = false ∧ tch (low c) = true ∧ c ≠ 44 ∧ c ≠ 34 ∧ c ≠ 92 := by
  have := all_octets (fun c => !tch c || (plain c && !blank c && tch (low c) && c != 44 && c != 34 && c != 92)) (by decide +kernel) c
  simp only [h, Bool.not_true, Bool.false_or, Bool.and_eq_true, Bool.not_eq_true', bne_iff_ne, ne_eq] at this
  obtain ⟨⟨⟨⟨⟨h1, h2⟩, h3⟩, h4⟩, h5⟩, h6⟩ := this
  exact ⟨h1, h2, h3, h4, h5, h6⟩

theorem token_all (l : List UInt8) (h : token l = true) : l ≠ [] ∧ ∀ c ∈ l, tch c = true := by
  simp only [token, Bool.and_eq_true, Bool.not_eq_true', List.isEmpty_eq_false_iff, List.all_eq_true] at h
  exact h

theorem token_value (l : List UInt8) (h : token l = true) : value l = true := by
  obtain ⟨_, hall⟩ := token_all l h
  simp only [value, Bool.and_eq_true, List.all_eq_true, beq_iff_eq]
  refine ⟨fun c hc => (tch_plain c (hall c hc)).1, ?_⟩
  rw [trim_fix']
  exact ⟨fun c r e => (tch_plain c (hall c (by rw [e]; simp))).2.1, fun i c e => (tch_plain c (hall c (by rw [e]; simp))).2.1⟩
theorem token_lower (l : List UInt8) (h : token l = true) : token (lower l) = true := by
  obtain ⟨hne, hall⟩ := token_all l h
  simp only [token, lower, Bool.and_eq_true, Bool.not_eq_true', List.isEmpty_eq_false_iff, List.all_eq_true, List.mem_map, ne_eq, List.map_eq_nil_iff]
  refine ⟨hne, ?_⟩
  rintro c ⟨d, hd, rfl⟩
  exact (tch_plain d (hall d hd)).2.2.1

/-- OctetTrims's part that is plain. -/
theorem trims (s b : List UInt8) (hb : trim b = []) : trim (trim s) = trim s ∧ trim (b ++ s ++ b) = trim s ∧ lower (lower s) = lower s ∧ (lower s).length = s.length ∧ (token s = true → value s = true ∧ token (lower s) = true) := by
  have h := (trim_eq_nil b).1 hb
  exact ⟨trim_trim s, trim_blanks b s b h h, lower_lower s, lower_length s, fun ht => ⟨token_value s ht, token_lower s ht⟩⟩


/-- What a digit is worth; 16: it is none. -/
def worth (c : UInt8) : Nat := if 48 ≤ c.toNat ∧ c.toNat ≤ 57 then c.toNat - 48 else if 97 ≤ c.toNat ∧ c.toNat ≤ 102 then c.toNat - 87 else if 65 ≤ c.toNat ∧ c.toNat ≤ 70 then c.toNat - 55 else 16
theorem worth_le (c : UInt8) : worth c ≤ 16 := by unfold worth; (repeat' split) <;> omega

/-- The same, with 99 for none. -/
def digit (c : UInt8) : Nat := if 48 ≤ c.toNat ∧ c.toNat ≤ 57 then c.toNat - 48 else if 97 ≤ c.toNat ∧ c.toNat ≤ 102 then c.toNat - 87 else if 65 ≤ c.toNat ∧ c.toNat ≤ 70 then c.toNat - 55 else 99
theorem digit_worth (c : UInt8) : worth c = digit c ∧ worth c < 16 ∨ worth c = 16 ∧ digit c = 99 := by unfold worth digit; (repeat' split) <;> omega

theorem marks_hit {c : UInt8} {k : Nat} (hk : k < 15) (h : marks.getD k 0 = c) : true = tch c := by
  have hl : k < marks.length := hk
  rw [List.getD_eq_getElem?_getD, List.getElem?_eq_getElem hl] at h
  simp at h
  unfold tch
  rw [List.contains_iff_mem.2 (h ▸ List.getElem_mem hl)]; simp
theorem marks_miss {c : UInt8} (ha : alnum c = false) (h : ∀ j, j < 15 → marks.getD j 0 ≠ c) : false = tch c := by
  unfold tch
  rw [ha]
  cases hc : marks.contains c with
  | false => rfl
  | true =>
    have hm := List.contains_iff_mem.1 hc
    obtain ⟨j, hj, e⟩ := List.getElem_of_mem hm
    exact absurd (by rw [List.getD_eq_getElem?_getD, List.getElem?_eq_getElem hj]; simpa using e) (h j hj)
theorem marks_ix {c : UInt8} (ha : alnum c = false) : decide (0 ≤ Go.Lib.indexByte [33, 35, 36, 37, 38, 39, 42, 43, 45, 46, 94, 95, 96, 124, 126] c) = tch c := by
  have := all_octets (fun c => alnum c || decide (0 ≤ Go.Lib.indexByte [33, 35, 36, 37, 38, 39, 42, 43, 45, 46, 94, 95, 96, 124, 126] c) == tch c) (by decide +kernel) c
  simpa [ha] using this

/-- All of a text's octets pass (behind a name of its own, which the walk leaves as it stands). -/
def allOf (p : UInt8 → Bool) (l : List UInt8) : Bool := l.all p
/- The octets of a string, one further. -/
theorem take_snoc (s : ByteArray) (k : Nat) (h : k < s.size) : s.data.toList.take (k + 1) = s.data.toList.take k ++ [s[k]] := by
  rw [List.take_succ_eq_append_getElem (by simpa using h)]; rfl
theorem all_snoc (p : UInt8 → Bool) (s : ByteArray) (k : Nat) (h : k < s.size) : allOf p (s.data.toList.take (k + 1)) = (allOf p (s.data.toList.take k) && p s[k]) := by
  unfold allOf; rw [take_snoc s k h]; simp
theorem take_all (s : ByteArray) (k : Nat) (h : s.size ≤ k) : s.data.toList.take k = s.data.toList := List.take_of_length_le (by simpa using h)
theorem all_miss (p : UInt8 → Bool) (s : ByteArray) (k : Nat) (h : k < s.size) (hp : p s[k] = false) : allOf p s.data.toList = false := by
  unfold allOf
  rw [List.all_eq_false]
  refine ⟨s[k], ?_, by rw [hp]; simp⟩
  show s.data[k] ∈ s.data.toList
  exact Array.getElem_mem_toList (by simpa using h)
theorem length_size (s : ByteArray) : s.data.toList.length = s.size := by simp
theorem token_size (s : ByteArray) : token s.data.toList = (decide ((0 : Int) < s.size) && allOf tch s.data.toList) := by
  unfold token allOf
  congr 1
  rw [Bool.eq_iff_iff]
  simp only [Bool.not_eq_true', List.isEmpty_eq_false_iff, decide_eq_true_eq, ne_eq]
  rw [← List.length_eq_zero_iff, length_size]; omega
theorem token_str (s : ByteArray) : token s.data.toList = (!s.toList.isEmpty && allOf tch s.data.toList) := by
  rw [Go.Lib.toList_data]; rfl

end Oct
