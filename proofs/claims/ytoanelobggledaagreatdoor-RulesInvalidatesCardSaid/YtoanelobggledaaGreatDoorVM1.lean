/- What lies below, out of the texts of the layers under this one: OctMath, OctMathB, OctMathC, OctMathD, OctMathE, OctMathF, OctMathG. -/
import Derived.Laws.RangeString
import Derived.Lib.Bytealg
import Derived.Lib.FieldsP
import Derived.Lib.IndexBytes
import Derived.Lib.IndexMore
import Derived.Lib.ItoaNum
import Derived.Lib.SlTrimSet
namespace Oct

def plain (c : UInt8) : Bool := c == 9 || (decide (32 ≤ c) && c != 127)
def blank (c : UInt8) : Bool := c == 32 || c == 9
def marks : List UInt8 := [33, 35, 36, 37, 38, 39, 42, 43, 45, 46, 94, 95, 96, 124, 126]
def alnum (c : UInt8) : Bool := (decide (97 ≤ c) && decide (c ≤ 122)) || (decide (65 ≤ c) && decide (c ≤ 90)) || (decide (48 ≤ c) && decide (c ≤ 57))
def tch (c : UInt8) : Bool := alnum c || marks.contains c
def token (l : List UInt8) : Bool := !l.isEmpty && l.all tch
def trim (l : List UInt8) : List UInt8 := Go.Lib.trimS l [32, 9]
def value (l : List UInt8) : Bool := l.all plain && trim l == l
def low (c : UInt8) : UInt8 := if 65 ≤ c ∧ c ≤ 90 then c + 32 else c
def lower (l : List UInt8) : List UInt8 := l.map low
theorem nat8 (c : UInt8) (n : UInt8) : (c == n) = ((c.toNat : Int) == (n.toNat : Int)) := by
  rw [Bool.eq_iff_iff, beq_iff_eq, beq_iff_eq, ← UInt8.toNat_inj]; omega
theorem le8 (c n : UInt8) : decide (c ≤ n) = decide ((c.toNat : Int) ≤ (n.toNat : Int)) := by
  rw [Bool.eq_iff_iff, decide_eq_true_iff, decide_eq_true_iff, UInt8.le_iff_toNat_le]; omega
theorem plain_int (c : UInt8) : plain c = ((c.toNat : Int) == 9 || (decide (32 ≤ (c.toNat : Int)) && !((c.toNat : Int) == 127))) := by
  unfold plain; rw [bne, nat8, nat8, le8]; rfl
theorem blank_int (c : UInt8) : blank c = ((c.toNat : Int) == 32 || (c.toNat : Int) == 9) := by
  unfold blank; rw [nat8, nat8]; rfl
theorem alnum_int (c : UInt8) : alnum c = ((decide (97 ≤ (c.toNat : Int)) && decide ((c.toNat : Int) ≤ 122)) || (decide (65 ≤ (c.toNat : Int)) && decide ((c.toNat : Int) ≤ 90)) || (decide (48 ≤ (c.toNat : Int)) && decide ((c.toNat : Int) ≤ 57))) := by
  unfold alnum; rw [le8, le8, le8, le8, le8, le8]; rfl
theorem blank_eq (c : UInt8) : ([32, 9] : List UInt8).contains c = blank c := by
  simp [blank, List.contains, List.elem]
  cases h : (c == 32) <;> cases h' : (c == 9) <;> simp_all
def dropL (l : List UInt8) : List UInt8 := l.dropWhile blank
def dropR (l : List UInt8) : List UInt8 := (l.reverse.dropWhile blank).reverse
theorem trimL_eq (l : List UInt8) : Go.Lib.trimLeftS l [32, 9] = dropL l := by
  unfold Go.Lib.trimLeftS dropL; congr 1; funext c; exact blank_eq c
theorem trimR_eq (l : List UInt8) : Go.Lib.trimRightS l [32, 9] = dropR l := by
  unfold Go.Lib.trimRightS dropR; congr 2; funext c; exact blank_eq c
theorem trim_eq (l : List UInt8) : trim l = dropL (dropR l) := by
  unfold trim Go.Lib.trimS; rw [trimL_eq, trimR_eq]
theorem dropL_cons_blank (c : UInt8) (l : List UInt8) (h : blank c = true) : dropL (c :: l) = dropL l := by simp [dropL, h]
theorem dropL_cons_not (c : UInt8) (l : List UInt8) (h : blank c = false) : dropL (c :: l) = c :: l := by simp [dropL, h]
theorem dropR_append_blank (c : UInt8) (l : List UInt8) (h : blank c = true) : dropR (l ++ [c]) = dropR l := by simp [dropR, h]
theorem dropR_append_not (c : UInt8) (l : List UInt8) (h : blank c = false) : dropR (l ++ [c]) = l ++ [c] := by simp [dropR, h]
theorem dropR_nil : dropR [] = [] := rfl
theorem snoc_cases (l : List UInt8) : l = [] ∨ ∃ i c, l = i ++ [c] := by
  cases h : l.reverse with
  | nil => left; simpa using h
  | cons c r => right; refine ⟨r.reverse, c, ?_⟩; have := congrArg List.reverse h; simpa using this
theorem snoc_ind {P : List UInt8 → Prop} (h0 : P []) (h1 : ∀ l c, P l → P (l ++ [c])) (l : List UInt8) : P l := by
  have : ∀ r : List UInt8, P r.reverse := by
    intro r
    induction r with
    | nil => simpa using h0
    | cons c r ih => rw [List.reverse_cons]; exact h1 _ _ ih
  simpa using this l.reverse
theorem dropL_len (l : List UInt8) : (dropL l).length ≤ l.length := by
  unfold dropL; exact (List.dropWhile_sublist _).length_le
theorem dropR_len (l : List UInt8) : (dropR l).length ≤ l.length := by
  unfold dropR
  rw [List.length_reverse]
  have := (List.dropWhile_sublist (p := blank) (l := l.reverse)).length_le
  simpa using this
theorem dropL_fix (l : List UInt8) : dropL l = l ↔ (∀ c r, l = c :: r → blank c = false) := by
  constructor
  · intro h c r e
    subst e
    cases hb : blank c with
    | false => rfl
    | true =>
      rw [dropL_cons_blank c r hb] at h
      have := dropL_len r
      rw [h] at this; simp at this; omega
  · intro h
    cases l with
    | nil => rfl
    | cons c r => exact dropL_cons_not c r (h c r rfl)
theorem dropR_fix (l : List UInt8) : dropR l = l ↔ (∀ i c, l = i ++ [c] → blank c = false) := by
  constructor
  · intro h i c e
    subst e
    cases hb : blank c with
    | false => rfl
    | true =>
      rw [dropR_append_blank c i hb] at h
      have := dropR_len i
      rw [h] at this; simp at this; omega
  · intro h
    rcases snoc_cases l with rfl | ⟨i, c, rfl⟩
    · rfl
    · exact dropR_append_not c i (h i c rfl)
theorem dropR_idem (l : List UInt8) : dropR (dropR l) = dropR l := by
  refine snoc_ind (P := fun l => dropR (dropR l) = dropR l) rfl (fun l c ih => ?_) l
  cases hb : blank c with
  | true => rw [dropR_append_blank c l hb]; exact ih
  | false => rw [dropR_append_not c l hb, dropR_append_not c l hb]
theorem dropR_last (l : List UInt8) : ∀ i c, dropR l = i ++ [c] → blank c = false := (dropR_fix _).1 (dropR_idem l)
theorem dropL_blanks (b l : List UInt8) (h : b.all blank = true) : dropL (b ++ l) = dropL l := by
  induction b with
  | nil => rfl
  | cons c b ih =>
    simp only [List.all_cons, Bool.and_eq_true] at h
    rw [List.cons_append, dropL_cons_blank _ _ h.1, ih h.2]
theorem dropR_blanks (b l : List UInt8) (h : b.all blank = true) : dropR (l ++ b) = dropR l := by
  revert h
  refine snoc_ind (P := fun b => b.all blank = true → dropR (l ++ b) = dropR l) (fun _ => by simp) (fun b c ih h => ?_) b
  simp only [List.all_append, List.all_cons, List.all_nil, Bool.and_true, Bool.and_eq_true] at h
  rw [← List.append_assoc, dropR_append_blank _ _ h.2, ih h.1]
theorem dropL_all (l : List UInt8) (h : l.all blank = true) : dropL l = [] := by
  have := dropL_blanks l [] h; simpa [dropL] using this
theorem dropR_all (l : List UInt8) (h : l.all blank = true) : dropR l = [] := by
  have := dropR_blanks l [] h; simpa [dropR] using this
theorem dropL_eq_nil (l : List UInt8) (h : dropL l = []) : l.all blank = true := by
  induction l with
  | nil => rfl
  | cons c l ih =>
    cases hb : blank c with
    | true => rw [dropL_cons_blank c l hb] at h; simp [hb, ih h]
    | false => rw [dropL_cons_not c l hb] at h; cases h
theorem dropR_eq_nil (l : List UInt8) (h : dropR l = []) : l.all blank = true := by
  unfold dropR at h
  have h' : l.reverse.dropWhile blank = [] := by simpa using h
  have := dropL_eq_nil l.reverse h'
  simpa using this
theorem trim_eq_nil (l : List UInt8) : trim l = [] ↔ l.all blank = true := by
  constructor
  · intro h
    rw [trim_eq] at h
    have h1 := dropL_eq_nil _ h
    by_cases he : dropR l = []
    · exact dropR_eq_nil l he
    · rcases snoc_cases (dropR l) with h0 | ⟨i, c, hc⟩
      · exact absurd h0 he
      · have := dropR_last l i c hc
        rw [hc] at h1; simp [this] at h1
  · intro h; rw [trim_eq, dropR_all l h]; rfl
theorem dropL_dropR (l : List UInt8) : dropL (dropR l) = dropR (dropL l) := by
  by_cases h : l.all blank = true
  · rw [dropR_all l h, dropL_all l h]; rfl
  · induction l with
    | nil => rfl
    | cons c l ih =>
      cases hb : blank c with
      | true =>
        have hl : ¬ l.all blank = true := by intro h'; exact h (by simp [hb, h'])
        have hne : dropR l ≠ [] := fun e => hl (dropR_eq_nil l e)
        have hcr : dropR (c :: l) = c :: dropR l := by
          unfold dropR
          rw [List.reverse_cons]
          have hd : ∀ (a b : List UInt8), a.dropWhile blank ≠ [] → (a ++ b).dropWhile blank = a.dropWhile blank ++ b := by
            intro a b
            induction a with
            | nil => intro h; simp at h
            | cons x a ih =>
              intro h
              cases hx : blank x with
              | true => simp [hx] at h ⊢; exact ih h
              | false => simp [hx]
          rw [hd l.reverse [c] (by intro e; exact hne (by unfold dropR; rw [e]; rfl))]
          simp
        rw [hcr, dropL_cons_blank _ _ hb, dropL_cons_blank _ _ hb]
        exact ih hl
      | false =>
        rw [dropL_cons_not c l hb]
        refine (dropL_fix _).2 ?_
        intro d r e
        rcases snoc_cases l with h0 | ⟨i, x, hx⟩
        · subst h0
          have : dropR [c] = [c] := dropR_append_not c [] hb
          rw [this] at e; cases e; exact hb
        · have hpre : dropR (c :: l) <+: (c :: l) := by
            unfold dropR
            have := List.dropWhile_suffix blank (l := (c :: l).reverse)
            have := List.reverse_prefix.2 this
            simpa using this
          rw [e] at hpre
          have := hpre
          rcases this with ⟨t, ht⟩
          simp at ht
          rw [ht.1]; exact hb
theorem trim_eq' (l : List UInt8) : trim l = dropR (dropL l) := by rw [trim_eq, dropL_dropR]
theorem low_low (c : UInt8) : low (low c) = low c := by
  unfold low
  by_cases h : 65 ≤ c ∧ c ≤ 90
  · have h2 : ¬ (65 ≤ c + 32 ∧ c + 32 ≤ 90) := by
      have h3 : (c + 32).toNat = c.toNat + 32 := by
        rw [UInt8.toNat_add]; have := UInt8.le_iff_toNat_le.1 h.2; simp at this; simp; omega
      rintro ⟨_, h4⟩
      have a := UInt8.le_iff_toNat_le.1 h.1
      have b := UInt8.le_iff_toNat_le.1 h4
      rw [h3] at b; simp at a b; omega
    rw [if_pos h, if_neg h2]
  · rw [if_neg h, if_neg h]
theorem lower_lower (l : List UInt8) : lower (lower l) = lower l := by simp [lower, low_low]
theorem lower_length (l : List UInt8) : (lower l).length = l.length := by simp [lower]
theorem all_octets (p : UInt8 → Bool) (h : (List.range 256).all (fun n => p (UInt8.ofNat n)) = true) (c : UInt8) : p c = true := by
  have := List.all_eq_true.1 h c.toNat (by simp; exact c.toNat_lt)
  simpa using this
def worth (c : UInt8) : Nat := if 48 ≤ c.toNat ∧ c.toNat ≤ 57 then c.toNat - 48 else if 97 ≤ c.toNat ∧ c.toNat ≤ 102 then c.toNat - 87 else if 65 ≤ c.toNat ∧ c.toNat ≤ 70 then c.toNat - 55 else 16
theorem worth_le (c : UInt8) : worth c ≤ 16 := by unfold worth; (repeat' split) <;> omega
def digit (c : UInt8) : Nat := if 48 ≤ c.toNat ∧ c.toNat ≤ 57 then c.toNat - 48 else if 97 ≤ c.toNat ∧ c.toNat ≤ 102 then c.toNat - 87 else if 65 ≤ c.toNat ∧ c.toNat ≤ 70 then c.toNat - 55 else 99
theorem digit_worth (c : UInt8) : worth c = digit c ∧ worth c < 16 ∨ worth c = 16 ∧ digit c = 99 := by unfold worth digit; (repeat' split) <;> omega
theorem marks_hit {c : UInt8} {k : Nat} (hk : k < 15) (h : marks.getD k 0 = c) : true = tch c := by
  have hl : k < marks.length := hk
  rw [List.getD_eq_getElem?_getD, List.getElem?_eq_getElem hl] at h
  simp at h
  unfold tch
  rw [List.contains_iff_mem.2 (h ▸ List.getElem_mem hl)]; simp
theorem marks_miss {c : UInt8} (ha : alnum c = false) (h : ∀ j, j < 15 → marks.getD j 0 ≠ c) : false = tch c := by
  unfold tch
  rw [ha]
  cases hc : marks.contains c with
  | false => rfl
  | true =>
    have hm := List.contains_iff_mem.1 hc
    obtain ⟨j, hj, e⟩ := List.getElem_of_mem hm
    exact absurd (by rw [List.getD_eq_getElem?_getD, List.getElem?_eq_getElem hj]; simpa using e) (h j hj)
theorem marks_ix {c : UInt8} (ha : alnum c = false) : decide (0 ≤ Go.Lib.indexByte [33, 35, 36, 37, 38, 39, 42, 43, 45, 46, 94, 95, 96, 124, 126] c) = tch c := by
  have := all_octets (fun c => alnum c || decide (0 ≤ Go.Lib.indexByte [33, 35, 36, 37, 38, 39, 42, 43, 45, 46, 94, 95, 96, 124, 126] c) == tch c) (by decide +kernel) c
  simpa [ha] using this
def allOf (p : UInt8 → Bool) (l : List UInt8) : Bool := l.all p
theorem take_snoc (s : ByteArray) (k : Nat) (h : k < s.size) : s.data.toList.take (k + 1) = s.data.toList.take k ++ [s[k]] := by
  rw [List.take_succ_eq_append_getElem (by simpa using h)]; rfl
theorem all_snoc (p : UInt8 → Bool) (s : ByteArray) (k : Nat) (h : k < s.size) : allOf p (s.data.toList.take (k + 1)) = (allOf p (s.data.toList.take k) && p s[k]) := by
  unfold allOf; rw [take_snoc s k h]; simp
theorem take_all (s : ByteArray) (k : Nat) (h : s.size ≤ k) : s.data.toList.take k = s.data.toList := List.take_of_length_le (by simpa using h)
theorem all_miss (p : UInt8 → Bool) (s : ByteArray) (k : Nat) (h : k < s.size) (hp : p s[k] = false) : allOf p s.data.toList = false := by
  unfold allOf
  rw [List.all_eq_false]
  refine ⟨s[k], ?_, by rw [hp]; simp⟩
  show s.data[k] ∈ s.data.toList
  exact Array.getElem_mem_toList (by simpa using h)
theorem length_size (s : ByteArray) : s.data.toList.length = s.size := by simp
theorem token_str (s : ByteArray) : token s.data.toList = (!s.toList.isEmpty && allOf tch s.data.toList) := by
  rw [Go.Lib.toList_data]; rfl
end Oct

namespace Oct

theorem trim_len (l : List UInt8) : (trim l).length ≤ l.length := by
  rw [trim_eq]; exact Nat.le_trans (dropL_len _) (dropR_len _)
theorem cons_first (t : ByteArray) (h : 0 < t.size) : t.data.toList = t[0] :: t.data.toList.drop 1 := by
  have hl : 0 < t.data.toList.length := by rw [length_size]; exact h
  have := List.drop_eq_getElem_cons hl
  rw [List.drop_zero] at this
  exact this
theorem snoc_last (t : ByteArray) (h : 0 < t.size) : t.data.toList = t.data.toList.take (t.size - 1) ++ [t[t.size - 1]] := by
  have := take_snoc t (t.size - 1) (by omega)
  rw [← this, show t.size - 1 + 1 = t.size by omega]
  exact (take_all t t.size (Nat.le_refl _)).symm
theorem cut_first (t : ByteArray) : (t.extract 1 t.size).data.toList = t.data.toList.drop 1 := by
  rw [Go.Lib.extract_data, List.take_of_length_le]
  rw [List.length_drop, length_size]; omega
theorem cut_last (t : ByteArray) : (t.extract 0 (t.size - 1)).data.toList = t.data.toList.take (t.size - 1) := by
  rw [Go.Lib.extract_data]; simp
theorem dropL_first (t : ByteArray) (h : 0 < t.size) (hp : blank t[0] = true) : dropL (t.extract 1 t.size).data.toList = dropL t.data.toList := by
  rw [cut_first]
  conv => rhs; rw [cons_first t h]
  exact (dropL_cons_blank _ _ hp).symm
theorem dropL_stop (t : ByteArray) (h : 0 < t.size) (hp : blank t[0] = false) : dropL t.data.toList = t.data.toList := by
  rw [cons_first t h]; exact dropL_cons_not _ _ hp
theorem dropR_last' (t : ByteArray) (h : 0 < t.size) (hp : blank t[t.size - 1] = true) : dropR (t.extract 0 (t.size - 1)).data.toList = dropR t.data.toList := by
  rw [cut_last]
  conv => rhs; rw [snoc_last t h]
  exact (dropR_append_blank _ _ hp).symm
theorem dropR_stop (t : ByteArray) (h : 0 < t.size) (hp : blank t[t.size - 1] = false) : dropR t.data.toList = t.data.toList := by
  rw [snoc_last t h]; exact dropR_append_not _ _ hp
theorem empty_list (t : ByteArray) (h : ¬ 0 < t.size) : t.data.toList = [] := by
  apply List.eq_nil_of_length_eq_zero; rw [length_size]; omega
theorem size_zero (t : ByteArray) (h : t.size = 0) : t = ByteArray.empty := by
  obtain ⟨⟨l⟩⟩ := t
  have : l = [] := List.eq_nil_of_length_eq_zero h
  subst this; rfl
theorem lower_snoc (s : ByteArray) (k : Nat) (h : k < s.size) : lower (s.data.toList.take (k + 1)) = lower (s.data.toList.take k) ++ [low s[k]] := by
  rw [take_snoc s k h]; simp [lower]
theorem low_yes (c : UInt8) (h1 : (65 : Int) ≤ c.toNat) (h2 : (c.toNat : Int) ≤ 90) : (c.toNat : Int) + 32 = ((low c).toNat : Int) := by
  have : low c = c + 32 := by
    unfold low; rw [if_pos]
    exact ⟨UInt8.le_iff_toNat_le.2 (by show 65 ≤ _; omega), UInt8.le_iff_toNat_le.2 (by show _ ≤ 90; omega)⟩
  rw [this, UInt8.toNat_add]
  have : (32 : UInt8).toNat = 32 := rfl
  rw [this]; omega
theorem low_no (c : UInt8) (h : ¬ ((65 : Int) ≤ c.toNat ∧ (c.toNat : Int) ≤ 90)) : (c.toNat : Int) = ((low c).toNat : Int) := by
  have : low c = c := by
    unfold low; rw [if_neg]
    rintro ⟨h1, h2⟩
    have a := UInt8.le_iff_toNat_le.1 h1
    have b := UInt8.le_iff_toNat_le.1 h2
    exact h ⟨by have : (65 : UInt8).toNat = 65 := rfl; omega, by have : (90 : UInt8).toNat = 90 := rfl; omega⟩
  rw [this]
def lowTo (l : List UInt8) (k : Nat) : List UInt8 := lower (l.take k) ++ l.drop k
theorem lowTo_zero (l : List UInt8) : lowTo l 0 = l := by simp [lowTo, lower]
theorem lowTo_length (l : List UInt8) (k : Nat) : (lowTo l k).length = l.length := by simp [lowTo, lower]; omega
theorem lowTo_all (s : ByteArray) : lowTo s.data.toList s.size = lower s.data.toList := by
  unfold lowTo; rw [take_all s s.size (Nat.le_refl _), List.drop_of_length_le (by rw [length_size]; omega), List.append_nil]
theorem drop_cons (s : ByteArray) (k : Nat) (h : k < s.size) : s.data.toList.drop k = s[k] :: s.data.toList.drop (k + 1) := by
  rw [List.drop_eq_getElem_cons (by rw [length_size]; exact h)]; rfl
theorem lowTo_at (s : ByteArray) (k : Nat) (h : k < s.size) {hk : k < (lowTo s.data.toList k).length} : (lowTo s.data.toList k)[k] = s[k] := by
  have e : (lowTo s.data.toList k)[k]? = some s[k] := by
    unfold lowTo
    rw [drop_cons s k h, List.getElem?_append_right (by rw [lower_length, List.length_take]; omega)]
    rw [lower_length, List.length_take, length_size, show k - min k s.size = 0 by omega]; rfl
  rw [List.getElem?_eq_getElem hk] at e
  exact Option.some.inj e
theorem lowTo_next (s : ByteArray) (k : Nat) (h : k < s.size) : lowTo s.data.toList (k + 1) = (lowTo s.data.toList k).set k (low s[k]) := by
  unfold lowTo
  rw [lower_snoc s k h, drop_cons s k h, List.set_append_right _ _ (by rw [lower_length, List.length_take]; omega)]
  rw [lower_length, List.length_take, length_size, show k - min k s.size = 0 by omega]
  simp
theorem lowTo_same (s : ByteArray) (k : Nat) (h : k < s.size) (hn : ¬ ((65 : Int) ≤ s[k].toNat ∧ (s[k].toNat : Int) ≤ 90)) : lowTo s.data.toList (k + 1) = lowTo s.data.toList k := by
  have e : low s[k] = s[k] := UInt8.toNat_inj.1 (by have := low_no s[k] hn; omega)
  rw [lowTo_next s k h, e]
  have := lowTo_at s k h (hk := by rw [lowTo_length, length_size]; exact h)
  conv => lhs; rw [← this]
  exact List.set_getElem_self _
end Oct

namespace Oct

theorem all_at (p : UInt8 → Bool) (s : ByteArray) (k : Nat) (h : k < s.size) (ha : allOf p s.data.toList = true) : p s[k] = true := by
  have := List.all_eq_true.1 ha s[k] (Array.getElem_mem_toList (by simpa using h))
  exact this
theorem nonempty (s : ByteArray) (h : 0 < s.size) : s.toList.isEmpty = false := by
  rw [Go.Lib.toList_data, cons_first s h]; rfl
def esc (c : UInt8) : List UInt8 := if c = 34 ∨ c = 92 then [92, c] else [c]
def unq : Bool → List UInt8 → Option (List UInt8 × Nat)
  | _, [] => none
  | e, c :: r =>
    if plain c = false then none
    else if e then (unq false r).map fun x => (c :: x.1, x.2 + 1)
    else if c = 92 then (unq true r).map fun x => (x.1, x.2 + 1)
    else if c = 34 then some ([], 1)
    else (unq false r).map fun x => (c :: x.1, x.2 + 1)
def unquote : List UInt8 → Option (List UInt8 × Nat)
  | [] => none
  | c :: r => if c = 34 then (unq false r).map fun x => (x.1, x.2 + 1) else none
def unqAt (acc : List UInt8) (k : Nat) (e : Bool) (r : List UInt8) : Option (List UInt8 × Nat) := (unq e r).map fun x => (acc ++ x.1, k + x.2)
theorem unqAt_nil (acc : List UInt8) (k : Nat) (e : Bool) : unqAt acc k e [] = none := rfl
theorem unqAt_bad (acc : List UInt8) (k : Nat) (e : Bool) (c : UInt8) (r : List UInt8) (h : plain c = false) : unqAt acc k e (c :: r) = none := by
  simp [unqAt, unq, h]
theorem unqAt_esc (acc : List UInt8) (k : Nat) (c : UInt8) (r : List UInt8) (h : plain c = true) : unqAt acc k true (c :: r) = unqAt (acc ++ [c]) (k + 1) false r := by
  simp only [unqAt, unq, h, Bool.true_eq_false, if_false, if_true, Option.map_map]
  congr 1; funext x; simp; omega
theorem unqAt_mark (acc : List UInt8) (k : Nat) (r : List UInt8) : unqAt acc k false (92 :: r) = unqAt acc (k + 1) true r := by
  have : plain 92 = true := rfl
  simp only [unqAt, unq, this, Bool.true_eq_false, if_false]
  simp only [Bool.false_eq_true, if_false, if_true, Option.map_map]
  congr 1; funext x; simp; omega
theorem unqAt_end (acc : List UInt8) (k : Nat) (r : List UInt8) : unqAt acc k false (34 :: r) = some (acc, k + 1) := by
  have : plain 34 = true := rfl
  simp [unqAt, unq, this]
theorem unqAt_plain (acc : List UInt8) (k : Nat) (c : UInt8) (r : List UInt8) (h : plain c = true) (h1 : c ≠ 92) (h2 : c ≠ 34) : unqAt acc k false (c :: r) = unqAt (acc ++ [c]) (k + 1) false r := by
  simp only [unqAt, unq, h, Bool.true_eq_false, if_false, if_neg h1, if_neg h2, Option.map_map, Bool.false_eq_true]
  congr 1; funext x; simp; omega
theorem unquote_not (s : ByteArray) (h : ¬ 0 < s.size) : unquote s.data.toList = none := by rw [empty_list s h]; rfl
theorem unquote_not' (s : ByteArray) (h : 0 < s.size) (h0 : ¬ (s[0].toNat : Int) = 34) : unquote s.data.toList = none := by
  rw [cons_first s h]
  have : s[0] ≠ 34 := fun e => h0 (by rw [e]; rfl)
  simp only [unquote, if_neg this]
theorem unquote_at (s : ByteArray) (h : 0 < s.size) (h0 : (s[0].toNat : Int) = 34) : unquote s.data.toList = unqAt [] 1 false (s.data.toList.drop 1) := by
  rw [cons_first s h]
  have : s[0] = 34 := UInt8.toNat_inj.1 (by show _ = 34; omega)
  simp only [unquote, this, if_true, unqAt, List.drop_succ_cons, List.drop_zero, List.nil_append]
  congr 1; funext x; rw [Nat.add_comm]
end Oct

namespace Oct

def dig (b : Nat) (c : UInt8) : Bool := decide (worth c < b)
def num (b : Nat) (most : Int) : Int → List UInt8 → Option Int
  | n, [] => some n
  | n, c :: r => if most < n * b + worth c then none else num b most (n * b + worth c) r
def number (b : Nat) (most : Int) (l : List UInt8) : Int × Int :=
  if l = [] ∨ allOf (dig b) l = false then (0, 10) else if most < 0 then (0, 12) else match num b most 0 l with
    | none => (0, 12)
    | some n => (n, 0)
theorem number_empty (b : Nat) (most : Int) (s : ByteArray) (h : ¬ 0 < s.size) : number b most s.data.toList = (0, 10) := by
  unfold number; rw [empty_list s h]; simp
theorem number_bad (b : Nat) (most : Int) (l : List UInt8) (h : allOf (dig b) l = false) : number b most l = (0, 10) := by
  unfold number; simp [h]
theorem number_neg (b : Nat) (most : Int) (s : ByteArray) (h : 0 < s.size) (hd : allOf (dig b) s.data.toList = true) (hm : most < 0) : number b most s.data.toList = (0, 12) := by
  unfold number
  have : ¬ (s.data.toList = [] ∨ allOf (dig b) s.data.toList = false) := by rw [hd, cons_first s h]; simp
  rw [if_neg this, if_pos hm]
theorem number_num (b : Nat) (most : Int) (s : ByteArray) (h : 0 < s.size) (hd : allOf (dig b) s.data.toList = true) (hm : 0 ≤ most) : number b most s.data.toList = match num b most 0 s.data.toList with | none => (0, 12) | some n => (n, 0) := by
  unfold number
  have : ¬ (s.data.toList = [] ∨ allOf (dig b) s.data.toList = false) := by rw [hd, cons_first s h]; simp
  rw [if_neg this, if_neg (by omega)]
theorem num_none (b : Nat) (most : Int) (s : ByteArray) (h : 0 < s.size) (hd : allOf (dig b) s.data.toList = true) (hm : 0 ≤ most) (hn : num b most 0 s.data.toList = none) : number b most s.data.toList = (0, 12) := by
  rw [number_num b most s h hd hm, hn]
theorem num_some (b : Nat) (most : Int) (s : ByteArray) (h : 0 < s.size) (hd : allOf (dig b) s.data.toList = true) (hm : 0 ≤ most) {n : Int} (hn : num b most 0 s.data.toList = some n) : number b most s.data.toList = (n, 0) := by
  rw [number_num b most s h hd hm, hn]
theorem num_more (b : Nat) (most n : Int) (c : UInt8) (r : List UInt8) (h : most < n * b + worth c) : num b most n (c :: r) = none := by simp only [num]; rw [if_pos h]
theorem num_on (b : Nat) (most n : Int) (c : UInt8) (r : List UInt8) (h : ¬ most < n * b + worth c) : num b most n (c :: r) = num b most (n * b + worth c) r := by simp only [num]; rw [if_neg h]
theorem num_nil (b : Nat) (most n : Int) : num b most n [] = some n := rfl
theorem dig_lt (b : Nat) {c : UInt8} (h : dig b c = true) : worth c < b := by simpa [dig] using h
theorem worth_nat {c : UInt8} : worth c = worth c := rfl
theorem dig_digit (b : Nat) (_hb : b ≤ 16) {c : UInt8} (h : dig b c = true) : (digit c : Int) < b := by
  have h1 := dig_lt b h
  rcases digit_worth c with ⟨h2, _⟩ | ⟨h2, _⟩ <;> omega
theorem digit_eq (b : Nat) (_hb : b ≤ 16) {c : UInt8} (h : dig b c = true) : worth c = digit c := by
  have h1 := dig_lt b h
  rcases digit_worth c with ⟨h2, _⟩ | ⟨h2, _⟩ <;> omega
theorem digit_dig (b : Nat) (_hb : b ≤ 16) {c : UInt8} (h : dig b c = false) : (b : Int) ≤ digit c := by
  have h1 : ¬ worth c < b := by simpa [dig] using h
  rcases digit_worth c with ⟨h2, _⟩ | ⟨h2, _⟩ <;> omega
end Oct

namespace Oct

def emit (l : List UInt8) : List (List UInt8) := if trim l = [] then [] else [trim l]
theorem emit_no {l : List UInt8} (h : trim l = []) : emit l = [] := by unfold emit; rw [if_pos h]
theorem emit_yes {l : List UInt8} (h : ¬ trim l = []) : emit l = [trim l] := by unfold emit; rw [if_neg h]
def nq (q e : Bool) (c : UInt8) : Bool × Bool := if e then (q, false) else if q && c == 92 then (q, true) else if c == 34 then (!q, false) else (q, false)
theorem u8_eq {c : UInt8} {n : UInt8} (h : (c.toNat : Int) = n.toNat) : c = n := UInt8.toNat_inj.1 (by omega)
theorem nq_esc (q : Bool) (c : UInt8) : nq q true c = (q, false) := rfl
theorem nq_quote (q : Bool) (c : UInt8) (h : (c.toNat : Int) = 34) : nq q false c = (!q, false) := by
  rw [u8_eq (n := 34) h]; cases q <;> rfl
theorem nq_mark (c : UInt8) (h : (c.toNat : Int) = 92) : nq true false c = (true, true) := by
  rw [u8_eq (n := 92) h]; rfl
theorem nq_out (c : UInt8) (h : ¬ (c.toNat : Int) = 34) : nq false false c = (false, false) := by
  have : (c == 34) = false := beq_eq_false_iff_ne.2 (fun e => h (by rw [e]; rfl))
  simp [nq, this]
theorem nq_else (q : Bool) (c : UInt8) (h : ¬ (c.toNat : Int) = 34) (h2 : ¬ (c.toNat : Int) = 92) : nq q false c = (q, false) := by
  have h1 : (c == 34) = false := beq_eq_false_iff_ne.2 (fun e => h (by rw [e]; rfl))
  have h3 : (c == 92) = false := beq_eq_false_iff_ne.2 (fun e => h2 (by rw [e]; rfl))
  simp [nq, h1, h3]
def scan1 (st : List (List UInt8) × List UInt8 × Bool × Bool) (c : UInt8) : List (List UInt8) × List UInt8 × Bool × Bool :=
  if (nq st.2.2.1 st.2.2.2 c).1 = false ∧ c = 44 then (st.1 ++ emit st.2.1, [], nq st.2.2.1 st.2.2.2 c) else (st.1, st.2.1 ++ [c], nq st.2.2.1 st.2.2.2 c)
def scan (l : List UInt8) : List (List UInt8) × List UInt8 × Bool × Bool := l.foldl scan1 ([], [], false, false)
def splitText (l : List UInt8) : List (List UInt8) := (scan l).1 ++ emit (scan l).2.1
def splitAll (ls : List (List UInt8)) : List (List UInt8) := ls.flatMap splitText
theorem scan_snoc (s : ByteArray) (k : Nat) (h : k < s.size) : scan (s.data.toList.take (k + 1)) = scan1 (scan (s.data.toList.take k)) s[k] := by
  unfold scan; rw [take_snoc s k h, List.foldl_append]; rfl
def At (s : ByteArray) (f k : Nat) (out : List (List UInt8)) (q e : Bool) : Prop := f ≤ k ∧ scan (s.data.toList.take k) = (out, (s.data.toList.take k).drop f, q, e)
theorem At.zero (s : ByteArray) : At s 0 0 [] false false := ⟨Nat.le_refl 0, rfl⟩
theorem drop_snoc (s : ByteArray) (f k : Nat) (hf : f ≤ k) (h : k < s.size) : (s.data.toList.take (k + 1)).drop f = (s.data.toList.take k).drop f ++ [s[k]] := by
  rw [take_snoc s k h, List.drop_append_of_le_length]
  rw [List.length_take, length_size]; omega
theorem drop_self (s : ByteArray) (k : Nat) : (s.data.toList.take k).drop k = [] := List.drop_of_length_le (List.length_take_le k _)
theorem At.cut {s : ByteArray} {f k : Nat} {out : List (List UInt8)} {q e : Bool} (h : At s f k out q e) (hk : k < s.size) (hq : (nq q e s[k]).1 = false) (hc : s[k] = 44) : At s (k + 1) (k + 1) (out ++ emit ((s.data.toList.take k).drop f)) (nq q e s[k]).1 (nq q e s[k]).2 := by
  refine ⟨Nat.le_refl _, ?_⟩
  rw [scan_snoc s k hk, h.2, drop_self]
  unfold scan1
  rw [if_pos ⟨hq, hc⟩]
theorem At.on {s : ByteArray} {f k : Nat} {out : List (List UInt8)} {q e : Bool} (h : At s f k out q e) (hk : k < s.size) (hq : ¬ ((nq q e s[k]).1 = false ∧ s[k] = 44)) : At s f (k + 1) out (nq q e s[k]).1 (nq q e s[k]).2 := by
  refine ⟨Nat.le_succ_of_le h.1, ?_⟩
  rw [scan_snoc s k hk, h.2, drop_snoc s f k h.1 hk]
  unfold scan1
  rw [if_neg hq]
theorem At.done {s : ByteArray} {f : Nat} {out : List (List UInt8)} {q e : Bool} (h : At s f s.size out q e) : splitText s.data.toList = out ++ emit (s.data.toList.drop f) := by
  have h2 := h.2
  rw [take_all s s.size (Nat.le_refl _)] at h2
  unfold splitText; rw [h2]
theorem emit_len (l : List UInt8) : (emit l).length ≤ 1 := by unfold emit; split <;> simp
theorem scan_len : ∀ (l : List UInt8) (st : List (List UInt8) × List UInt8 × Bool × Bool), (l.foldl scan1 st).1.length ≤ st.1.length + l.length
  | [], st => by simp
  | c :: l, st => by
    have h := scan_len l (scan1 st c)
    have h1 : (scan1 st c).1.length ≤ st.1.length + 1 := by
      unfold scan1
      split
      · have := emit_len st.2.1; simp; omega
      · simp
    simp only [List.foldl_cons, List.length_cons]; omega
theorem At.len {s : ByteArray} {f k : Nat} {out : List (List UInt8)} {q e : Bool} (h : At s f k out q e) : out.length ≤ k := by
  have h1 := scan_len (s.data.toList.take k) ([], [], false, false)
  have h2 := h.2
  unfold scan at h2
  rw [h2] at h1
  have := List.length_take_le k s.data.toList
  simp only [List.length_nil] at h1; omega
theorem splitText_len (l : List UInt8) : (splitText l).length ≤ l.length + 1 := by
  have h1 := scan_len l ([], [], false, false)
  have h2 := emit_len (scan l).2.1
  unfold splitText
  rw [List.length_append]
  unfold scan at h2 ⊢
  simp only [List.length_nil] at h1; omega
theorem splitAll_len (ls : List (List UInt8)) (h : ∀ l ∈ ls, l.length ≤ 1000000) : (splitAll ls).length ≤ 1000001 * ls.length := by
  induction ls with
  | nil => simp [splitAll]
  | cons l ls ih =>
    have h1 := splitText_len l
    have h2 := h l (by simp)
    have h3 := ih (fun l' hl' => h l' (by simp [hl']))
    have e : splitAll (l :: ls) = splitText l ++ splitAll ls := by simp [splitAll]
    rw [e, List.length_append, List.length_cons]; omega
theorem splitAll_snoc (ls : List (List UInt8)) (k : Nat) (h : k < ls.length) : splitAll (ls.take (k + 1)) = splitAll (ls.take k) ++ splitText ls[k] := by
  have e := List.take_succ_eq_append_getElem h
  unfold splitAll
  rw [e, List.flatMap_append, List.flatMap_cons, List.flatMap_nil, List.append_nil]
end Oct

namespace Oct

theorem emit_blank {b : List UInt8} (h : b.all blank = true) : emit b = [] := emit_no ((trim_eq_nil b).2 h)
def JA (l : List UInt8) (W : List (List UInt8)) : Prop := ∃ cur, cur.all blank = true ∧ l.foldl scan1 ([], [], false, false) = (W, cur, false, false)
def JB (l : List UInt8) (W : List (List UInt8)) : Prop := ∀ out cur, ∃ out' cur', l.foldl scan1 (out, cur, false, false) = (out', cur', false, false) ∧ out' ++ emit cur' = out ++ emit cur ++ W
theorem join_one {a b : List UInt8} {V W : List (List UInt8)} (ha : JA a V) (hb : JB b W) : splitAll [a ++ b] = V ++ W := by
  obtain ⟨cur, hc, hf⟩ := ha
  obtain ⟨out', cur', hf', he⟩ := hb V cur
  have e : splitText (a ++ b) = V ++ W := by
    unfold splitText scan
    rw [List.foldl_append, hf, hf']
    show out' ++ emit cur' = _
    rw [he, emit_blank hc, List.append_nil]
  simp [splitAll, e]
end Oct

namespace Oct

def hexl : List UInt8 := [48, 49, 50, 51, 52, 53, 54, 55, 56, 57, 97, 98, 99, 100, 101, 102]
def ch (r : Nat) : UInt8 := hexl.getD r 0
theorem ch_small (r : Nat) (h : r < 10) : ((ch r).toNat : Int) = 48 + r := by
  rcases r with _ | _ | _ | _ | _ | _ | _ | _ | _ | _ | r
  all_goals first | rfl | omega
theorem ch_great (r : Nat) (h : 10 ≤ r) (h2 : r < 16) : ((ch r).toNat : Int) = 87 + r := by
  rcases r with _ | _ | _ | _ | _ | _ | _ | _ | _ | _ | _ | _ | _ | _ | _ | _ | r
  all_goals first | rfl | omega
theorem ch_worth (r : Nat) (h : r < 16) : worth (ch r) = r := by
  rcases r with _ | _ | _ | _ | _ | _ | _ | _ | _ | _ | _ | _ | _ | _ | _ | _ | r
  all_goals first | rfl | omega
theorem ch_at (r : Nat) (h : r < 16) {hb : r < (⟨#[48, 49, 50, 51, 52, 53, 54, 55, 56, 57, 97, 98, 99, 100, 101, 102, 103, 104, 105, 106, 107, 108, 109, 110, 111, 112, 113, 114, 115, 116, 117, 118, 119, 120, 121, 122]⟩ : ByteArray).size} : (⟨#[48, 49, 50, 51, 52, 53, 54, 55, 56, 57, 97, 98, 99, 100, 101, 102, 103, 104, 105, 106, 107, 108, 109, 110, 111, 112, 113, 114, 115, 116, 117, 118, 119, 120, 121, 122]⟩ : ByteArray)[r]'hb = ch r := by
  rcases r with _ | _ | _ | _ | _ | _ | _ | _ | _ | _ | _ | _ | _ | _ | _ | _ | r
  all_goals first | rfl | omega
def dgs (b u : Nat) : List UInt8 := if _h : u < b ∨ b < 2 then [ch u] else dgs b (u / b) ++ [ch (u % b)]
  termination_by u
  decreasing_by
    have : ¬ (u < b ∨ b < 2) := _h
    exact Nat.div_lt_self (by omega) (by omega)
theorem dgs_last {b u : Nat} (h : u < b) : dgs b u = [ch u] := by rw [dgs, dif_pos (Or.inl h)]
theorem dgs_more {b u : Nat} (hb : 2 ≤ b) (h : b ≤ u) : dgs b u = dgs b (u / b) ++ [ch (u % b)] := by rw [dgs, dif_neg (by omega)]
theorem dgs_dec (u : Nat) : Go.Lib.decDigits u = dgs 10 u := by
  induction u using Nat.strongRecOn with
  | _ u ih =>
    by_cases h : u < 10
    · rw [dgs_last h, Go.Lib.decDigits, dif_pos h]
      congr 1
      apply UInt8.toNat_inj.1
      have := ch_small u h
      rw [UInt8.toNat_ofNat']
      omega
    · rw [dgs_more (by decide) (by omega), Go.Lib.decDigits, dif_neg h, ih (u / 10) (by omega)]
      congr 2
      apply UInt8.toNat_inj.1
      have := ch_small (u % 10) (by omega)
      rw [UInt8.toNat_ofNat']
      omega
theorem dgs_dig (b : Nat) (hb : 2 ≤ b) (hb2 : b ≤ 16) (u : Nat) : allOf (dig b) (dgs b u) = true := by
  induction u using Nat.strongRecOn with
  | _ u ih =>
    by_cases h : u < b
    · rw [dgs_last h]; simp [allOf, dig, ch_worth u (by omega), h]
    · rw [dgs_more hb (by omega)]
      have h1 := ih (u / b) (Nat.div_lt_self (by omega) (by omega))
      have h2 : u % b < b := Nat.mod_lt _ (by omega)
      unfold allOf at h1 ⊢
      rw [List.all_append, h1]
      simp [dig, ch_worth (u % b) (by omega), h2]
theorem dgs_ne (b : Nat) (u : Nat) : dgs b u ≠ [] := by
  rw [dgs]; split <;> simp
theorem dgs_len16 (u : Nat) (h : u < 2 ^ 63) : (dgs 16 u).length ≤ 100 := by
  have : ∀ (k v : Nat), v < 16 ^ (k + 1) → (dgs 16 v).length ≤ k + 1 := by
    intro k
    induction k with
    | zero => intro v hv; rw [dgs_last (by simpa using hv)]; simp
    | succ k ih =>
      intro v hv
      by_cases h : v < 16
      · rw [dgs_last h]; simp
      · rw [dgs_more (by decide) (by omega), List.length_append]
        have := ih (v / 16) (by rw [Nat.pow_succ] at hv; omega)
        simp; omega
  have := this 15 u (by omega)
  omega
theorem dgs_len10 (u : Nat) (h : u < 2 ^ 63) : (dgs 10 u).length ≤ 100 := by
  have : ∀ (k v : Nat), v < 10 ^ (k + 1) → (dgs 10 v).length ≤ k + 1 := by
    intro k
    induction k with
    | zero => intro v hv; rw [dgs_last (by simpa using hv)]; simp
    | succ k ih =>
      intro v hv
      by_cases h : v < 10
      · rw [dgs_last h]; simp
      · rw [dgs_more (by decide) (by omega), List.length_append]
        have := ih (v / 10) (by rw [Nat.pow_succ] at hv; omega)
        simp; omega
  have := this 19 u (by omega)
  omega
theorem num_snoc (b : Nat) (most : Int) (l : List UInt8) (c : UInt8) : ∀ n, num b most n (l ++ [c]) = (num b most n l).bind fun m => if most < m * b + worth c then none else some (m * b + worth c) := by
  induction l with
  | nil => intro n; simp [num]
  | cons d l ih =>
    intro n
    rw [List.cons_append]
    simp only [num]
    by_cases h : most < n * b + worth d
    · rw [if_pos h, if_pos h]; rfl
    · rw [if_neg h, if_neg h]; exact ih _
theorem num_dgs (b : Nat) (hb : 2 ≤ b) (hb2 : b ≤ 16) (most : Int) (u : Nat) (hu : (u : Int) ≤ most) : num b most 0 (dgs b u) = some (u : Int) := by
  induction u using Nat.strongRecOn with
  | _ u ih =>
    by_cases h : u < b
    · rw [dgs_last h]
      simp only [num, ch_worth u (by omega)]
      rw [if_neg (by omega)]; simp
    · rw [dgs_more hb (by omega), num_snoc]
      have hd := Nat.div_add_mod u b
      have hlt : u / b < u := Nat.div_lt_self (by omega) (by omega)
      rw [ih (u / b) hlt (by omega)]
      have hm : u % b < b := Nat.mod_lt _ (by omega)
      have e : ((u / b : Nat) : Int) * b + (u % b : Nat) = u := by
        rw [← Int.natCast_mul, Nat.mul_comm, ← Int.natCast_add, hd]
      show (if most < ((u / b : Nat) : Int) * b + (worth (ch (u % b)) : Nat) then none else some (((u / b : Nat) : Int) * b + (worth (ch (u % b)) : Nat))) = _
      rw [ch_worth (u % b) (by omega), e, if_neg (by omega)]
theorem number_dgs (b : Nat) (hb : 2 ≤ b) (hb2 : b ≤ 16) (most : Int) (u : Nat) (hu : (u : Int) ≤ most) : number b most (dgs b u) = ((u : Int), 0) := by
  unfold number
  rw [if_neg (by rw [dgs_dig b hb hb2 u]; simp [dgs_ne]), if_neg (by omega), num_dgs b hb hb2 most u hu]
theorem ch_is48 (b v : Nat) (h : v % b < 10) : (48 : Int) + (v : Int) % b = ((ch (v % b)).toNat : Int) := by
  rw [ch_small _ h]; omega
theorem ch_is87 (b v : Nat) (h : 10 ≤ v % b ∧ v % b < 16) : (87 : Int) + (v : Int) % b = ((ch (v % b)).toNat : Int) := by
  rw [ch_great _ h.1 h.2]; omega
theorem step16 {v l : Nat} (h : 16 ≤ v) (hv : l ≤ 15 ∧ v < 16 ^ (16 - l)) : l + 1 ≤ 15 ∧ v / 16 < 16 ^ (16 - (l + 1)) := by
  have h1 : l + 1 ≤ 15 := by
    rcases Nat.lt_or_ge l 15 with h2 | h2
    · omega
    · have e : l = 15 := by omega
      subst e
      have : v < 16 ^ 1 := hv.2
      omega
  refine ⟨h1, ?_⟩
  have e : 16 - l = (16 - (l + 1)) + 1 := by omega
  have h3 := hv.2
  rw [e, Nat.pow_succ] at h3
  omega
def base (b : Int) : Nat := if b = 16 then 16 else 10
def print (n b : Int) : List UInt8 := dgs (base b) n.toNat
end Oct

namespace Dt

def lp (y : Int) : Int := if y % 4 = 0 ∧ (y % 100 ≠ 0 ∨ y % 400 = 0) then 1 else 0
theorem lp_01 (y : Int) : 0 ≤ lp y ∧ lp y ≤ 1 := by unfold lp; split <;> omega
def ml (y m : Int) : Int := if m = 1 then 28 + lp y else if m = 3 ∨ m = 5 ∨ m = 8 ∨ m = 10 then 30 else 31
theorem ml_bd (y m : Int) : 28 ≤ ml y m ∧ ml y m ≤ 31 := by
  have := lp_01 y
  unfold ml; (repeat' split) <;> omega
def cum (y m : Int) : Int :=
  if m ≤ 0 then 0 else if m = 1 then 31 else (if m = 2 then 59 else if m = 3 then 90 else if m = 4 then 120 else if m = 5 then 151 else if m = 6 then 181 else if m = 7 then 212 else if m = 8 then 243 else if m = 9 then 273 else if m = 10 then 304 else if m = 11 then 334 else 365) + lp y
theorem cum_zero (y : Int) : cum y 0 = 0 := rfl
theorem cum_twelve (y : Int) : cum y 12 = 365 + lp y := rfl
theorem cum_succ (y m : Int) (h0 : 0 ≤ m) (h1 : m ≤ 11) : cum y (m + 1) = cum y m + ml y m := by
  have : m = 0 ∨ m = 1 ∨ m = 2 ∨ m = 3 ∨ m = 4 ∨ m = 5 ∨ m = 6 ∨ m = 7 ∨ m = 8 ∨ m = 9 ∨ m = 10 ∨ m = 11 := by omega
  rcases this with rfl | rfl | rfl | rfl | rfl | rfl | rfl | rfl | rfl | rfl | rfl | rfl <;> (simp [cum, ml]; try omega)
theorem cum_bd (y m : Int) : 0 ≤ cum y m ∧ cum y m ≤ 366 := by
  have := lp_01 y
  unfold cum; (repeat' split) <;> omega
theorem cum_mono (y a b : Int) (h0 : 0 ≤ a) (h : a ≤ b) (h1 : b ≤ 12) : cum y a ≤ cum y b := by
  obtain ⟨k, rfl⟩ : ∃ k : Nat, b = a + k := ⟨(b - a).toNat, by omega⟩
  clear h
  induction k with
  | zero => simp
  | succ k ih =>
    have h2 := cum_succ y (a + k) (by omega) (by omega)
    have h3 := ml_bd y (a + k)
    have h4 := ih (by omega)
    rw [show a + ((k + 1 : Nat) : Int) = a + k + 1 by omega]
    omega
def ny (y : Int) : Int := 365 * (y - 1970) + (y - 1969) / 4 - (y - 1901) / 100 + (y - 1601) / 400
theorem ny_succ (y : Int) : ny (y + 1) = ny y + 365 + lp y := by unfold ny lp; split <;> omega
theorem ny_1970 : ny 1970 = 0 := rfl
theorem ny_mono (a b : Int) (h : a ≤ b) : ny a ≤ ny b := by
  obtain ⟨k, rfl⟩ : ∃ k : Nat, b = a + k := ⟨(b - a).toNat, by omega⟩
  clear h
  induction k with
  | zero => simp
  | succ k ih =>
    have h2 := ny_succ (a + k)
    have h3 := lp_01 (a + k)
    rw [show a + ((k + 1 : Nat) : Int) = a + k + 1 by omega]
    omega
theorem ny_guess (k : Int) (h : 0 ≤ k) : ny (1970 + k / 366) ≤ k := by unfold ny; omega
theorem ny_bd (y : Int) (h : 1970 ≤ y) (h1 : y ≤ 10000) : 0 ≤ ny y ∧ ny y ≤ 2932897 := by unfold ny; omega
theorem ny_400 (y : Int) : ny (y + 400) = ny y + 146097 := by unfold ny; omega
structure IsDate (n y m d : Int) : Prop where
  y0 : 1970 ≤ y
  y1 : y ≤ 9999
  m0 : 0 ≤ m
  m1 : m ≤ 11
  d0 : 1 ≤ d
  d1 : d ≤ ml y m
  n_ : n = ny y + cum y m + d - 1
theorem exYear (k : Nat) : ∀ n : Int, 0 ≤ n → n < ny (1970 + k) → ∃ y : Int, 1970 ≤ y ∧ y < 1970 + k ∧ ny y ≤ n ∧ n < ny (y + 1) := by
  induction k with
  | zero => intro n h0 h1; rw [show (1970 : Int) + ((0 : Nat) : Int) = 1970 by omega, ny_1970] at h1; omega
  | succ k ih =>
    intro n h0 h1
    by_cases h : n < ny (1970 + k)
    · obtain ⟨y, a, b, c, d⟩ := ih n h0 h
      exact ⟨y, a, by omega, c, d⟩
    · exact ⟨1970 + k, by omega, by omega, by omega, by rw [show (1970 : Int) + k + 1 = 1970 + ((k + 1 : Nat) : Int) by omega]; exact h1⟩
theorem exMonth (y : Int) (k : Nat) (hk : k ≤ 12) : ∀ r : Int, 0 ≤ r → r < cum y k → ∃ m : Int, 0 ≤ m ∧ m < k ∧ cum y m ≤ r ∧ r < cum y (m + 1) := by
  induction k with
  | zero => intro r h0 h1; rw [show ((0 : Nat) : Int) = 0 by omega, cum_zero] at h1; omega
  | succ k ih =>
    intro r h0 h1
    by_cases h : r < cum y k
    · obtain ⟨m, a, b, c, d⟩ := ih (by omega) r h0 h
      exact ⟨m, a, by omega, c, d⟩
    · exact ⟨k, by omega, by omega, by omega, by rw [show (k : Int) + 1 = ((k + 1 : Nat) : Int) by omega]; exact h1⟩
theorem exDate (n : Int) (h0 : 0 ≤ n) (h1 : n ≤ 2932896) : ∃ y m d, IsDate n y m d := by
  obtain ⟨y, a, b, c, d⟩ := exYear 8030 n h0 (by have : ny (1970 + ((8030 : Nat) : Int)) = 2932897 := rfl; omega)
  have hs := ny_succ y
  obtain ⟨m, e, f, g, i⟩ := exMonth y 12 (by omega) (n - ny y) (by omega) (by rw [show ((12 : Nat) : Int) = 12 by omega, cum_twelve]; omega)
  have hm := cum_succ y m e (by omega)
  exact ⟨y, m, n - ny y - cum y m + 1, a, by omega, e, by omega, by omega, by omega, by omega⟩
theorem year_one {y y' n : Int} (h : ny y ≤ n) (h1 : n < ny (y + 1)) (h' : ny y' ≤ n) (h1' : n < ny (y' + 1)) : y = y' := by
  rcases Int.lt_trichotomy y y' with g | g | g
  · have := ny_mono (y + 1) y' (by omega); omega
  · exact g
  · have := ny_mono (y' + 1) y (by omega); omega
theorem month_one {y m m' r : Int} (h0 : 0 ≤ m) (h0' : 0 ≤ m') (h2 : m ≤ 11) (h2' : m' ≤ 11) (h : cum y m ≤ r) (h1 : r < cum y (m + 1)) (h' : cum y m' ≤ r) (h1' : r < cum y (m' + 1)) : m = m' := by
  rcases Int.lt_trichotomy m m' with g | g | g
  · have := cum_mono y (m + 1) m' (by omega) (by omega) (by omega); omega
  · exact g
  · have := cum_mono y (m' + 1) m (by omega) (by omega) (by omega); omega
theorem IsDate.in_month {n y m d : Int} (h : IsDate n y m d) : cum y m ≤ n - ny y ∧ n - ny y < cum y (m + 1) := by
  have := cum_succ y m h.m0 h.m1
  have a := h.n_; have b := h.d0; have c := h.d1
  omega
theorem IsDate.in_year {n y m d : Int} (h : IsDate n y m d) : ny y ≤ n ∧ n < ny (y + 1) := by
  have hm := h.in_month
  have h0 := cum_mono y 0 m (by omega) h.m0 (by have := h.m1; omega)
  have h1 := cum_mono y (m + 1) 12 (by have := h.m0; omega) (by have := h.m1; omega) (by omega)
  have hs := ny_succ y
  rw [cum_zero] at h0
  rw [cum_twelve] at h1
  omega
theorem IsDate.one {n y m d y' m' d' : Int} (h : IsDate n y m d) (h' : IsDate n y' m' d') : y = y' ∧ m = m' ∧ d = d' := by
  obtain rfl := year_one h.in_year.1 h.in_year.2 h'.in_year.1 h'.in_year.2
  obtain rfl := month_one h.m0 h'.m0 h.m1 h'.m1 h.in_month.1 h.in_month.2 h'.in_month.1 h'.in_month.2
  have a := h.n_; have b := h'.n_
  exact ⟨rfl, rfl, by omega⟩
theorem IsDate.range {n y m d : Int} (h : IsDate n y m d) : 0 ≤ n ∧ n ≤ 2932896 := by
  have a := h.in_year
  have b := ny_bd y h.y0 (by have := h.y1; omega)
  have c := ny_mono (y + 1) 10000 (by have := h.y1; omega)
  have : ny 10000 = 2932897 := rfl
  omega
open Classical in
noncomputable def date (n : Int) : Int × Int × Int := if h : ∃ p : Int × Int × Int, IsDate n p.1 p.2.1 p.2.2 then choose h else (1970, 0, 1)
theorem date_is {n : Int} (h0 : 0 ≤ n) (h1 : n ≤ 2932896) : IsDate n (date n).1 (date n).2.1 (date n).2.2 := by
  have h : ∃ p : Int × Int × Int, IsDate n p.1 p.2.1 p.2.2 := by
    obtain ⟨y, m, d, h⟩ := exDate n h0 h1
    exact ⟨(y, m, d), h⟩
  unfold date
  rw [dif_pos h]
  exact Classical.choose_spec h
theorem date_eq {n y m d : Int} (h : IsDate n y m d) : date n = (y, m, d) := by
  obtain ⟨a, b, c⟩ := (date_is h.range.1 h.range.2).one h
  rw [← a, ← b, ← c]
end Dt

namespace Dt

def dayNames : List (List UInt8) := [[83, 117, 110, 100, 97, 121], [77, 111, 110, 100, 97, 121], [84, 117, 101, 115, 100, 97, 121], [87, 101, 100, 110, 101, 115, 100, 97, 121], [84, 104, 117, 114, 115, 100, 97, 121], [70, 114, 105, 100, 97, 121], [83, 97, 116, 117, 114, 100, 97, 121]]
def monthNames : List (List UInt8) := [[74, 97, 110], [70, 101, 98], [77, 97, 114], [65, 112, 114], [77, 97, 121], [74, 117, 110], [74, 117, 108], [65, 117, 103], [83, 101, 112], [79, 99, 116], [78, 111, 118], [68, 101, 99]]
def dayN (w : Int) : List UInt8 := dayNames.getD w.toNat []
def monN (m : Int) : List UInt8 := monthNames.getD m.toNat []
def wday (n : Int) : Int := (n + 4) % 7
def dc (k : Int) : UInt8 := Oct.ch k.toNat
def d2 (n : Int) : List UInt8 := [dc (n / 10), dc (n % 10)]
def d4 (n : Int) : List UInt8 := [dc (n / 1000), dc (n / 100 % 10), dc (n / 10 % 10), dc (n % 10)]
def db (n : Int) : List UInt8 := [if n < 10 then 32 else dc (n / 10), dc (n % 10)]
def clock (s : Int) : List UInt8 := d2 (s / 3600) ++ 58 :: (d2 (s / 60 % 60) ++ 58 :: d2 (s % 60))
def gmt : List UInt8 := [71, 77, 84]
def f0 (y m d w s : Int) : List UInt8 := (dayN w).take 3 ++ 44 :: (32 :: (d2 d ++ 32 :: (monN m ++ 32 :: (d4 y ++ 32 :: (clock s ++ 32 :: gmt)))))
def f1 (y m d w s : Int) : List UInt8 := dayN w ++ 44 :: (32 :: (d2 d ++ 45 :: (monN m ++ 45 :: (d2 (y % 100) ++ 32 :: (clock s ++ 32 :: gmt)))))
def f2 (y m d w s : Int) : List UInt8 := (dayN w).take 3 ++ 32 :: (monN m ++ 32 :: (db d ++ 32 :: (clock s ++ 32 :: d4 y)))
noncomputable def form (at' i : Int) : List UInt8 :=
  let p := date (at' / 86400)
  if i = 0 then f0 p.1 p.2.1 p.2.2 (wday (at' / 86400)) (at' % 86400)
  else if i = 1 then f1 p.1 p.2.1 p.2.2 (wday (at' / 86400)) (at' % 86400)
  else f2 p.1 p.2.1 p.2.2 (wday (at' / 86400)) (at' % 86400)
theorem form0 {a y m d : Int} (h : IsDate (a / 86400) y m d) : form a 0 = f0 y m d (wday (a / 86400)) (a % 86400) := by unfold form; rw [date_eq h]; rfl
theorem form1 {a y m d : Int} (h : IsDate (a / 86400) y m d) : form a 1 = f1 y m d (wday (a / 86400)) (a % 86400) := by unfold form; rw [date_eq h]; rfl
theorem form2 {a y m d : Int} (h : IsDate (a / 86400) y m d) : form a 2 = f2 y m d (wday (a / 86400)) (a % 86400) := by unfold form; rw [date_eq h]; rfl
def sep (c : UInt8) : Bool := c == 32 || (c == 44 || (c == 45 || c == 58))
def wordsFrom : List UInt8 → List UInt8 → List (List UInt8)
  | [], cur => if cur = [] then [] else [cur]
  | c :: r, cur => if sep c then (if cur = [] then wordsFrom r [] else cur :: wordsFrom r []) else wordsFrom r (cur ++ [c])
def words (l : List UInt8) : List (List UInt8) := wordsFrom l []
def letter (c : UInt8) : Bool := !sep c && decide (c.toNat < 128)
def allL (l : List UInt8) : Bool := !l.isEmpty && l.all letter
theorem wordsFrom_letters (x r : List UInt8) (h : x.all letter = true) : ∀ cur, wordsFrom (x ++ r) cur = wordsFrom r (cur ++ x) := by
  induction x with
  | nil => intro cur; simp
  | cons c x ih =>
    intro cur
    simp only [List.all_cons, Bool.and_eq_true] at h
    have hc : sep c = false := by
      have := h.1; unfold letter at this; simp at this; exact this.1
    rw [List.cons_append]
    simp only [wordsFrom, hc]
    rw [if_neg (by decide), ih h.2]
    simp
theorem words_app (x r : List UInt8) (c : UInt8) (h : allL x = true) (hc : sep c = true) : words (x ++ c :: r) = x :: words r := by
  unfold allL at h
  simp only [Bool.and_eq_true] at h
  unfold words
  rw [wordsFrom_letters x _ h.2, List.nil_append]
  simp only [wordsFrom, hc, if_true]
  rw [if_neg (by intro e; rw [e] at h; simp at h)]
theorem words_sep (r : List UInt8) (c : UInt8) (hc : sep c = true) : words (c :: r) = words r := by
  unfold words
  simp only [wordsFrom, hc, if_true]
theorem words_last (x : List UInt8) (h : allL x = true) : words x = [x] := by
  unfold allL at h
  simp only [Bool.and_eq_true] at h
  unfold words
  have := wordsFrom_letters x [] h.2 []
  rw [List.append_nil, List.nil_append] at this
  rw [this]
  simp only [wordsFrom]
  rw [if_neg (by intro e; rw [e] at h; simp at h)]
theorem dc_letter (k : Int) (h0 : 0 ≤ k) (h1 : k < 10) : letter (dc k) = true := by
  obtain ⟨n, rfl⟩ : ∃ n : Nat, k = n := ⟨k.toNat, by omega⟩
  have : n = 0 ∨ n = 1 ∨ n = 2 ∨ n = 3 ∨ n = 4 ∨ n = 5 ∨ n = 6 ∨ n = 7 ∨ n = 8 ∨ n = 9 := by omega
  rcases this with rfl | rfl | rfl | rfl | rfl | rfl | rfl | rfl | rfl | rfl <;> decide
theorem dc_ne32 (k : Int) (h0 : 0 ≤ k) (h1 : k < 10) : dc k ≠ 32 := by
  intro e
  have := dc_letter k h0 h1
  rw [e] at this
  exact absurd this (by decide)
theorem d2_all (n : Int) (h0 : 0 ≤ n) (h1 : n < 100) : allL (d2 n) = true := by
  unfold allL d2
  simp [dc_letter (n / 10) (by omega) (by omega), dc_letter (n % 10) (by omega) (by omega)]
theorem d1_all (n : Int) (h0 : 0 ≤ n) (h1 : n < 10) : allL [dc n] = true := by
  unfold allL
  simp [dc_letter n (by omega) (by omega)]
theorem d4_all (n : Int) (h0 : 0 ≤ n) (h1 : n < 10000) : allL (d4 n) = true := by
  unfold allL d4
  simp [dc_letter (n / 1000) (by omega) (by omega), dc_letter (n / 100 % 10) (by omega) (by omega), dc_letter (n / 10 % 10) (by omega) (by omega), dc_letter (n % 10) (by omega) (by omega)]
theorem wday_bd (n : Int) : 0 ≤ wday n ∧ wday n < 7 := by unfold wday; omega
theorem w_cases {w : Int} (h0 : 0 ≤ w) (h1 : w < 7) : w = 0 ∨ w = 1 ∨ w = 2 ∨ w = 3 ∨ w = 4 ∨ w = 5 ∨ w = 6 := by omega
theorem m_cases {m : Int} (h0 : 0 ≤ m) (h1 : m ≤ 11) : m = 0 ∨ m = 1 ∨ m = 2 ∨ m = 3 ∨ m = 4 ∨ m = 5 ∨ m = 6 ∨ m = 7 ∨ m = 8 ∨ m = 9 ∨ m = 10 ∨ m = 11 := by omega
theorem dayN_all {w : Int} (h0 : 0 ≤ w) (h1 : w < 7) : allL (dayN w) = true ∧ allL ((dayN w).take 3) = true ∧ 6 ≤ (dayN w).length ∧ (dayN w).length ≤ 9 := by
  rcases w_cases h0 h1 with rfl | rfl | rfl | rfl | rfl | rfl | rfl <;> decide
theorem monN_all {m : Int} (h0 : 0 ≤ m) (h1 : m ≤ 11) : allL (monN m) = true ∧ (monN m).length = 3 := by
  rcases m_cases h0 h1 with rfl | rfl | rfl | rfl | rfl | rfl | rfl | rfl | rfl | rfl | rfl | rfl <;> decide
theorem gmt_all : allL gmt = true := by decide
structure Parts (y m d w s : Int) : Prop where
  y0 : 1970 ≤ y
  y1 : y ≤ 9999
  m0 : 0 ≤ m
  m1 : m ≤ 11
  d0 : 1 ≤ d
  d1 : d ≤ 31
  w0 : 0 ≤ w
  w1 : w < 7
  s0 : 0 ≤ s
  s1 : s < 86400
theorem words_clock (s : Int) (h0 : 0 ≤ s) (h1 : s < 86400) (r : List UInt8) : words (clock s ++ 32 :: r) = d2 (s / 3600) :: d2 (s / 60 % 60) :: d2 (s % 60) :: words r := by
  unfold clock
  rw [List.append_assoc, List.cons_append, words_app _ _ _ (d2_all _ (by omega) (by omega)) (by decide), List.append_assoc, List.cons_append,
    words_app _ _ _ (d2_all _ (by omega) (by omega)) (by decide), words_app _ _ _ (d2_all _ (by omega) (by omega)) (by decide)]
theorem words_f0 {y m d w s : Int} (h : Parts y m d w s) : words (f0 y m d w s) = [(dayN w).take 3, d2 d, monN m, d4 y, d2 (s / 3600), d2 (s / 60 % 60), d2 (s % 60), gmt] := by
  obtain ⟨a, b, c, e, f, g, i, j, k, l⟩ := h
  unfold f0
  rw [words_app _ _ _ (dayN_all i j).2.1 (by decide), words_sep _ _ (by decide), words_app _ _ _ (d2_all _ (by omega) (by omega)) (by decide),
    words_app _ _ _ (monN_all c e).1 (by decide), words_app _ _ _ (d4_all _ (by omega) (by omega)) (by decide), words_clock _ k l, words_last _ gmt_all]
theorem words_f1 {y m d w s : Int} (h : Parts y m d w s) : words (f1 y m d w s) = [dayN w, d2 d, monN m, d2 (y % 100), d2 (s / 3600), d2 (s / 60 % 60), d2 (s % 60), gmt] := by
  obtain ⟨a, b, c, e, f, g, i, j, k, l⟩ := h
  unfold f1
  rw [words_app _ _ _ (dayN_all i j).1 (by decide), words_sep _ _ (by decide), words_app _ _ _ (d2_all _ (by omega) (by omega)) (by decide),
    words_app _ _ _ (monN_all c e).1 (by decide), words_app _ _ _ (d2_all _ (by omega) (by omega)) (by decide), words_clock _ k l, words_last _ gmt_all]
theorem words_db (d : Int) (h0 : 1 ≤ d) (h1 : d ≤ 31) (r : List UInt8) : words (db d ++ 32 :: r) = (if d < 10 then [dc d] else d2 d) :: words r := by
  unfold db
  by_cases h : d < 10
  · rw [if_pos h, if_pos h, show d % 10 = d by omega, List.cons_append, words_sep _ _ (by decide)]
    exact words_app [dc d] r 32 (d1_all d (by omega) h) (by decide)
  · rw [if_neg h, if_neg h]
    exact words_app (d2 d) r 32 (d2_all d (by omega) (by omega)) (by decide)
theorem words_f2 {y m d w s : Int} (h : Parts y m d w s) : words (f2 y m d w s) = [(dayN w).take 3, monN m, if d < 10 then [dc d] else d2 d, d2 (s / 3600), d2 (s / 60 % 60), d2 (s % 60), d4 y] := by
  obtain ⟨a, b, c, e, f, g, i, j, k, l⟩ := h
  unfold f2
  rw [words_app _ _ _ (dayN_all i j).2.1 (by decide), words_app _ _ _ (monN_all c e).1 (by decide), words_db _ f g, words_clock _ k l, words_last _ (d4_all _ (by omega) (by omega))]
def ascii (l : List UInt8) : Bool := l.all fun c => decide (c.toNat < 128)
theorem ascii_letters {x : List UInt8} (h : allL x = true) : ascii x = true := by
  unfold allL at h
  simp only [Bool.and_eq_true, List.all_eq_true] at h
  unfold ascii
  rw [List.all_eq_true]
  intro c hc
  have := h.2 c hc
  unfold letter at this
  simp only [Bool.and_eq_true] at this
  exact this.2
theorem ascii_app (x y : List UInt8) : ascii (x ++ y) = (ascii x && ascii y) := by unfold ascii; rw [List.all_append]
theorem ascii_cons (c : UInt8) (y : List UInt8) : ascii (c :: y) = (decide (c.toNat < 128) && ascii y) := rfl
theorem ascii_clock (s : Int) (h0 : 0 ≤ s) (h1 : s < 86400) : ascii (clock s) = true := by
  unfold clock
  rw [ascii_app, ascii_cons, ascii_app, ascii_cons, ascii_letters (d2_all _ (by omega) (by omega)), ascii_letters (d2_all _ (by omega) (by omega)), ascii_letters (d2_all _ (by omega) (by omega))]
  rfl
theorem ascii_f0 {y m d w s : Int} (h : Parts y m d w s) : ascii (f0 y m d w s) = true := by
  obtain ⟨a, b, c, e, f, g, i, j, k, l⟩ := h
  unfold f0
  simp only [ascii_app, ascii_cons, ascii_letters (dayN_all i j).2.1, ascii_letters (d2_all d (by omega) (by omega)), ascii_letters (monN_all c e).1, ascii_letters (d4_all y (by omega) (by omega)), ascii_clock s k l, ascii_letters gmt_all]
  rfl
theorem ascii_f1 {y m d w s : Int} (h : Parts y m d w s) : ascii (f1 y m d w s) = true := by
  obtain ⟨a, b, c, e, f, g, i, j, k, l⟩ := h
  unfold f1
  simp only [ascii_app, ascii_cons, ascii_letters (dayN_all i j).1, ascii_letters (d2_all d (by omega) (by omega)), ascii_letters (monN_all c e).1, ascii_letters (d2_all (y % 100) (by omega) (by omega)), ascii_clock s k l, ascii_letters gmt_all]
  rfl
theorem ascii_f2 {y m d w s : Int} (h : Parts y m d w s) : ascii (f2 y m d w s) = true := by
  obtain ⟨a, b, c, e, f, g, i, j, k, l⟩ := h
  have hdb : ascii (db d) = true := by
    unfold db
    by_cases h : d < 10
    · rw [if_pos h, ascii_cons, ascii_letters (d1_all (d % 10) (by omega) (by omega))]; rfl
    · rw [if_neg h]; exact ascii_letters (d2_all d (by omega) (by omega))
  unfold f2
  simp only [ascii_app, ascii_cons, ascii_letters (dayN_all i j).2.1, hdb, ascii_letters (monN_all c e).1, ascii_letters (d4_all y (by omega) (by omega)), ascii_clock s k l]
  rfl
theorem len_clock (s : Int) : (clock s).length = 8 := by simp [clock, d2]
theorem len_f0 {y m d w s : Int} (h : Parts y m d w s) : (f0 y m d w s).length = 29 := by
  have h1 := (monN_all h.m0 h.m1).2
  have h2 := (dayN_all h.w0 h.w1).2.2
  simp [f0, d2, d4, gmt, len_clock, h1]; omega
theorem len_f1 {y m d w s : Int} (h : Parts y m d w s) : (f1 y m d w s).length = (dayN w).length + 24 := by
  have h1 := (monN_all h.m0 h.m1).2
  simp [f1, d2, gmt, len_clock, h1]
theorem len_f2 {y m d w s : Int} (h : Parts y m d w s) : (f2 y m d w s).length = 24 := by
  have h1 := (monN_all h.m0 h.m1).2
  have h2 := (dayN_all h.w0 h.w1).2.2
  simp [f2, db, d4, len_clock, h1]; omega
end Dt

namespace Dt
open Go

def sepR (n : Nat) : Bool := n == 32 || (n == 44 || (n == 45 || n == 58))
theorem sepR_c (c : UInt8) : sepR c.toNat = sep c := by
  unfold sepR sep
  have h (k : UInt8) (n : Nat) (e : k.toNat = n) : (c.toNat == n) = (c == k) := by
    rw [Bool.eq_iff_iff, beq_iff_eq, beq_iff_eq, ← UInt8.toNat_inj, e]
  rw [h 32 32 rfl, h 44 44 rfl, h 45 45 rfl, h 58 58 rfl]
theorem ext_list (s : ByteArray) (f k : Nat) : (s.extract f k).data.toList = (s.data.toList.take k).drop f := by
  simp [ByteArray.data_extract, List.drop_take]
def cur (l : List UInt8) (pos : Nat) : Option Nat → List UInt8
  | none => []
  | some a => (l.take pos).drop a
theorem spans_words (s : ByteArray) (ha : ascii s.data.toList = true) : ∀ (f pos : Nat) (st : Option Nat) (acc : List (Nat × Nat)), s.size ≤ pos + f → pos ≤ s.size → (∀ a, st = some a → a < pos) →
    (Lib.closeSpans s (Lib.spansFromP sepR s f pos st acc)).map (fun x => (s.extract x.1 x.2).data.toList) = acc.map (fun x => (s.extract x.1 x.2).data.toList) ++ wordsFrom (s.data.toList.drop pos) (cur s.data.toList pos st) := by
  have hsz : s.data.toList.length = s.size := by rw [ByteArray.size]; simp
  have hend : ∀ (f : Nat) (st : Option Nat) (acc : List (Nat × Nat)), (∀ a, st = some a → a < s.size) →
      (Lib.closeSpans s (Lib.spansFromP sepR s f s.size st acc)).map (fun x => (s.extract x.1 x.2).data.toList) = acc.map (fun x => (s.extract x.1 x.2).data.toList) ++ wordsFrom (s.data.toList.drop s.size) (cur s.data.toList s.size st) := by
    intro f st acc hst
    rw [Lib.spansFromP_end _ _ _ _ _ _ (by omega), List.drop_of_length_le (by omega)]
    cases st with
    | none => simp [Lib.closeSpans, cur, wordsFrom]
    | some a =>
      have := hst a rfl
      have hne : cur s.data.toList s.size (some a) ≠ [] := by intro e; have := congrArg List.length e; simp [cur] at this; omega
      simp only [Lib.closeSpans, wordsFrom, List.map_append, List.map_cons, List.map_nil, ext_list]
      rw [if_neg hne]
      rfl
  intro f
  induction f with
  | zero =>
    intro pos st acc h0 h1 hst
    obtain rfl : pos = s.size := by omega
    exact hend 0 st acc hst
  | succ f ih =>
    intro pos st acc h0 h1 hst
    by_cases hp : pos < s.size
    · have hc : s[pos].toNat < 128 := by
        have := List.all_eq_true.1 ha s[pos] (by
          show s.data.toList[pos]'(by omega) ∈ s.data.toList
          exact List.getElem_mem _)
        simpa using this
      have hd := decode_ascii s pos hp hc
      have hdrop : s.data.toList.drop pos = s[pos] :: s.data.toList.drop (pos + 1) := by
        rw [List.drop_eq_getElem_cons (by omega)]; rfl
      have htake : s.data.toList.take (pos + 1) = s.data.toList.take pos ++ [s[pos]] := by
        rw [List.take_succ_eq_append_getElem (by omega)]; rfl
      have hlt : (s.data.toList.take pos).length = pos := by rw [List.length_take]; omega
      simp only [Lib.spansFromP, hp, if_true, hd, sepR_c]
      rw [hdrop]
      cases hs : sep s[pos]
      · rw [if_neg (by decide)]
        simp only [wordsFrom, hs]
        rw [if_neg (by decide)]
        cases st with
        | none =>
          rw [ih (pos + 1) (some pos) acc (by omega) (by omega) (fun a h => by cases h; omega)]
          congr 2
          simp only [cur]
          rw [htake, List.drop_append_of_le_length (by omega), List.drop_of_length_le (by omega)]
        | some a =>
          have := hst a rfl
          rw [ih (pos + 1) (some a) acc (by omega) (by omega) (fun b h => by cases h; omega)]
          congr 2
          simp only [cur]
          rw [htake, List.drop_append_of_le_length (by omega)]
      · rw [if_pos rfl]
        simp only [wordsFrom, hs, if_true]
        cases st with
        | none =>
          rw [ih (pos + 1) none acc (by omega) (by omega) (fun a h => by cases h)]
          simp [cur]
        | some a =>
          have := hst a rfl
          have hne : cur s.data.toList pos (some a) ≠ [] := by intro e; have := congrArg List.length e; simp [cur] at this; omega
          rw [if_neg hne, ih (pos + 1) none (acc ++ [(a, pos)]) (by omega) (by omega) (fun a h => by cases h)]
          rw [List.map_append, List.map_cons, List.map_nil, ext_list, List.append_assoc]
          rfl
    · obtain rfl : pos = s.size := by omega
      exact hend (f + 1) st acc hst
def fields (s : ByteArray) : List (List UInt8) := (Lib.goFieldsP sepR s).map fun x => x.data.toList
theorem fields_words (s : ByteArray) (ha : ascii s.data.toList = true) : fields s = words s.data.toList := by
  unfold fields Lib.goFieldsP Lib.spansOfP
  rw [List.map_map]
  have := spans_words s ha s.size 0 none [] (by omega) (by omega) (fun a h => by cases h)
  exact this
end Dt

namespace Dt

def last : Int := 253402300799
def lastForms : Int := 3155759999
def full (n : Int) : Int := if n < 70 then 2000 + n else 1900 + n
def mIdx (w : List UInt8) : Option Nat := (List.range 12).find? fun i => monthNames.getD i [] == w
theorem mIdx_some {i : Nat} {w : List UInt8} (h : i < 12) (e : monthNames.getD i [] = w) : mIdx w = some i := by
  subst e
  have : i = 0 ∨ i = 1 ∨ i = 2 ∨ i = 3 ∨ i = 4 ∨ i = 5 ∨ i = 6 ∨ i = 7 ∨ i = 8 ∨ i = 9 ∨ i = 10 ∨ i = 11 := by omega
  rcases this with rfl | rfl | rfl | rfl | rfl | rfl | rfl | rfl | rfl | rfl | rfl | rfl <;> decide
theorem mIdx_none {w : List UInt8} (h : ∀ i, i < 12 → monthNames.getD i [] ≠ w) : mIdx w = none := by
  unfold mIdx
  rw [List.find?_eq_none]
  intro i hi
  have := h i (List.mem_range.1 hi)
  simpa using this
theorem mIdx_lt {w : List UInt8} {i : Nat} (h : mIdx w = some i) : i < 12 := List.mem_range.1 (List.mem_of_find?_eq_some h)
def worthP (place : Nat) (w : List UInt8) : Int × Bool :=
  if place = 1 then (match mIdx w with | some i => ((i : Int), true) | none => (0, false))
  else (if place = 0 ∧ w.length = 2 then full (Oct.number 10 9999 w).1 else (Oct.number 10 9999 w).1, decide ((Oct.number 10 9999 w).2 = 0))
theorem num_bd (b : Nat) (most : Int) : ∀ (l : List UInt8) (n m : Int), 0 ≤ n → n ≤ most → Oct.num b most n l = some m → 0 ≤ m ∧ m ≤ most := by
  intro l
  induction l with
  | nil => intro n m h0 h1 h; cases h; exact ⟨h0, h1⟩
  | cons c l ih =>
    intro n m h0 h1 h
    simp only [Oct.num] at h
    split at h
    · cases h
    · refine ih _ m ?_ (by omega) h
      have : 0 ≤ n * (b : Int) := Int.mul_nonneg h0 (by omega)
      omega
theorem number_bd (w : List UInt8) : 0 ≤ (Oct.number 10 9999 w).1 ∧ (Oct.number 10 9999 w).1 ≤ 9999 := by
  unfold Oct.number
  split
  · decide
  · split
    · decide
    · split
      · decide
      · rename_i n h
        exact num_bd 10 9999 w 0 n (by omega) (by omega) h
theorem worthP_bd (i : Nat) (w : List UInt8) : 0 ≤ (worthP i w).1 ∧ (worthP i w).1 ≤ 11899 := by
  have := number_bd w
  unfold worthP
  split
  · split
    · rename_i k h
      have := mIdx_lt h
      simp; omega
    · decide
  · unfold full
    simp only
    (repeat' split) <;> omega
theorem worthP_month (w : List UInt8) : (worthP 1 w).1 ≤ 11 := by
  unfold worthP
  rw [if_pos rfl]
  split
  · rename_i k h
    have := mIdx_lt h
    simp; omega
  · decide
def nyT (y : Int) : Int := 365 * (y - 1970) + (y - 1969).tdiv 4 - (y - 1901).tdiv 100 + (y - 1601).tdiv 400
theorem nyT_ny {y : Int} (h : 1970 ≤ y) : nyT y = ny y := by
  unfold nyT ny
  rw [Int.tdiv_eq_ediv_of_nonneg (by omega), Int.tdiv_eq_ediv_of_nonneg (by omega), Int.tdiv_eq_ediv_of_nonneg (by omega)]
def mom (y m d h mi se : Int) : Int := (nyT y + d - 1 + cum y m) * 86400 + h * 3600 + mi * 60 + se
theorem nyT_bd (y : Int) (h0 : 0 ≤ y) (h1 : y ≤ 11899) : -1000000 ≤ nyT y ∧ nyT y ≤ 4000000 := by
  unfold nyT
  have a : (y - 1969).tdiv 4 ≤ 10000 ∧ -1000 ≤ (y - 1969).tdiv 4 := by
    rw [Int.tdiv_eq_ediv]; split <;> (have := Int.sign_eq_one_of_pos (a := (4 : Int)) (by omega)) <;> omega
  have b : (y - 1901).tdiv 100 ≤ 10000 ∧ -1000 ≤ (y - 1901).tdiv 100 := by
    rw [Int.tdiv_eq_ediv]; split <;> (have := Int.sign_eq_one_of_pos (a := (100 : Int)) (by omega)) <;> omega
  have c : (y - 1601).tdiv 400 ≤ 10000 ∧ -1000 ≤ (y - 1601).tdiv 400 := by
    rw [Int.tdiv_eq_ediv]; split <;> (have := Int.sign_eq_one_of_pos (a := (400 : Int)) (by omega)) <;> omega
  omega
def places (n : Nat) : List Nat := if n = 8 then [3, 2, 1, 4, 5, 6] else if n = 7 then [6, 1, 2, 3, 4, 5] else []
def part (ws : List (List UInt8)) (i : Nat) : Int × Bool := worthP i (ws.getD ((places ws.length).getD i 0) [])
def momW (ws : List (List UInt8)) : Int := mom (part ws 0).1 (part ws 1).1 (part ws 2).1 (part ws 3).1 (part ws 4).1 (part ws 5).1
def readable (ws : List (List UInt8)) : Bool := (part ws 0).2 && (part ws 1).2 && (part ws 2).2 && (part ws 3).2 && (part ws 4).2 && (part ws 5).2
def readW (ws : List (List UInt8)) : Int × Bool :=
  if ws.length = 8 ∨ ws.length = 7 then (if readable ws then (momW ws, decide (0 ≤ momW ws) && decide (momW ws ≤ last)) else (0, false)) else (0, false)
theorem worth_dc (k : Int) (h0 : 0 ≤ k) (h1 : k < 10) : (Oct.worth (dc k) : Int) = k := by
  unfold dc
  rw [Oct.ch_worth _ (by omega)]; omega
theorem dig_dc (k : Int) (h0 : 0 ≤ k) (h1 : k < 10) : Oct.dig 10 (dc k) = true := by
  have := worth_dc k h0 h1
  unfold Oct.dig
  simp; omega
theorem number_d1 (n : Int) (h0 : 0 ≤ n) (h1 : n < 10) : Oct.number 10 9999 [dc n] = (n, 0) := by
  have := worth_dc n h0 h1
  unfold Oct.number
  rw [if_neg (by simp [Oct.allOf, dig_dc n h0 h1]), if_neg (by omega)]
  simp only [Oct.num]
  rw [if_neg (by omega), this]
  simp
theorem number_d2 (n : Int) (h0 : 0 ≤ n) (h1 : n < 100) : Oct.number 10 9999 (d2 n) = (n, 0) := by
  have a := worth_dc (n / 10) (by omega) (by omega)
  have b := worth_dc (n % 10) (by omega) (by omega)
  unfold Oct.number d2
  rw [if_neg (by simp [Oct.allOf, dig_dc (n / 10) (by omega) (by omega), dig_dc (n % 10) (by omega) (by omega)]), if_neg (by omega)]
  simp only [Oct.num]
  rw [if_neg (by omega), if_neg (by omega)]
  simp only [Prod.mk.injEq, and_true]
  omega
theorem number_d4 (n : Int) (h0 : 0 ≤ n) (h1 : n < 10000) : Oct.number 10 9999 (d4 n) = (n, 0) := by
  have a := worth_dc (n / 1000) (by omega) (by omega)
  have b := worth_dc (n / 100 % 10) (by omega) (by omega)
  have c := worth_dc (n / 10 % 10) (by omega) (by omega)
  have d := worth_dc (n % 10) (by omega) (by omega)
  unfold Oct.number d4
  rw [if_neg (by simp [Oct.allOf, dig_dc (n / 1000) (by omega) (by omega), dig_dc (n / 100 % 10) (by omega) (by omega), dig_dc (n / 10 % 10) (by omega) (by omega), dig_dc (n % 10) (by omega) (by omega)]), if_neg (by omega)]
  simp only [Oct.num]
  rw [if_neg (by omega), if_neg (by omega), if_neg (by omega), if_neg (by omega)]
  simp only [Prod.mk.injEq, and_true]
  omega
theorem worthP_d4 (n : Int) (h0 : 0 ≤ n) (h1 : n < 10000) : worthP 0 (d4 n) = (n, true) := by
  unfold worthP
  rw [if_neg (by omega), if_neg (by simp [d4]), number_d4 n h0 h1]; rfl
theorem worthP_y2 (n : Int) (h0 : 0 ≤ n) (h1 : n < 100) : worthP 0 (d2 n) = (full n, true) := by
  unfold worthP
  rw [if_neg (by omega), if_pos (by simp [d2]), number_d2 n h0 h1]; rfl
theorem worthP_d2 (i : Nat) (n : Int) (hi : 2 ≤ i) (h0 : 0 ≤ n) (h1 : n < 100) : worthP i (d2 n) = (n, true) := by
  unfold worthP
  rw [if_neg (by omega), if_neg (by omega), number_d2 n h0 h1]; rfl
theorem worthP_d1 (i : Nat) (n : Int) (hi : 2 ≤ i) (h0 : 0 ≤ n) (h1 : n < 10) : worthP i [dc n] = (n, true) := by
  unfold worthP
  rw [if_neg (by omega), if_neg (by omega), number_d1 n h0 h1]; rfl
theorem worthP_mon (m : Int) (h0 : 0 ≤ m) (h1 : m ≤ 11) : worthP 1 (monN m) = (m, true) := by
  unfold worthP
  rw [if_pos rfl, mIdx_some (w := monN m) (i := m.toNat) (by omega) rfl]
  simp; omega
theorem momW_f0 {y m d w s : Int} (h : Parts y m d w s) : readW (words (f0 y m d w s)) = (mom y m d (s / 3600) (s / 60 % 60) (s % 60), decide (0 ≤ mom y m d (s / 3600) (s / 60 % 60) (s % 60)) && decide (mom y m d (s / 3600) (s / 60 % 60) (s % 60) ≤ last)) := by
  rw [words_f0 h]
  obtain ⟨a, b, c, e, f, g, i, j, k, l⟩ := h
  unfold readW readable momW part
  simp [places, worthP_d4 y (by omega) (by omega), worthP_mon m c e, worthP_d2 2 d (by omega) (by omega) (by omega), worthP_d2 3 (s / 3600) (by omega) (by omega) (by omega), worthP_d2 4 (s / 60 % 60) (by omega) (by omega) (by omega), worthP_d2 5 (s % 60) (by omega) (by omega) (by omega)]
theorem momW_f1 {y m d w s : Int} (h : Parts y m d w s) : readW (words (f1 y m d w s)) = (mom (full (y % 100)) m d (s / 3600) (s / 60 % 60) (s % 60), decide (0 ≤ mom (full (y % 100)) m d (s / 3600) (s / 60 % 60) (s % 60)) && decide (mom (full (y % 100)) m d (s / 3600) (s / 60 % 60) (s % 60) ≤ last)) := by
  rw [words_f1 h]
  obtain ⟨a, b, c, e, f, g, i, j, k, l⟩ := h
  unfold readW readable momW part
  simp [places, worthP_y2 (y % 100) (by omega) (by omega), worthP_mon m c e, worthP_d2 2 d (by omega) (by omega) (by omega), worthP_d2 3 (s / 3600) (by omega) (by omega) (by omega), worthP_d2 4 (s / 60 % 60) (by omega) (by omega) (by omega), worthP_d2 5 (s % 60) (by omega) (by omega) (by omega)]
theorem momW_f2 {y m d w s : Int} (h : Parts y m d w s) : readW (words (f2 y m d w s)) = (mom y m d (s / 3600) (s / 60 % 60) (s % 60), decide (0 ≤ mom y m d (s / 3600) (s / 60 % 60) (s % 60)) && decide (mom y m d (s / 3600) (s / 60 % 60) (s % 60) ≤ last)) := by
  rw [words_f2 h]
  obtain ⟨a, b, c, e, f, g, i, j, k, l⟩ := h
  have hd : worthP 2 (if d < 10 then [dc d] else d2 d) = (d, true) := by
    split
    · exact worthP_d1 2 d (by omega) (by omega) (by omega)
    · exact worthP_d2 2 d (by omega) (by omega) (by omega)
  unfold readW readable momW part
  simp [places, worthP_d4 y (by omega) (by omega), worthP_mon m c e, hd, worthP_d2 3 (s / 3600) (by omega) (by omega) (by omega), worthP_d2 4 (s / 60 % 60) (by omega) (by omega) (by omega), worthP_d2 5 (s % 60) (by omega) (by omega) (by omega)]
theorem parts_of {a : Int} (h0 : 0 ≤ a) (h1 : a ≤ last) : ∃ y m d, IsDate (a / 86400) y m d ∧ Parts y m d (wday (a / 86400)) (a % 86400) := by
  unfold last at h1
  obtain ⟨y, m, d, h⟩ := exDate (a / 86400) (by omega) (by omega)
  have := ml_bd y m
  have := wday_bd (a / 86400)
  obtain ⟨p, q, r, s, t, u, v⟩ := h
  exact ⟨y, m, d, ⟨p, q, r, s, t, u, v⟩, p, q, r, s, t, by omega, this.1, this.2, by omega, by omega⟩
theorem mom_back {a y m d : Int} (_h0 : 0 ≤ a) (h : IsDate (a / 86400) y m d) : mom y m d (a % 86400 / 3600) (a % 86400 / 60 % 60) (a % 86400 % 60) = a := by
  have hn := h.n_
  unfold mom
  rw [nyT_ny h.y0]
  omega
theorem years_forms {a y m d : Int} (h : IsDate (a / 86400) y m d) : a ≤ lastForms ↔ y ≤ 2069 := by
  have h1 := h.in_year
  have e : ny 2070 = 36525 := rfl
  unfold lastForms
  constructor
  · intro hl
    rcases Int.lt_or_le 2069 y with g | g
    · have := ny_mono 2070 y (by omega); omega
    · exact g
  · intro hl
    have := ny_mono (y + 1) 2070 (by omega); omega
theorem full_back {y : Int} (h0 : 1970 ≤ y) (h1 : y ≤ 2069) : full (y % 100) = y := by unfold full; split <;> omega
theorem mom_short {a y m d : Int} (h : IsDate (a / 86400) y m d) : mom (full (y % 100)) m d (a % 86400 / 3600) (a % 86400 / 60 % 60) (a % 86400 % 60) ≤ lastForms := by
  obtain ⟨y', hy⟩ : ∃ y', full (y % 100) = y' := ⟨_, rfl⟩
  have hb : 1970 ≤ y' ∧ y' ≤ 2069 := by rw [← hy]; unfold full; split <;> omega
  rw [hy]
  have hd : d ≤ 31 := by have := ml_bd y m; have := h.d1; omega
  have hc := cum_mono y' m 11 h.m0 h.m1 (by omega)
  have h11 : cum y' 11 = 334 + lp y' := rfl
  have hl := lp_01 y'
  have e : ny 2070 = 36525 := rfl
  have hs : nyT y' + d - 1 + cum y' m ≤ 36524 := by
    rw [nyT_ny hb.1]
    by_cases g : y' = 2069
    · subst g
      have e' : ny 2069 = 36160 := rfl
      have e2 : lp 2069 = 0 := by decide
      omega
    · have a1 := ny_succ y'
      have a2 := ny_mono (y' + 1) 2069 (by omega)
      have e' : ny 2069 = 36160 := rfl
      omega
  unfold mom lastForms
  omega
def Says (l : List UInt8) (a : Int) : Prop := 0 ≤ a ∧ a ≤ last ∧ (l = form a 0 ∨ (a ≤ lastForms ∧ l = form a 1) ∨ l = form a 2)
noncomputable def parseW (l : List UInt8) (ws : List (List UInt8)) : Int × Int :=
  open Classical in
  if 33 < l.length then (0, 10) else
  if (readW ws).2 = true ∧ (l = form (readW ws).1 0 ∨ l = form (readW ws).1 1 ∨ l = form (readW ws).1 2) then ((readW ws).1, 0) else (0, 10)
theorem Says.read {l : List UInt8} {a : Int} (h : Says l a) : readW (words l) = (a, true) ∧ l.length ≤ 33 ∧ ascii l = true := by
  obtain ⟨h0, h1, h⟩ := h
  obtain ⟨y, m, d, hd, hp⟩ := parts_of h0 h1
  have hm := mom_back h0 hd
  have hw := (dayN_all hp.w0 hp.w1).2.2
  rcases h with rfl | ⟨hl, rfl⟩ | rfl
  · rw [form0 hd]
    refine ⟨?_, by rw [len_f0 hp]; omega, ascii_f0 hp⟩
    rw [momW_f0 hp, hm]
    simp [h0, h1]
  · rw [form1 hd]
    refine ⟨?_, by rw [len_f1 hp]; omega, ascii_f1 hp⟩
    have := (years_forms hd).1 hl
    rw [momW_f1 hp, full_back hd.y0 this, hm]
    simp [h0, h1]
  · rw [form2 hd]
    refine ⟨?_, by rw [len_f2 hp]; omega, ascii_f2 hp⟩
    rw [momW_f2 hp, hm]
    simp [h0, h1]
theorem Says.one {l : List UInt8} {a b : Int} (h : Says l a) (h' : Says l b) : a = b := by
  have := h.read.1.symm.trans h'.read.1
  exact (Prod.mk.inj this).1
theorem Says.parse {l : List UInt8} {a : Int} {ws : List (List UInt8)} (h : Says l a) (hw : ascii l = true → ws = words l) : parseW l ws = (a, 0) := by
  obtain ⟨h1, h2, h3⟩ := h.read
  rw [hw h3]
  unfold parseW
  rw [if_neg (by omega), h1, if_pos]
  refine ⟨rfl, ?_⟩
  rcases h.2.2 with e | ⟨_, e⟩ | e
  · exact .inl e
  · exact .inr (.inl e)
  · exact .inr (.inr e)
theorem says_of {l : List UInt8} {ws : List (List UInt8)} {a : Int} (hr : readW ws = (a, true)) (hw : ascii l = true → ws = words l) (hf : l = form a 0 ∨ l = form a 1 ∨ l = form a 2) : Says l a := by
  have hb : 0 ≤ a ∧ a ≤ last := by
    unfold readW at hr
    split at hr
    · split at hr
      · simp only [Prod.mk.injEq, Bool.and_eq_true, decide_eq_true_eq] at hr
        rw [← hr.1]; exact hr.2
      · simp at hr
    · simp at hr
  refine ⟨hb.1, hb.2, ?_⟩
  rcases hf with e | e | e
  · exact .inl e
  · refine .inr (.inl ⟨?_, e⟩)
    obtain ⟨y, m, d, hd, hp⟩ := parts_of hb.1 hb.2
    have he := e
    rw [form1 hd] at he
    have hs := mom_short hd
    rw [hw (by rw [he]; exact ascii_f1 hp), he, momW_f1 hp] at hr
    rw [(Prod.mk.inj hr).1] at hs
    exact hs
  · exact .inr (.inr e)
theorem silent_parse {l : List UInt8} {ws : List (List UInt8)} (h : ∀ a, ¬ Says l a) (hw : ascii l = true → ws = words l) : parseW l ws = (0, 10) := by
  unfold parseW
  split
  · rfl
  · rw [if_neg]
    rintro ⟨hr, hf⟩
    exact h _ (says_of (a := (readW ws).1) (by rw [← hr]) hw hf)
end Dt

namespace Dt

def digit (c : UInt8) : Bool := decide (48 ≤ c.toNat) && decide (c.toNat ≤ 57)
def numV (l : List UInt8) : Int := l.foldl (fun n c => n * 10 + ((c.toNat : Int) - 48)) 0
def numR (l : List UInt8) : Int := if l.all digit then numV l else -1
theorem numV_snoc (l : List UInt8) (c : UInt8) : numV (l ++ [c]) = numV l * 10 + ((c.toNat : Int) - 48) := by unfold numV; rw [List.foldl_append]; rfl
theorem digit_bd {c : UInt8} (h : digit c = true) : 48 ≤ c.toNat ∧ c.toNat ≤ 57 := by
  unfold digit at h; simpa using h
theorem numV_bd (l : List UInt8) (h : l.all digit = true) : 0 ≤ numV l ∧ numV l < 10 ^ l.length := by
  have key : ∀ r : List UInt8, r.reverse.all digit = true → 0 ≤ numV r.reverse ∧ numV r.reverse < 10 ^ r.length := by
    intro r
    induction r with
    | nil => intro _; exact ⟨by decide, by decide⟩
    | cons c r ih =>
      intro h
      rw [List.reverse_cons, List.all_append, Bool.and_eq_true] at h
      have h1 := ih h.1
      have h2 := digit_bd (c := c) (by simpa using h.2)
      rw [List.reverse_cons, numV_snoc, List.length_cons, Int.pow_succ]
      omega
  have := key l.reverse (by simpa using h)
  simpa using this
theorem numR_bd (l : List UInt8) (n : Nat) (hn : l.length ≤ n) : -1 ≤ numR l ∧ numR l < 10 ^ n := by
  have hp : (10 : Int) ^ l.length ≤ 10 ^ n := by have := Nat.pow_le_pow_right (n := 10) (by omega) hn; exact_mod_cast this
  have h1 : (0 : Int) < 10 ^ n := Int.pow_pos (by omega)
  unfold numR
  split
  · have := numV_bd l (by assumption); omega
  · omega
def finR (l : List UInt8) : Int := match mIdx l with | some i => (i : Int) | none => -1
theorem finR_bd (l : List UInt8) : -1 ≤ finR l ∧ finR l ≤ 11 := by
  unfold finR
  split
  · have := mIdx_lt (by assumption); omega
  · omega
def valid (y m d h mi se : Int) : Prop := 1970 ≤ y ∧ 0 ≤ m ∧ 1 ≤ d ∧ d ≤ ml y m ∧ 0 ≤ h ∧ h ≤ 23 ∧ 0 ≤ mi ∧ mi ≤ 59 ∧ 0 ≤ se ∧ se ≤ 59
instance (y m d h mi se : Int) : Decidable (valid y m d h mi se) := by unfold valid; exact inferInstance
def momR (y m d h mi se : Int) : Int := if valid y m d h mi se then (d - 1 + ny y + cum y m) * 86400 + h * 3600 + mi * 60 + se else -1
theorem momR_date {y m d h mi se : Int} (hy : y ≤ 9999) (hm : m ≤ 11) (h0 : 0 ≤ momR y m d h mi se) : ∃ D, IsDate (momR y m d h mi se / 86400) y m D ∧ 0 ≤ momR y m d h mi se ∧ momR y m d h mi se ≤ last := by
  unfold momR at h0 ⊢
  split
  · rename_i hv
    obtain ⟨a, b, c, e, f, g, i, j, k, l⟩ := hv
    have hd : IsDate (d - 1 + ny y + cum y m) y m d := ⟨a, hy, b, hm, c, e, by omega⟩
    have hr := hd.range
    have e2 : ((d - 1 + ny y + cum y m) * 86400 + h * 3600 + mi * 60 + se) / 86400 = d - 1 + ny y + cum y m := by omega
    rw [e2]
    refine ⟨d, hd, by omega, ?_⟩
    unfold last; omega
  · rename_i hv
    rw [if_neg hv] at h0; omega
theorem momR_of {a y m d : Int} (_h0 : 0 ≤ a) (h : IsDate (a / 86400) y m d) : momR y m d (a % 86400 / 3600) (a % 86400 / 60 % 60) (a % 86400 % 60) = a := by
  have hn := h.n_
  have hv : valid y m d (a % 86400 / 3600) (a % 86400 / 60 % 60) (a % 86400 % 60) := ⟨h.y0, h.m0, h.d0, h.d1, by omega, by omega, by omega, by omega, by omega, by omega⟩
  unfold momR
  rw [if_pos hv]
  omega
def cut (l : List UInt8) (f t : Nat) : List UInt8 := (l.take t).drop f
theorem cut_len (l : List UInt8) (f t : Nat) : (cut l f t).length ≤ t - f := by unfold cut; rw [List.length_drop, List.length_take]; omega
def at0 (l : List UInt8) : Int := momR (numR (cut l 12 16)) (finR (cut l 8 11)) (numR (cut l 5 7)) (numR (cut l 17 19)) (numR (cut l 20 22)) (numR (cut l 23 25))
def from2 (l : List UInt8) : Nat := if l.getD 8 0 = 32 then 9 else 8
def at2 (l : List UInt8) : Int := momR (numR (cut l 20 24)) (finR (cut l 4 7)) (numR (cut l (from2 l) 10)) (numR (cut l 11 13)) (numR (cut l 14 16)) (numR (cut l 17 19))
def y1 (l : List UInt8) (k : Nat) : Int := numR (cut l (k + 9) (k + 11))
def at1 (l : List UInt8) (k : Nat) : Int := momR ((if y1 l k < 70 then y1 l k + 100 else y1 l k) + 1900) (finR (cut l (k + 5) (k + 8))) (numR (cut l (k + 2) (k + 4))) (numR (cut l (k + 12) (k + 14))) (numR (cut l (k + 15) (k + 17))) (numR (cut l (k + 18) (k + 20)))
theorem dc_nat (k : Int) (h0 : 0 ≤ k) (h1 : k < 10) : ((dc k).toNat : Int) = 48 + k := by
  unfold dc
  rw [Oct.ch_small _ (by omega)]; omega
theorem digit_dc (k : Int) (h0 : 0 ≤ k) (h1 : k < 10) : digit (dc k) = true := by
  have := dc_nat k h0 h1
  unfold digit
  simp; omega
theorem numR_d1 (n : Int) (h0 : 0 ≤ n) (h1 : n < 10) : numR [dc n] = n := by
  have a := dc_nat n h0 h1
  unfold numR
  rw [if_pos (by simp [digit_dc n h0 h1])]
  simp [numV]; omega
theorem numR_d2 (n : Int) (h0 : 0 ≤ n) (h1 : n < 100) : numR (d2 n) = n := by
  have a := dc_nat (n / 10) (by omega) (by omega)
  have b := dc_nat (n % 10) (by omega) (by omega)
  unfold numR d2
  rw [if_pos (by simp [digit_dc (n / 10) (by omega) (by omega), digit_dc (n % 10) (by omega) (by omega)])]
  simp [numV]; omega
theorem numR_d4 (n : Int) (h0 : 0 ≤ n) (h1 : n < 10000) : numR (d4 n) = n := by
  have a := dc_nat (n / 1000) (by omega) (by omega)
  have b := dc_nat (n / 100 % 10) (by omega) (by omega)
  have c := dc_nat (n / 10 % 10) (by omega) (by omega)
  have d := dc_nat (n % 10) (by omega) (by omega)
  unfold numR d4
  rw [if_pos (by simp [digit_dc (n / 1000) (by omega) (by omega), digit_dc (n / 100 % 10) (by omega) (by omega), digit_dc (n / 10 % 10) (by omega) (by omega), digit_dc (n % 10) (by omega) (by omega)])]
  simp [numV]; omega
theorem finR_mon (m : Int) (h0 : 0 ≤ m) (h1 : m ≤ 11) : finR (monN m) = m := by
  unfold finR
  rw [mIdx_some (w := monN m) (i := m.toNat) (by omega) rfl]
  simp; omega
theorem three {w : Int} (h0 : 0 ≤ w) (h1 : w < 7) : ∃ a b c, (dayN w).take 3 = [a, b, c] := by
  rcases w_cases h0 h1 with rfl | rfl | rfl | rfl | rfl | rfl | rfl <;> exact ⟨_, _, _, rfl⟩
theorem threeM {m : Int} (h0 : 0 ≤ m) (h1 : m ≤ 11) : ∃ a b c, monN m = [a, b, c] := by
  rcases m_cases h0 h1 with rfl | rfl | rfl | rfl | rfl | rfl | rfl | rfl | rfl | rfl | rfl | rfl <;> exact ⟨_, _, _, rfl⟩
theorem at0_f0 {y m d w s : Int} (h : Parts y m d w s) : at0 (f0 y m d w s) = momR y m d (s / 3600) (s / 60 % 60) (s % 60) := by
  obtain ⟨a, b, c, e, f, g, i, j, k, l⟩ := h
  obtain ⟨p1, p2, p3, hp⟩ := three i j
  obtain ⟨q1, q2, q3, hq⟩ := threeM c e
  have hm := finR_mon m c e
  rw [hq] at hm
  have hL : f0 y m d w s = p1 :: p2 :: p3 :: 44 :: 32 :: (d2 d ++ 32 :: q1 :: q2 :: q3 :: 32 :: (d4 y ++ 32 :: (d2 (s / 3600) ++ 58 :: (d2 (s / 60 % 60) ++ 58 :: (d2 (s % 60) ++ 32 :: gmt))))) := by
    unfold f0 clock; rw [hp, hq]; simp
  unfold at0
  rw [hL]
  have e1 : cut (p1 :: p2 :: p3 :: 44 :: 32 :: (d2 d ++ 32 :: q1 :: q2 :: q3 :: 32 :: (d4 y ++ 32 :: (d2 (s / 3600) ++ 58 :: (d2 (s / 60 % 60) ++ 58 :: (d2 (s % 60) ++ 32 :: gmt)))))) 12 16 = d4 y := rfl
  have e2 : cut (p1 :: p2 :: p3 :: 44 :: 32 :: (d2 d ++ 32 :: q1 :: q2 :: q3 :: 32 :: (d4 y ++ 32 :: (d2 (s / 3600) ++ 58 :: (d2 (s / 60 % 60) ++ 58 :: (d2 (s % 60) ++ 32 :: gmt)))))) 8 11 = [q1, q2, q3] := rfl
  have e3 : cut (p1 :: p2 :: p3 :: 44 :: 32 :: (d2 d ++ 32 :: q1 :: q2 :: q3 :: 32 :: (d4 y ++ 32 :: (d2 (s / 3600) ++ 58 :: (d2 (s / 60 % 60) ++ 58 :: (d2 (s % 60) ++ 32 :: gmt)))))) 5 7 = d2 d := rfl
  have e4 : cut (p1 :: p2 :: p3 :: 44 :: 32 :: (d2 d ++ 32 :: q1 :: q2 :: q3 :: 32 :: (d4 y ++ 32 :: (d2 (s / 3600) ++ 58 :: (d2 (s / 60 % 60) ++ 58 :: (d2 (s % 60) ++ 32 :: gmt)))))) 17 19 = d2 (s / 3600) := rfl
  have e5 : cut (p1 :: p2 :: p3 :: 44 :: 32 :: (d2 d ++ 32 :: q1 :: q2 :: q3 :: 32 :: (d4 y ++ 32 :: (d2 (s / 3600) ++ 58 :: (d2 (s / 60 % 60) ++ 58 :: (d2 (s % 60) ++ 32 :: gmt)))))) 20 22 = d2 (s / 60 % 60) := rfl
  have e6 : cut (p1 :: p2 :: p3 :: 44 :: 32 :: (d2 d ++ 32 :: q1 :: q2 :: q3 :: 32 :: (d4 y ++ 32 :: (d2 (s / 3600) ++ 58 :: (d2 (s / 60 % 60) ++ 58 :: (d2 (s % 60) ++ 32 :: gmt)))))) 23 25 = d2 (s % 60) := rfl
  rw [e1, e2, e3, e4, e5, e6, numR_d4 y (by omega) (by omega), hm, numR_d2 d (by omega) (by omega), numR_d2 _ (by omega) (by omega), numR_d2 _ (by omega) (by omega), numR_d2 _ (by omega) (by omega)]
theorem at2_f2 {y m d w s : Int} (h : Parts y m d w s) : at2 (f2 y m d w s) = momR y m d (s / 3600) (s / 60 % 60) (s % 60) := by
  obtain ⟨a, b, c, e, f, g, i, j, k, l⟩ := h
  obtain ⟨p1, p2, p3, hp⟩ := three i j
  obtain ⟨q1, q2, q3, hq⟩ := threeM c e
  have hm := finR_mon m c e
  rw [hq] at hm
  obtain ⟨x, hx⟩ : ∃ x, (if d < 10 then (32 : UInt8) else dc (d / 10)) = x := ⟨_, rfl⟩
  have hL : f2 y m d w s = p1 :: p2 :: p3 :: 32 :: q1 :: q2 :: q3 :: 32 :: x :: dc (d % 10) :: 32 :: (d2 (s / 3600) ++ 58 :: (d2 (s / 60 % 60) ++ 58 :: (d2 (s % 60) ++ 32 :: d4 y))) := by
    unfold f2 clock db; rw [hp, hq, hx]; simp
  unfold at2
  rw [hL]
  have e0 : numR (cut (p1 :: p2 :: p3 :: 32 :: q1 :: q2 :: q3 :: 32 :: x :: dc (d % 10) :: 32 :: (d2 (s / 3600) ++ 58 :: (d2 (s / 60 % 60) ++ 58 :: (d2 (s % 60) ++ 32 :: d4 y)))) (from2 (p1 :: p2 :: p3 :: 32 :: q1 :: q2 :: q3 :: 32 :: x :: dc (d % 10) :: 32 :: (d2 (s / 3600) ++ 58 :: (d2 (s / 60 % 60) ++ 58 :: (d2 (s % 60) ++ 32 :: d4 y))))) 10) = d := by
    by_cases hd : d < 10
    · rw [if_pos hd] at hx
      have : from2 (p1 :: p2 :: p3 :: 32 :: q1 :: q2 :: q3 :: 32 :: x :: dc (d % 10) :: 32 :: (d2 (s / 3600) ++ 58 :: (d2 (s / 60 % 60) ++ 58 :: (d2 (s % 60) ++ 32 :: d4 y)))) = 9 := by
        unfold from2; exact if_pos hx.symm
      rw [this]
      show numR [dc (d % 10)] = d
      rw [numR_d1 _ (by omega) (by omega)]; omega
    · rw [if_neg hd] at hx
      have : from2 (p1 :: p2 :: p3 :: 32 :: q1 :: q2 :: q3 :: 32 :: x :: dc (d % 10) :: 32 :: (d2 (s / 3600) ++ 58 :: (d2 (s / 60 % 60) ++ 58 :: (d2 (s % 60) ++ 32 :: d4 y)))) = 8 := by
        unfold from2
        refine if_neg ?_
        show ¬ x = 32
        rw [← hx]
        exact dc_ne32 _ (by omega) (by omega)
      rw [this, ← hx]
      show numR (d2 d) = d
      exact numR_d2 d (by omega) (by omega)
  rw [e0]
  have e1 : cut (p1 :: p2 :: p3 :: 32 :: q1 :: q2 :: q3 :: 32 :: x :: dc (d % 10) :: 32 :: (d2 (s / 3600) ++ 58 :: (d2 (s / 60 % 60) ++ 58 :: (d2 (s % 60) ++ 32 :: d4 y)))) 20 24 = d4 y := rfl
  have e2 : cut (p1 :: p2 :: p3 :: 32 :: q1 :: q2 :: q3 :: 32 :: x :: dc (d % 10) :: 32 :: (d2 (s / 3600) ++ 58 :: (d2 (s / 60 % 60) ++ 58 :: (d2 (s % 60) ++ 32 :: d4 y)))) 4 7 = [q1, q2, q3] := rfl
  have e4 : cut (p1 :: p2 :: p3 :: 32 :: q1 :: q2 :: q3 :: 32 :: x :: dc (d % 10) :: 32 :: (d2 (s / 3600) ++ 58 :: (d2 (s / 60 % 60) ++ 58 :: (d2 (s % 60) ++ 32 :: d4 y)))) 11 13 = d2 (s / 3600) := rfl
  have e5 : cut (p1 :: p2 :: p3 :: 32 :: q1 :: q2 :: q3 :: 32 :: x :: dc (d % 10) :: 32 :: (d2 (s / 3600) ++ 58 :: (d2 (s / 60 % 60) ++ 58 :: (d2 (s % 60) ++ 32 :: d4 y)))) 14 16 = d2 (s / 60 % 60) := rfl
  have e6 : cut (p1 :: p2 :: p3 :: 32 :: q1 :: q2 :: q3 :: 32 :: x :: dc (d % 10) :: 32 :: (d2 (s / 3600) ++ 58 :: (d2 (s / 60 % 60) ++ 58 :: (d2 (s % 60) ++ 32 :: d4 y)))) 17 19 = d2 (s % 60) := rfl
  rw [e1, e2, e4, e5, e6, numR_d4 y (by omega) (by omega), hm, numR_d2 _ (by omega) (by omega), numR_d2 _ (by omega) (by omega), numR_d2 _ (by omega) (by omega)]
theorem cut_app (x r : List UInt8) (f t : Nat) : cut (x ++ r) (x.length + f) (x.length + t) = cut r f t := by
  unfold cut
  rw [List.take_length_add_append, List.drop_length_add_append]
theorem at1_f1 {y m d w s : Int} (h : Parts y m d w s) : y1 (f1 y m d w s) (dayN w).length = y % 100 ∧ at1 (f1 y m d w s) (dayN w).length = momR (full (y % 100)) m d (s / 3600) (s / 60 % 60) (s % 60) := by
  obtain ⟨a, b, c, e, f, g, i, j, k, l⟩ := h
  obtain ⟨q1, q2, q3, hq⟩ := threeM c e
  have hm := finR_mon m c e
  rw [hq] at hm
  have hL : f1 y m d w s = dayN w ++ (44 :: 32 :: (d2 d ++ 45 :: q1 :: q2 :: q3 :: 45 :: (d2 (y % 100) ++ 32 :: (d2 (s / 3600) ++ 58 :: (d2 (s / 60 % 60) ++ 58 :: (d2 (s % 60) ++ 32 :: gmt)))))) := by
    unfold f1 clock; rw [hq]; simp
  have hy : y1 (f1 y m d w s) (dayN w).length = y % 100 := by
    unfold y1
    rw [hL, cut_app]
    exact numR_d2 _ (by omega) (by omega)
  refine ⟨hy, ?_⟩
  unfold at1
  rw [hy, hL, cut_app, cut_app, cut_app, cut_app, cut_app]
  have e2 : cut (44 :: 32 :: (d2 d ++ 45 :: q1 :: q2 :: q3 :: 45 :: (d2 (y % 100) ++ 32 :: (d2 (s / 3600) ++ 58 :: (d2 (s / 60 % 60) ++ 58 :: (d2 (s % 60) ++ 32 :: gmt)))))) 5 8 = [q1, q2, q3] := rfl
  have e3 : cut (44 :: 32 :: (d2 d ++ 45 :: q1 :: q2 :: q3 :: 45 :: (d2 (y % 100) ++ 32 :: (d2 (s / 3600) ++ 58 :: (d2 (s / 60 % 60) ++ 58 :: (d2 (s % 60) ++ 32 :: gmt)))))) 2 4 = d2 d := rfl
  have e4 : cut (44 :: 32 :: (d2 d ++ 45 :: q1 :: q2 :: q3 :: 45 :: (d2 (y % 100) ++ 32 :: (d2 (s / 3600) ++ 58 :: (d2 (s / 60 % 60) ++ 58 :: (d2 (s % 60) ++ 32 :: gmt)))))) 12 14 = d2 (s / 3600) := rfl
  have e5 : cut (44 :: 32 :: (d2 d ++ 45 :: q1 :: q2 :: q3 :: 45 :: (d2 (y % 100) ++ 32 :: (d2 (s / 3600) ++ 58 :: (d2 (s / 60 % 60) ++ 58 :: (d2 (s % 60) ++ 32 :: gmt)))))) 15 17 = d2 (s / 60 % 60) := rfl
  have e6 : cut (44 :: 32 :: (d2 d ++ 45 :: q1 :: q2 :: q3 :: 45 :: (d2 (y % 100) ++ 32 :: (d2 (s / 3600) ++ 58 :: (d2 (s / 60 % 60) ++ 58 :: (d2 (s % 60) ++ 32 :: gmt)))))) 18 20 = d2 (s % 60) := rfl
  rw [e2, e3, e4, e5, e6, hm, numR_d2 d (by omega) (by omega), numR_d2 _ (by omega) (by omega), numR_d2 _ (by omega) (by omega), numR_d2 _ (by omega) (by omega)]
  unfold full
  congr 1
  split <;> omega
def Named (l : List UInt8) (w : Nat) : Prop := l.length = (dayNames.getD w []).length + 24 ∧ l.take (dayNames.getD w []).length = dayNames.getD w []
theorem Named.one {l : List UInt8} {w v : Nat} (hw : w < 7) (hv : v < 7) (h : Named l w) (h' : Named l v) : w = v := by
  have e : dayNames.getD w [] = dayNames.getD v [] := by
    have hl : (dayNames.getD w []).length = (dayNames.getD v []).length := by have := h.1; have := h'.1; omega
    rw [← h.2, ← h'.2, hl]
  have a : w = 0 ∨ w = 1 ∨ w = 2 ∨ w = 3 ∨ w = 4 ∨ w = 5 ∨ w = 6 := by omega
  have b : v = 0 ∨ v = 1 ∨ v = 2 ∨ v = 3 ∨ v = 4 ∨ v = 5 ∨ v = 6 := by omega
  rcases a with rfl | rfl | rfl | rfl | rfl | rfl | rfl <;> rcases b with rfl | rfl | rfl | rfl | rfl | rfl | rfl <;> first | rfl | (exact absurd e (by decide))
def Hit (l : List UInt8) (w : Nat) : Prop := Named l w ∧ 0 ≤ at1 l (dayNames.getD w []).length ∧ l = form (at1 l (dayNames.getD w []).length) 1
theorem len_form {a : Int} (h0 : 0 ≤ a) (h1 : a ≤ last) : (form a 0).length = 29 ∧ 30 ≤ (form a 1).length ∧ (form a 1).length ≤ 33 ∧ (form a 2).length = 24 := by
  obtain ⟨y, m, d, hd, hp⟩ := parts_of h0 h1
  have hw := (dayN_all hp.w0 hp.w1).2.2
  rw [form0 hd, form1 hd, form2 hd, len_f0 hp, len_f1 hp, len_f2 hp]
  omega
theorem says29 {l : List UInt8} {a : Int} (hl : l.length = 29) (h : Says l a) : at0 l = a ∧ l = form a 0 := by
  obtain ⟨h0, h1, h⟩ := h
  have hf := len_form h0 h1
  have hx : l = form a 0 := by
    rcases h with e | ⟨_, e⟩ | e
    · exact e
    · rw [e] at hl; omega
    · rw [e] at hl; omega
  refine ⟨?_, hx⟩
  obtain ⟨y, m, d, hd, hp⟩ := parts_of h0 h1
  rw [hx, form0 hd, at0_f0 hp, momR_of h0 hd]
theorem says24 {l : List UInt8} {a : Int} (hl : l.length = 24) (h : Says l a) : at2 l = a ∧ l = form a 2 := by
  obtain ⟨h0, h1, h⟩ := h
  have hf := len_form h0 h1
  have hx : l = form a 2 := by
    rcases h with e | ⟨_, e⟩ | e
    · rw [e] at hl; omega
    · rw [e] at hl; omega
    · exact e
  refine ⟨?_, hx⟩
  obtain ⟨y, m, d, hd, hp⟩ := parts_of h0 h1
  rw [hx, form2 hd, at2_f2 hp, momR_of h0 hd]
theorem saysX {l : List UInt8} {a : Int} (hl : ¬ l.length = 29) (hl' : ¬ l.length = 24) (h : Says l a) : ∃ w : Nat, w < 7 ∧ Hit l w ∧ 0 ≤ y1 l (dayNames.getD w []).length ∧ at1 l (dayNames.getD w []).length = a := by
  obtain ⟨h0, h1, h⟩ := h
  have hf := len_form h0 h1
  have hx : a ≤ lastForms ∧ l = form a 1 := by
    rcases h with e | e | e
    · rw [e] at hl; omega
    · exact e
    · rw [e] at hl'; omega
  obtain ⟨y, m, d, hd, hp⟩ := parts_of h0 h1
  have hn : (wday (a / 86400)).toNat < 7 := by have := wday_bd (a / 86400); omega
  have ha := at1_f1 hp
  have hfb := full_back hd.y0 ((years_forms hd).1 hx.1)
  rw [hfb, momR_of h0 hd] at ha
  have hlf : l = f1 y m d (wday (a / 86400)) (a % 86400) := by rw [← form1 hd]; exact hx.2
  have hdn : dayNames.getD (wday (a / 86400)).toNat [] = dayN (wday (a / 86400)) := rfl
  refine ⟨(wday (a / 86400)).toNat, hn, ⟨⟨?_, ?_⟩, ?_, ?_⟩, ?_, ?_⟩
  · rw [hdn, hlf, len_f1 hp]
  · rw [hdn, hlf]; unfold f1; rw [List.take_left]
  · rw [hdn, hlf, ha.2]; exact h0
  · rw [hdn]; conv => rhs; rw [hlf, ha.2]
    exact hx.2
  · rw [hdn, hlf, ha.1]; omega
  · rw [hdn, hlf, ha.2]
theorem numR_4 (l : List UInt8) (f t : Nat) (h : t - f ≤ 4) : -1 ≤ numR (cut l f t) ∧ numR (cut l f t) ≤ 9999 := by
  have := numR_bd (cut l f t) 4 (by have := cut_len l f t; omega)
  omega
theorem numR_2 (l : List UInt8) (f t : Nat) (h : t - f ≤ 2) : -1 ≤ numR (cut l f t) ∧ numR (cut l f t) ≤ 99 := by
  have := numR_bd (cut l f t) 2 (by have := cut_len l f t; omega)
  omega
theorem at0_bd (l : List UInt8) (h : 0 ≤ at0 l) : at0 l ≤ last := by
  obtain ⟨D, _, _, h3⟩ := momR_date (numR_4 l 12 16 (by omega)).2 (finR_bd _).2 h
  exact h3
theorem at2_bd (l : List UInt8) (h : 0 ≤ at2 l) : at2 l ≤ last := by
  obtain ⟨D, _, _, h3⟩ := momR_date (numR_4 l 20 24 (by omega)).2 (finR_bd _).2 h
  exact h3
theorem at1_bd (l : List UInt8) (k : Nat) (h : 0 ≤ at1 l k) (hy : 0 ≤ y1 l k) : at1 l k ≤ lastForms := by
  have hb := numR_2 l (k + 9) (k + 11) (by omega)
  have hb' : y1 l k ≤ 99 := hb.2
  obtain ⟨D, h1, h2, h3⟩ := momR_date (by split <;> omega) (finR_bd _).2 h
  exact (years_forms h1).2 (by split <;> omega)
theorem lastForms_last : lastForms ≤ last := by decide
theorem hit_says {l : List UInt8} {w : Nat} (h : Hit l w) (hy : 0 ≤ y1 l (dayNames.getD w []).length) : Says l (at1 l (dayNames.getD w []).length) :=
  ⟨h.2.1, Int.le_trans (at1_bd l _ h.2.1 hy) lastForms_last, .inr (.inl ⟨at1_bd l _ h.2.1 hy, h.2.2⟩)⟩
open Classical in
noncomputable def asked (l : List UInt8) : Int × Int := if h : ∃ a, Says l a then (choose h, 0) else (0, 10)
theorem asked_yes {l : List UInt8} {a : Int} (h : Says l a) : asked l = (a, 0) := by
  have he : ∃ a, Says l a := ⟨a, h⟩
  unfold asked
  rw [dif_pos he, (Classical.choose_spec he).one h]
theorem asked_no {l : List UInt8} (h : ∀ a, ¬ Says l a) : asked l = (0, 10) := by
  unfold asked
  rw [dif_neg (fun ⟨a, ha⟩ => h a ha)]
end Dt

namespace Fld
open Oct (token value lower trim)

abbrev F := List UInt8 × List UInt8
def right (f : F) : Bool := token f.1 && value f.2
def weight (f : F) : Nat := f.1.length + f.2.length + 4
def line (f : F) : List UInt8 := f.1 ++ [58, 32] ++ f.2 ++ [13, 10]
def lines (fs : List F) : List UInt8 := fs.flatMap line
def print (fs : List F) : List UInt8 := lines fs ++ [13, 10]
def size (fs : List F) : Nat := 2 + (fs.map weight).sum
theorem size_snoc (fs : List F) (k : Nat) (h : k < fs.length) : size (fs.take (k + 1)) = size (fs.take k) + weight fs[k] := by
  unfold size; rw [List.take_succ_eq_append_getElem h, List.map_append, List.sum_append]
  show 2 + (((fs.take k).map weight).sum + (weight fs[k] + 0)) = _
  omega
theorem take_whole {α : Type} (fs : List α) (k : Nat) (h : fs.length ≤ k) : fs.take k = fs := List.take_of_length_le h
def isC (l : List UInt8) (i : Nat) : Prop := l[i]? = some 13 ∧ l[i + 1]? = some 10
instance (l : List UInt8) (i : Nat) : Decidable (isC l i) := by unfold isC; infer_instance
end Fld

namespace Fld
open Oct (lower)

def named (n : List UInt8) (f : F) : Bool := lower f.1 == lower n
def get (fs : List F) (n : List UInt8) : List (List UInt8) := (fs.filter (named n)).map (·.2)
def without (fs : List F) (n : List UInt8) : List F := fs.filter fun f => !named n f
def drop (fs : List F) (mem : List UInt8 → Bool) : List F := fs.filter fun f => !mem (lower f.1)
theorem fone {α : Type} (p : α → Bool) (a : α) : [a].filter p = if p a then [a] else [] := by cases h : p a <;> simp [h]
theorem get_yes {fs : List F} {n : List UInt8} {k : Nat} (h : k < fs.length) (hn : named n fs[k] = true) : get (fs.take (k + 1)) n = get (fs.take k) n ++ [fs[k].2] := by
  unfold get; rw [List.take_succ_eq_append_getElem h, List.filter_append, List.map_append, fone, if_pos hn]; rfl
theorem get_no {fs : List F} {n : List UInt8} {k : Nat} (h : k < fs.length) (hn : named n fs[k] = false) : get (fs.take (k + 1)) n = get (fs.take k) n := by
  unfold get; rw [List.take_succ_eq_append_getElem h, List.filter_append, List.map_append, fone, hn]; simp
theorem get_length (fs : List F) (n : List UInt8) : (get fs n).length ≤ fs.length := by
  unfold get; rw [List.length_map]; exact List.length_filter_le _ _
theorem get_small {fs : List F} {n : List UInt8} {m : Nat} (h : ∀ f ∈ fs, f.2.length ≤ m) : ∀ l ∈ get fs n, l.length ≤ m := by
  intro l hl
  obtain ⟨f, hf, rfl⟩ := List.mem_map.1 hl
  exact h f (List.mem_filter.1 hf).1
theorem drop_zero (fs : List F) (mem : List UInt8 → Bool) : drop (fs.take 0) mem = [] := rfl
theorem drop_length (fs : List F) (mem : List UInt8 → Bool) : (drop fs mem).length ≤ fs.length := List.length_filter_le _ _
theorem drop_sub {fs : List F} {mem : List UInt8 → Bool} {f : F} (h : f ∈ drop fs mem) : f ∈ fs := (List.mem_filter.1 h).1
theorem without_drop (fs : List F) (n : List UInt8) : without fs n = drop fs (fun l => l == lower n) := rfl
def withoutAll (fs : List F) (ns : List (List UInt8)) : List F := ns.foldl without fs
theorem withoutAll_drop (ns : List (List UInt8)) : ∀ (fs : List F), withoutAll fs ns = drop fs (fun l => (ns.map lower).contains l) := by
  induction ns with
  | nil => intro fs; unfold withoutAll drop; exact (List.filter_eq_self.2 (fun _ _ => rfl)).symm
  | cons n r ih =>
    intro fs
    show withoutAll (without fs n) r = _
    rw [ih, without_drop]
    unfold drop
    rw [List.filter_filter]
    congr 1
    funext f
    show (!(r.map lower).contains (lower f.1) && !(lower f.1 == lower n)) = !(lower n :: r.map lower).contains (lower f.1)
    rw [List.contains_cons]
    cases h : lower f.1 == lower n <;> simp
theorem withoutAll_sub (ns : List (List UInt8)) (fs : List F) {f : F} (h : f ∈ withoutAll fs ns) : f ∈ fs := by
  rw [withoutAll_drop] at h; exact drop_sub h
theorem withoutAll_length (ns : List (List UInt8)) (fs : List F) : (withoutAll fs ns).length ≤ fs.length := by
  rw [withoutAll_drop]; exact drop_length _ _
end Fld

namespace Ctl
open Oct

structure C where
  ns : Bool
  nc : Bool
  pu : Bool
  pr : Bool
  mu : Bool
  px : Bool
  oi : Bool
  ma : Int
  sa : Int
  ms : Int
  mf : Int
deriving DecidableEq
def none0 : C := ⟨false, false, false, false, false, false, false, -1, -1, -1, -1⟩
def kNS : List UInt8 := [110, 111, 45, 115, 116, 111, 114, 101]
def kNC : List UInt8 := [110, 111, 45, 99, 97, 99, 104, 101]
def kPU : List UInt8 := [112, 117, 98, 108, 105, 99]
def kPR : List UInt8 := [112, 114, 105, 118, 97, 116, 101]
def kMU : List UInt8 := [109, 117, 115, 116, 45, 114, 101, 118, 97, 108, 105, 100, 97, 116, 101]
def kPX : List UInt8 := [112, 114, 111, 120, 121, 45, 114, 101, 118, 97, 108, 105, 100, 97, 116, 101]
def kOI : List UInt8 := [111, 110, 108, 121, 45, 105, 102, 45, 99, 97, 99, 104, 101, 100]
def kMA : List UInt8 := [109, 97, 120, 45, 97, 103, 101]
def kSA : List UInt8 := [115, 45, 109, 97, 120, 97, 103, 101]
def kMS : List UInt8 := [109, 97, 120, 45, 115, 116, 97, 108, 101]
def kMF : List UInt8 := [109, 105, 110, 45, 102, 114, 101, 115, 104]
def known : List (List UInt8) := [kNS, kNC, kPU, kPR, kMU, kPX, kOI, kMA, kSA, kMS, kMF]
def eqAt : List UInt8 → Nat
  | [] => 0
  | c :: r => if c = 61 then 0 else eqAt r + 1
theorem eqAt_le (l : List UInt8) : eqAt l ≤ l.length := by
  induction l with
  | nil => exact Nat.le_refl 0
  | cons c r ih => unfold eqAt; split <;> simp <;> omega
theorem eqAt_index (l : List UInt8) : Go.Lib.indexByte l 61 = if eqAt l = l.length then -1 else (eqAt l : Int) := by
  induction l with
  | nil => rfl
  | cons c r ih =>
    have hle := eqAt_le r
    have he : eqAt (c :: r) = if c = 61 then 0 else eqAt r + 1 := by rw [eqAt]
    rw [he]
    by_cases hc : c = 61
    · subst hc; simp [Go.Lib.indexByte]
    · have hb : (c == 61) = false := beq_eq_false_iff_ne.2 hc
      simp only [Go.Lib.indexByte, hb, Bool.false_eq_true, if_false, if_neg hc, ih]
      by_cases hr : eqAt r = r.length
      · rw [if_pos hr]; simp [hr]
      · rw [if_neg hr]
        have : ((eqAt r : Int) == -1) = false := beq_eq_false_iff_ne.2 (by omega)
        simp [this, hr]
def argument (s : List UInt8) : Option (List UInt8) := if token s then some s else match unquote s with
  | some (t, n) => if n = s.length then some t else none
  | none => none
theorem unq_len : ∀ (l : List UInt8) (e : Bool) (t : List UInt8) (n : Nat), unq e l = some (t, n) → t.length ≤ l.length
  | [], _, _, _, h => by simp [unq] at h
  | c :: r, e, t, n, h => by
    unfold unq at h
    split at h
    · cases h
    · split at h
      · cases hr : unq false r with
        | none => rw [hr] at h; cases h
        | some x =>
          rw [hr] at h
          have := unq_len r false x.1 x.2 hr
          injection h with h; injection h with h _; rw [← h]; simpa using this
      · split at h
        · cases hr : unq true r with
          | none => rw [hr] at h; cases h
          | some x =>
            rw [hr] at h
            have := unq_len r true x.1 x.2 hr
            injection h with h; injection h with h _; rw [← h]; simp; omega
        · split at h
          · injection h with h; injection h with h _; rw [← h]; simp
          · cases hr : unq false r with
            | none => rw [hr] at h; cases h
            | some x =>
              rw [hr] at h
              have := unq_len r false x.1 x.2 hr
              injection h with h; injection h with h _; rw [← h]; simpa using this
theorem unquote_len {l t : List UInt8} {n : Nat} (h : unquote l = some (t, n)) : t.length ≤ l.length := by
  cases l with
  | nil => cases h
  | cons c r =>
    unfold unquote at h
    split at h
    · cases h
    · rename_i d s heq
      injection heq with _ e2
      subst e2
      first
        | (split at h
           · cases hr : unq false r with
             | none => rw [hr] at h; cases h
             | some x =>
               rw [hr] at h
               have := unq_len r false x.1 x.2 hr
               injection h with h; injection h with h _; rw [← h]; simp; omega
           · cases h)
theorem argument_len {s a : List UInt8} (h : argument s = some a) : a.length ≤ s.length := by
  unfold argument at h
  split at h
  · injection h with h; rw [h]; exact Nat.le_refl _
  · split at h
    · rename_i t n hu
      split at h
      · injection h with h; rw [← h]; exact unquote_len hu
      · cases h
    · cases h
def worth (s : List UInt8) : Int := if (number 10 2147483647 s).2 = 12 then 2147483647 else (number 10 2147483647 s).1
def bare (nm : List UInt8) : Int := if nm = kMS then 2147483647 else 0
def directive (l : List UInt8) : Option (List UInt8 × Int) :=
  if token (l.take (eqAt l)) = false then none
  else if eqAt l = l.length then some (lower l, bare (lower l))
  else (argument (l.drop (eqAt l + 1))).map fun s => (lower (l.take (eqAt l)), worth s)
def first (p n : Int) : Int := if p < 0 then n else p
def say (c : C) (nm : List UInt8) (n : Int) : C :=
  { ns := c.ns || decide (nm = kNS), nc := c.nc || decide (nm = kNC), pu := c.pu || decide (nm = kPU), pr := c.pr || decide (nm = kPR), mu := c.mu || decide (nm = kMU), px := c.px || decide (nm = kPX), oi := c.oi || decide (nm = kOI),
    ma := if nm = kMA then first c.ma n else c.ma, sa := if nm = kSA then first c.sa n else c.sa, ms := if nm = kMS then first c.ms n else c.ms, mf := if nm = kMF then first c.mf n else c.mf }
def step (c : C) (p : List UInt8) : C := match directive p with
  | some (nm, n) => say c nm n
  | none => c
def sayAll (ps : List (List UInt8)) : C := ps.foldl step none0
def parse (ls : List (List UInt8)) : C := sayAll (splitAll ls)
theorem scan_piece (M : Nat) : ∀ (l : List UInt8) (st : List (List UInt8) × List UInt8 × Bool × Bool), (∀ p ∈ st.1, p.length ≤ M) → st.2.1.length + l.length ≤ M → (∀ p ∈ (l.foldl scan1 st).1, p.length ≤ M) ∧ (l.foldl scan1 st).2.1.length ≤ M
  | [], st, h1, h2 => ⟨h1, by simpa using h2⟩
  | c :: l, st, h1, h2 => by
    have h2' : st.2.1.length + (l.length + 1) ≤ M := by simpa using h2
    refine scan_piece M l (scan1 st c) ?_ ?_
    · unfold scan1
      split
      · intro p hp
        rcases List.mem_append.1 hp with hp | hp
        · exact h1 p hp
        · unfold emit at hp
          split at hp
          · cases hp
          · rw [List.mem_singleton] at hp; subst hp
            have := trim_len st.2.1; omega
      · exact h1
    · unfold scan1
      split
      · simp; omega
      · simp; omega
theorem splitText_piece {l p : List UInt8} (h : p ∈ splitText l) : p.length ≤ l.length := by
  have hs := scan_piece l.length l ([], [], false, false) (fun p hp => by cases hp) (by simp)
  unfold splitText scan at h
  rcases List.mem_append.1 h with h | h
  · exact hs.1 p h
  · unfold emit at h
    split at h
    · cases h
    · rw [List.mem_singleton] at h; subst h
      have := trim_len (l.foldl scan1 ([], [], false, false)).2.1
      have := hs.2; omega
theorem splitAll_piece {ls : List (List UInt8)} {M : Nat} (hM : ∀ l ∈ ls, l.length ≤ M) {p : List UInt8} (h : p ∈ splitAll ls) : p.length ≤ M := by
  unfold splitAll at h
  obtain ⟨l, hl, hp⟩ := List.mem_flatMap.1 h
  exact Nat.le_trans (splitText_piece hp) (hM l hl)
def zeroC : C := ⟨false, false, false, false, false, false, false, 0, 0, 0, 0⟩
theorem step_none {c : C} {p : List UInt8} (h : directive p = none) : step c p = c := by unfold step; rw [h]
theorem step_some {c : C} {p nm : List UInt8} {n : Int} (h : directive p = some (nm, n)) : step c p = say c nm n := by unfold step; rw [h]
theorem sayAll_snoc (ps : List (List UInt8)) (k : Nat) (h : k < ps.length) : sayAll (ps.take (k + 1)) = step (sayAll (ps.take k)) ps[k] := by
  unfold sayAll; rw [List.take_succ_eq_append_getElem h, List.foldl_append]; rfl
theorem say_not {c : C} {nm : List UInt8} {n : Int} (h : nm ∉ known) : say c nm n = c := by
  have h' : ∀ k, k ∈ known → ¬ nm = k := fun k hk e => h (e ▸ hk)
  obtain ⟨a1, a2, a3, a4, a5, a6, a7, a8, a9, a10, a11⟩ : ¬ nm = kNS ∧ ¬ nm = kNC ∧ ¬ nm = kPU ∧ ¬ nm = kPR ∧ ¬ nm = kMU ∧ ¬ nm = kPX ∧ ¬ nm = kOI ∧ ¬ nm = kMA ∧ ¬ nm = kSA ∧ ¬ nm = kMS ∧ ¬ nm = kMF :=
    ⟨h' _ (by simp [known]), h' _ (by simp [known]), h' _ (by simp [known]), h' _ (by simp [known]), h' _ (by simp [known]), h' _ (by simp [known]), h' _ (by simp [known]), h' _ (by simp [known]), h' _ (by simp [known]), h' _ (by simp [known]), h' _ (by simp [known])⟩
  unfold say
  simp only [decide_eq_false a1, decide_eq_false a2, decide_eq_false a3, decide_eq_false a4, decide_eq_false a5, decide_eq_false a6, decide_eq_false a7, if_neg a8, if_neg a9, if_neg a10, if_neg a11, Bool.or_false]
theorem say_ns (c : C) (n : Int) : say c kNS n = { c with ns := true } := by cases c; simp [say, kNS, kNC, kPU, kPR, kMU, kPX, kOI, kMA, kSA, kMS, kMF]
theorem say_nc (c : C) (n : Int) : say c kNC n = { c with nc := true } := by cases c; simp [say, kNS, kNC, kPU, kPR, kMU, kPX, kOI, kMA, kSA, kMS, kMF]
theorem say_pu (c : C) (n : Int) : say c kPU n = { c with pu := true } := by cases c; simp [say, kNS, kNC, kPU, kPR, kMU, kPX, kOI, kMA, kSA, kMS, kMF]
theorem say_pr (c : C) (n : Int) : say c kPR n = { c with pr := true } := by cases c; simp [say, kNS, kNC, kPU, kPR, kMU, kPX, kOI, kMA, kSA, kMS, kMF]
theorem say_mu (c : C) (n : Int) : say c kMU n = { c with mu := true } := by cases c; simp [say, kNS, kNC, kPU, kPR, kMU, kPX, kOI, kMA, kSA, kMS, kMF]
theorem say_px (c : C) (n : Int) : say c kPX n = { c with px := true } := by cases c; simp [say, kNS, kNC, kPU, kPR, kMU, kPX, kOI, kMA, kSA, kMS, kMF]
theorem say_oi (c : C) (n : Int) : say c kOI n = { c with oi := true } := by cases c; simp [say, kNS, kNC, kPU, kPR, kMU, kPX, kOI, kMA, kSA, kMS, kMF]
theorem say_ma (c : C) (n : Int) : say c kMA n = { c with ma := first c.ma n } := by cases c; simp [say, kNS, kNC, kPU, kPR, kMU, kPX, kOI, kMA, kSA, kMS, kMF]
theorem say_sa (c : C) (n : Int) : say c kSA n = { c with sa := first c.sa n } := by cases c; simp [say, kNS, kNC, kPU, kPR, kMU, kPX, kOI, kMA, kSA, kMS, kMF]
theorem say_ms (c : C) (n : Int) : say c kMS n = { c with ms := first c.ms n } := by cases c; simp [say, kNS, kNC, kPU, kPR, kMU, kPX, kOI, kMA, kSA, kMS, kMF]
theorem say_mf (c : C) (n : Int) : say c kMF n = { c with mf := first c.mf n } := by cases c; simp [say, kNS, kNC, kPU, kPR, kMU, kPX, kOI, kMA, kSA, kMS, kMF]
def okN (n : Int) : Prop := n = -1 ∨ 0 ≤ n ∧ n ≤ 2147483647
def Ok (c : C) : Prop := okN c.ma ∧ okN c.sa ∧ okN c.ms ∧ okN c.mf
end Ctl

namespace Ctl
open Oct

structure Fine (x : List UInt8) : Prop where
  ne : x ≠ []
  trim : Oct.trim x = x
  fold : ∀ out cur, x.foldl scan1 (out, cur, false, false) = (out, cur ++ x, false, false)
def joinC : List (List UInt8) → List UInt8
  | [] => []
  | [p] => p
  | p :: q :: r => p ++ [44, 32] ++ joinC (q :: r)
def up (c : UInt8) : UInt8 := if 97 ≤ c ∧ c ≤ 122 then c - 32 else c
def val : Int → List UInt8 → Int
  | n, [] => n
  | n, c :: r => val (n * 10 + Oct.worth c) r
def flagP (k : List UInt8) (b : Bool) : List (List UInt8) := if b then [k] else []
def numP (k : List UInt8) (n : Int) : List (List UInt8) := if n < 0 then [] else [k ++ 61 :: dgs 10 n.toNat]
def pieces (c : C) : List (List UInt8) :=
  flagP kNS c.ns ++ flagP kNC c.nc ++ flagP kPU c.pu ++ flagP kPR c.pr ++ flagP kMU c.mu ++ flagP kPX c.px ++ flagP kOI c.oi ++ numP kMA c.ma ++ numP kSA c.sa ++ numP kMS c.ms ++ numP kMF c.mf
def print (c : C) : List UInt8 := joinC (pieces c)
end Ctl

namespace Fr
open Fld (get F)

abbrev T := List UInt8
def kCC : T := [99, 97, 99, 104, 101, 45, 99, 111, 110, 116, 114, 111, 108]
def kDate : T := [100, 97, 116, 101]
def kExp : T := [101, 120, 112, 105, 114, 101, 115]
def kMod : T := [108, 97, 115, 116, 45, 109, 111, 100, 105, 102, 105, 101, 100]
def kAge : T := [97, 103, 101]
def far : Int := 1099511627776
def maxD : Int := 2147483647
def cap (n most : Int) : Int := max 0 (min n most)
def says (fs : List F) : Ctl.C := Ctl.parse (get fs kCC)
def moment (D : T → Option Int) (fs : List F) (n : T) : Option Int := match get fs n with
  | [v] => D v
  | _ => none
def ask (a : Int) : Int := cap a far
def got (a g : Int) : Int := max (cap g far) (ask a)
def date (D : T → Option Int) (fs : List F) (g : Int) : Int := (moment D fs kDate).getD g
def heur (st : Int) : Bool := decide (st ∈ [200, 203, 204, 300, 301, 308, 404, 405, 410, 414, 501])
def life (D : T → Option Int) (st : Int) (fs : List F) (g : Int) : Int × Bool :=
  if 0 ≤ (says fs).sa then ((says fs).sa, true)
  else if 0 ≤ (says fs).ma then ((says fs).ma, true)
  else if get fs kExp ≠ [] then (match moment D fs kExp with | some n => (cap (n - date D fs g) maxD, true) | none => (0, true))
  else match moment D fs kMod with
    | some n => if heur st = true ∧ n ≤ date D fs g then (cap ((date D fs g - n) / 10) maxD, false) else (0, false)
    | none => (0, false)
def told (fs : List F) : Int := match get fs kAge with
  | [] => 0
  | v :: _ => if (Oct.number 10 2147483647 v).2 = 12 then 2147483647 else (Oct.number 10 2147483647 v).1
def base (D : T → Option Int) (fs : List F) (a g : Int) : Int := max (told fs + got a g - ask a) (got a g - date D fs (got a g))
theorem cap_bd (n : Int) {m : Int} (h : 0 ≤ m) : 0 ≤ cap n m ∧ cap n m ≤ m := by unfold cap; omega
theorem got_bd (a g : Int) : 0 ≤ ask a ∧ ask a ≤ got a g ∧ got a g ≤ far := by
  have h1 := cap_bd a (m := far) (by decide)
  have h2 := cap_bd g (m := far) (by decide)
  unfold got ask; omega
def nCC : T := [67, 97, 99, 104, 101, 45, 67, 111, 110, 116, 114, 111, 108]
def kEq : T := [109, 97, 120, 45, 97, 103, 101, 61]
def aged (s : T) : List F := [(nCC, kEq ++ s)]
end Fr

namespace Fr
open Fld (get F)

def Fine (D : T → Option Int) : Prop := ∀ v a, D v = some a → 0 ≤ a ∧ a ≤ 253402300799
section
variable {D : T → Option Int} (hD : Fine D)
theorem moment_one {fs : List F} {n v : T} (h : get fs n = [v]) : moment D fs n = D v := by unfold moment; rw [h]
theorem moment_no {fs : List F} {n : T} (h : (get fs n).length ≠ 1) : moment D fs n = none := by
  unfold moment
  split
  · rename_i v hv; rw [hv] at h; exact absurd rfl h
  · rfl
include hD
theorem moment_bd {fs : List F} {n : T} {a : Int} (h : moment D fs n = some a) : 0 ≤ a ∧ a ≤ 253402300799 := by
  unfold moment at h
  split at h
  · exact hD _ _ h
  · cases h
theorem date_bd (fs : List F) {g : Int} (h0 : 0 ≤ g) (h1 : g ≤ far) : 0 ≤ date D fs g ∧ date D fs g ≤ far := by
  unfold date
  cases h : moment D fs kDate with
  | none => exact ⟨h0, h1⟩
  | some a => have := moment_bd hD h; show 0 ≤ a ∧ a ≤ far; unfold far; omega
end
section
variable (D : T → Option Int) (st : Int) {fs : List F} (g : Int)
theorem life_sa (h : 0 ≤ (says fs).sa) : life D st fs g = ((says fs).sa, true) := by unfold life; rw [if_pos h]
theorem life_ma (h : ¬ 0 ≤ (says fs).sa) (h1 : 0 ≤ (says fs).ma) : life D st fs g = ((says fs).ma, true) := by unfold life; rw [if_neg h, if_pos h1]
theorem life_exp {n : Int} (h : ¬ 0 ≤ (says fs).sa) (h1 : ¬ 0 ≤ (says fs).ma) (h2 : get fs kExp ≠ []) (hm : moment D fs kExp = some n) : life D st fs g = (cap (n - date D fs g) maxD, true) := by
  unfold life; rw [if_neg h, if_neg h1, if_pos h2, hm]
theorem life_bad (h : ¬ 0 ≤ (says fs).sa) (h1 : ¬ 0 ≤ (says fs).ma) (h2 : get fs kExp ≠ []) (hm : moment D fs kExp = none) : life D st fs g = (0, true) := by
  unfold life; rw [if_neg h, if_neg h1, if_pos h2, hm]
theorem life_mod {n : Int} (h : ¬ 0 ≤ (says fs).sa) (h1 : ¬ 0 ≤ (says fs).ma) (h2 : get fs kExp = []) (hm : moment D fs kMod = some n) (hh : heur st = true) (hn : n ≤ date D fs g) : life D st fs g = (cap ((date D fs g - n) / 10) maxD, false) := by
  unfold life; rw [if_neg h, if_neg h1, if_neg (by rw [h2]; simp), hm]; exact if_pos ⟨hh, hn⟩
theorem life_not {n : Int} (h : ¬ 0 ≤ (says fs).sa) (h1 : ¬ 0 ≤ (says fs).ma) (h2 : get fs kExp = []) (hm : moment D fs kMod = some n) (hh : ¬ (heur st = true ∧ n ≤ date D fs g)) : life D st fs g = (0, false) := by
  unfold life; rw [if_neg h, if_neg h1, if_neg (by rw [h2]; simp), hm]; exact if_neg hh
theorem life_none (h : ¬ 0 ≤ (says fs).sa) (h1 : ¬ 0 ≤ (says fs).ma) (h2 : get fs kExp = []) (hm : moment D fs kMod = none) : life D st fs g = (0, false) := by
  unfold life; rw [if_neg h, if_neg h1, if_neg (by rw [h2]; simp), hm]
end
end Fr

