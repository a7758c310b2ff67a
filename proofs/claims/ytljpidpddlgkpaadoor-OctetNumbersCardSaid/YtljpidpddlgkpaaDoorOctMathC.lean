/- The plain mathematics of package octet: quoted texts. -/
import Derived.Test.YtljpidpddlgkpaaDoorOctMathB
namespace Oct

theorem all_at (p : UInt8 → Bool) (s : ByteArray) (k : Nat) (h : k < s.size) (ha : allOf p s.data.toList = true) : p s[k] = true := by
  have := List.all_eq_true.1 ha s[k] (Array.getElem_mem_toList (by simpa using h))
  exact this
theorem nonempty (s : ByteArray) (h : 0 < s.size) : s.toList.isEmpty = false := by
  rw [Go.Lib.toList_data, cons_first s h]; rfl
def esc (c : UInt8) : List UInt8 := if c = 34 ∨ c = 92 then [92, c] else [c]
def escd (l : List UInt8) : List UInt8 := l.flatMap esc
def quote (l : List UInt8) : List UInt8 := 34 :: escd l ++ [34]
theorem escd_nil : escd [] = [] := rfl
theorem escd_len (l : List UInt8) : (escd l).length ≤ 2 * l.length := by
  induction l with
  | nil => simp [escd]
  | cons c l ih =>
    simp only [escd, List.flatMap_cons, List.length_append, List.length_cons] at ih ⊢
    have : (esc c).length ≤ 2 := by unfold esc; split <;> simp
    omega
theorem quote_len (l : List UInt8) : (quote l).length ≤ 2 * l.length + 2 := by
  have := escd_len l
  simp only [quote, List.length_append, List.length_cons, List.length_nil]; omega
/-- What stands there behind k octets. -/
def quoteTo (l : List UInt8) (k : Nat) : List UInt8 := 34 :: escd (l.take k)
theorem quoteTo_len (l : List UInt8) (k : Nat) : (quoteTo l k).length ≤ 2 * k + 1 := by
  have h1 := escd_len (l.take k)
  have h2 := List.length_take_le k l
  simp only [quoteTo, List.length_cons]; omega
theorem quoteTo_zero (l : List UInt8) : quoteTo l 0 = [34] := rfl
theorem quoteTo_mark (s : ByteArray) (k : Nat) (h : k < s.size) (hm : (s[k].toNat : Int) = 34 ∨ (s[k].toNat : Int) = 92) : quoteTo s.data.toList (k + 1) = quoteTo s.data.toList k ++ [92] ++ [s[k]] := by
  have e : esc s[k] = [92, s[k]] := by
    unfold esc; rw [if_pos]
    rcases hm with hm | hm
    · left; exact UInt8.toNat_inj.1 (by show _ = 34; omega)
    · right; exact UInt8.toNat_inj.1 (by show _ = 92; omega)
  unfold quoteTo escd
  rw [take_snoc s k h]; simp [e]
theorem quoteTo_mark' (s : ByteArray) (k : Nat) (h : k < s.size) (c : UInt8) (hc : c = 34 ∨ c = 92) (hm : (s[k].toNat : Int) = c.toNat) : quoteTo s.data.toList (k + 1) = quoteTo s.data.toList k ++ [92] ++ [c] := by
  have e : s[k] = c := UInt8.toNat_inj.1 (by omega)
  rw [quoteTo_mark s k h (hc.elim (fun q => Or.inl (by rw [hm, q]; rfl)) (fun q => Or.inr (by rw [hm, q]; rfl))), e]
theorem quoteTo_plain (s : ByteArray) (k : Nat) (h : k < s.size) (h1 : ¬ (s[k].toNat : Int) = 34) (h2 : ¬ (s[k].toNat : Int) = 92) : quoteTo s.data.toList (k + 1) = quoteTo s.data.toList k ++ [s[k]] := by
  have e : esc s[k] = [s[k]] := by
    unfold esc; rw [if_neg]
    rintro (e | e)
    · rw [e] at h1; exact h1 rfl
    · rw [e] at h2; exact h2 rfl
  unfold quoteTo escd
  rw [take_snoc s k h]; simp [e]
theorem quoteTo_all (s : ByteArray) : quoteTo s.data.toList s.size ++ [34] = quote s.data.toList := by
  unfold quoteTo quote; rw [take_all s s.size (Nat.le_refl _)]

/-- What a quoted text says, read on from behind its first mark: the text, and how many octets; e: the next octet counts for nothing. -/
def unq : Bool → List UInt8 → Option (List UInt8 × Nat)
  | _, [] => none
  | e, c :: r =>
    if plain c = false then none
    else if e then (unq false r).map fun x => (c :: x.1, x.2 + 1)
    else if c = 92 then (unq true r).map fun x => (x.1, x.2 + 1)
    else if c = 34 then some ([], 1)
    else (unq false r).map fun x => (c :: x.1, x.2 + 1)

def unquote : List UInt8 → Option (List UInt8 × Nat)
  | [] => none
  | c :: r => if c = 34 then (unq false r).map fun x => (x.1, x.2 + 1) else none

/-- What is left to be read, with what has been read. -/
def unqAt (acc : List UInt8) (k : Nat) (e : Bool) (r : List UInt8) : Option (List UInt8 × Nat) := (unq e r).map fun x => (acc ++ x.1, k + x.2)

theorem unqAt_nil (acc : List UInt8) (k : Nat) (e : Bool) : unqAt acc k e [] = none := rfl
theorem unqAt_bad (acc : List UInt8) (k : Nat) (e : Bool) (c : UInt8) (r : List UInt8) (h : plain c = false) : unqAt acc k e (c :: r) = none := by
  simp [unqAt, unq, h]
theorem unqAt_esc (acc : List UInt8) (k : Nat) (c : UInt8) (r : List UInt8) (h : plain c = true) : unqAt acc k true (c :: r) = unqAt (acc ++ [c]) (k + 1) false r := by
  simp only [unqAt, unq, h, Bool.true_eq_false, if_false, if_true, Option.map_map]
  congr 1; funext x; simp; omega
theorem unqAt_mark (acc : List UInt8) (k : Nat) (r : List UInt8) : unqAt acc k false (92 :: r) = unqAt acc (k + 1) true r := by
  have : plain 92 = true := rfl
  simp only [unqAt, unq, this, Bool.true_eq_false, if_false]
  simp only [Bool.false_eq_true, if_false, if_true, Option.map_map]
  congr 1; funext x; simp; omega
theorem unqAt_end (acc : List UInt8) (k : Nat) (r : List UInt8) : unqAt acc k false (34 :: r) = some (acc, k + 1) := by
  have : plain 34 = true := rfl
  simp [unqAt, unq, this]
theorem unqAt_plain (acc : List UInt8) (k : Nat) (c : UInt8) (r : List UInt8) (h : plain c = true) (h1 : c ≠ 92) (h2 : c ≠ 34) : unqAt acc k false (c :: r) = unqAt (acc ++ [c]) (k + 1) false r := by
  simp only [unqAt, unq, h, Bool.true_eq_false, if_false, if_neg h1, if_neg h2, Option.map_map, Bool.false_eq_true]
  congr 1; funext x; simp; omega

theorem unquote_not (s : ByteArray) (h : ¬ 0 < s.size) : unquote s.data.toList = none := by rw [empty_list s h]; rfl
theorem unquote_not' (s : ByteArray) (h : 0 < s.size) (h0 : ¬ (s[0].toNat : Int) = 34) : unquote s.data.toList = none := by
  rw [cons_first s h]
  have : s[0] ≠ 34 := fun e => h0 (by rw [e]; rfl)
  simp only [unquote, if_neg this]
theorem unquote_at (s : ByteArray) (h : 0 < s.size) (h0 : (s[0].toNat : Int) = 34) : unquote s.data.toList = unqAt [] 1 false (s.data.toList.drop 1) := by
  rw [cons_first s h]
  have : s[0] = 34 := UInt8.toNat_inj.1 (by show _ = 34; omega)
  simp only [unquote, this, if_true, unqAt, List.drop_succ_cons, List.drop_zero, List.nil_append]
  congr 1; funext x; rw [Nat.add_comm]

/-- What was quoted says itself, whatever stands behind. -/
theorem unqAt_escd (l t : List UInt8) (h : allOf plain l = true) : ∀ acc k, unqAt acc k false (escd l ++ 34 :: t) = some (acc ++ l, k + (escd l).length + 1) := by
  induction l with
  | nil => intro acc k; rw [escd_nil, List.nil_append, unqAt_end]; simp
  | cons c l ih =>
    intro acc k
    have hc : plain c = true ∧ allOf plain l = true := by simpa [allOf] using h
    have e : escd (c :: l) = esc c ++ escd l := by simp [escd]
    rw [e, List.append_assoc]
    by_cases hm : c = 34 ∨ c = 92
    · have e2 : esc c = [92, c] := by unfold esc; rw [if_pos hm]
      rw [e2]
      show unqAt acc k false (92 :: (c :: (escd l ++ 34 :: t))) = _
      rw [unqAt_mark, unqAt_esc _ _ _ _ hc.1, ih hc.2]
      simp; omega
    · have e2 : esc c = [c] := by unfold esc; rw [if_neg hm]
      rw [e2]
      show unqAt acc k false (c :: (escd l ++ 34 :: t)) = _
      rw [unqAt_plain _ _ _ _ hc.1 (fun e => hm (Or.inr e)) (fun e => hm (Or.inl e)), ih hc.2]
      simp; omega
theorem unquote_quote (l t : List UInt8) (h : allOf plain l = true) : unquote (quote l ++ t) = some (l, (quote l).length) := by
  have e : quote l ++ t = 34 :: (escd l ++ 34 :: t) := by simp [quote]
  have e2 := unqAt_escd l t h [] 1
  rw [e]
  simp only [unquote, if_true]
  have e3 : (unq false (escd l ++ 34 :: t)).map (fun x => (x.1, x.2 + 1)) = unqAt [] 1 false (escd l ++ 34 :: t) := by
    unfold unqAt; congr 1; funext x; simp; omega
  rw [e3, e2]
  simp [quote]; omega

end Oct
