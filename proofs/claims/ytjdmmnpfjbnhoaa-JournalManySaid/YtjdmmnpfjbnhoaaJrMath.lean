/- The plain mathematics of journals, after the chapter's words: marks, records, which transactions count; what Format, Open, Commit, Settle do upon a device. Nothing of any program. -/
import Derived.Test.YtjdmmnpfjbnhoaaDvMath
namespace Jr
open Dv
abbrev L := List UInt8
abbrev Put := Nat × Sec

/-! ### numbers, the greatest octet first -/
def unum (b : L) : Nat := b.foldl (fun n x => (n * 256 + x.toNat) % 18446744073709551616) 0
/-- As an int: one whose highest bit is set is below 0. -/
def num (b : L) : Int := if unum b < 9223372036854775808 then (unum b : Int) else (unum b : Int) - 18446744073709551616
def lay : Nat → Nat → L
  | _, 0 => []
  | u, k + 1 => lay (u / 256) k ++ [UInt8.ofNat (u % 256)]
def u64 (n : Int) : Nat := (n % 18446744073709551616).toNat
theorem lay_length : ∀ (k u : Nat), (lay u k).length = k
  | 0, _ => rfl
  | k + 1, u => by show (lay (u / 256) k ++ _).length = _; rw [List.length_append, lay_length k]; rfl
theorem unum_snoc (b : L) (x : UInt8) : unum (b ++ [x]) = (unum b * 256 + x.toNat) % 18446744073709551616 := by unfold unum; rw [List.foldl_append]; rfl
theorem unum_lay : ∀ (k u : Nat), k ≤ 8 → u < 256 ^ k → unum (lay u k) = u
  | 0, u, _, h => by simp at h; subst h; rfl
  | k + 1, u, hk, h => by
    have hp : 256 ^ (k + 1) ≤ 18446744073709551616 := by
      have : 256 ^ (k + 1) ≤ 256 ^ 8 := Nat.pow_le_pow_right (by decide) hk
      exact Nat.le_trans this (by decide)
    have h1 : u / 256 < 256 ^ k := by rw [Nat.pow_succ] at h; omega
    show unum (lay (u / 256) k ++ [UInt8.ofNat (u % 256)]) = u
    rw [unum_snoc, unum_lay k _ (by omega) h1, UInt8.toNat_ofNat', Nat.mod_eq_of_lt (by omega : u % 256 < 2 ^ 8), Nat.mod_eq_of_lt (by omega)]
    omega
theorem num_lay (n : Nat) (h : n < 9223372036854775808) : num (lay n 8) = (n : Int) := by
  unfold num
  rw [unum_lay 8 n (by decide) (by omega), if_pos h]
theorem u64_nat (n : Nat) (h : n < 18446744073709551616) : u64 (n : Int) = n := by unfold u64; omega

/-! ### marks and records -/
def fill (b : L) : L := b ++ List.replicate (64 - b.length) 0
def mark (m first : Int) (at_ : Nat) : Sec := lay (u64 m) 8 ++ (84 :: (lay (u64 first) 8 ++ (lay at_ 4 ++ (List.replicate 35 0 ++ lay (u64 m) 8))))
/-- A mark, where it counts: its number, the first transaction, its sector. -/
def readMark (b : Sec) (rest size : Nat) : Option (Int × Int × Nat) :=
  if num (b.take 8) = num (b.drop 56) ∧ num (b.take 8) ≠ 0 ∧ num (b.take 8) % 2 = rest ∧ b.getD 8 0 = 84 ∧ 2 ≤ unum ((b.drop 17).take 4) ∧ unum ((b.drop 17).take 4) ≤ size then
    some (num (b.take 8), num ((b.drop 9).take 8), unum ((b.drop 17).take 4)) else none
def heads (puts : List Put) : L := puts.flatMap fun p => lay p.1 4 ++ [p.2.getD 0 0]
def head (n : Int) (puts : List Put) : Sec := fill (72 :: (lay (u64 n) 8 ++ (UInt8.ofNat puts.length :: heads puts)))
def foot (n : Int) : Sec := fill (67 :: lay (u64 n) 8)
def content (x : Sec) : Sec := 0 :: x.drop 1
def record (n : Int) (puts : List Put) : List Sec := head n puts :: (puts.map (fun p => content p.2) ++ [foot n])
def outside (at_ size from_ n : Nat) : Prop := at_ < size ∧ (at_ < from_ ∨ from_ + n ≤ at_)
instance (a s f n : Nat) : Decidable (outside a s f n) := by unfold outside; infer_instance
def putAt (all : List Sec) (at_ i : Nat) : Put := (unum (((all.getD at_ []).drop (10 + 5 * i)).take 4), (all.getD at_ []).getD (14 + 5 * i) 0 :: (all.getD (at_ + 1 + i) []).drop 1)
def count (h : Sec) : Nat := (h.getD 9 0).toNat
def found (all : List Sec) (at_ : Nat) (n : Int) (size from_ : Nat) : Prop :=
  2 ≤ at_ ∧ at_ < all.length ∧ (all.getD at_ []).getD 0 0 = 72 ∧ num (((all.getD at_ []).drop 1).take 8) = n ∧ 1 ≤ count (all.getD at_ []) ∧ count (all.getD at_ []) ≤ 10 ∧ at_ + count (all.getD at_ []) + 1 < all.length ∧
    (all.getD (at_ + count (all.getD at_ []) + 1) []).getD 0 0 = 67 ∧ num (((all.getD (at_ + count (all.getD at_ []) + 1) []).drop 1).take 8) = n ∧ ∀ i, i < count (all.getD at_ []) → outside (putAt all at_ i).1 size from_ all.length
instance (all : List Sec) (a : Nat) (n : Int) (s f : Nat) : Decidable (found all a n s f) := by unfold found; infer_instance
/-- The puts of the record on a sector, if it is there. -/
def find (all : List Sec) (at_ : Nat) (n : Int) (size from_ : Nat) : Option (List Put) :=
  if found all at_ n size from_ then some ((List.range (count (all.getD at_ []))).map (putAt all at_)) else none
/-- Which transactions count: from number n, sector a on: the next number, the sector behind, all puts, how many. -/
inductive Scans (all : List Sec) (size from_ : Nat) : Int → Nat → Int → Nat → List Put → Nat → Prop
  | done {n a} : find all a n size from_ = none → find all 2 n size from_ = none → Scans all size from_ n a n a [] 0
  | here {n a x n' a' ps k} : find all a n size from_ = some x → Scans all size from_ (n + 1) (a + x.length + 2) n' a' ps k → Scans all size from_ n a n' a' (x ++ ps) (k + 1)
  | two {n a x n' a' ps k} : find all a n size from_ = none → find all 2 n size from_ = some x → Scans all size from_ (n + 1) (2 + x.length + 2) n' a' ps k → Scans all size from_ n a n' a' (x ++ ps) (k + 1)

theorem fill_length {b : L} (h : b.length ≤ 64) : (fill b).length = 64 := by unfold fill; rw [List.length_append, List.length_replicate]; omega
theorem heads_length : ∀ (puts : List Put), (heads puts).length = 5 * puts.length
  | [] => rfl
  | p :: l => by
    show ((lay p.1 4 ++ [p.2.getD 0 0]) ++ heads l).length = _
    rw [List.length_append, heads_length l, List.length_append, lay_length]
    simp only [List.length_cons, List.length_nil]
    omega
theorem head_length {n : Int} {puts : List Put} (h : puts.length ≤ 10) : (head n puts).length = 64 := fill_length (by
  simp only [List.length_cons, List.length_append, lay_length, heads_length]; omega)
theorem foot_length (n : Int) : (foot n).length = 64 := fill_length (by simp [lay_length])
theorem record_length (n : Int) (puts : List Put) : (record n puts).length = puts.length + 2 := by unfold record; simp
theorem mark_length (m f : Int) (a : Nat) : (mark m f a).length = 64 := by unfold mark; simp [lay_length]
theorem content_length {x : Sec} (h : x.length = 64) : (content x).length = 64 := by unfold content; simp [h]
theorem record_64 {n : Int} {puts : List Put} (h : puts.length ≤ 10) (h64 : ∀ p ∈ puts, p.2.length = 64) : ∀ x ∈ record n puts, x.length = 64 := by
  intro x hx
  unfold record at hx
  rcases List.mem_cons.1 hx with rfl | hx
  · exact head_length h
  · rcases List.mem_append.1 hx with hx | hx
    · obtain ⟨p, hp, rfl⟩ := List.mem_map.1 hx
      exact content_length (h64 p hp)
    · rw [List.mem_singleton.1 hx]; exact foot_length n
/-- What a mark's sector says is the mark. -/
theorem readMark_mark {m first at_ size : Nat} (hm : 1 ≤ m) (hm6 : m < 9223372036854775808) (hf : first < 9223372036854775808) (ha2 : 2 ≤ at_) (ha : at_ ≤ size) (h32 : at_ < 4294967296) : readMark (mark m first at_) (m % 2) size = some ((m : Int), (first : Int), at_) := by
  have e1 : (mark m first at_).take 8 = lay m 8 := by
    unfold mark
    rw [u64_nat m (by omega), List.take_append, List.take_of_length_le (by rw [lay_length]; omega), lay_length]
    simp
  have e2 : (mark m first at_).drop 56 = lay m 8 := by
    unfold mark
    rw [u64_nat m (by omega), List.drop_append, List.drop_of_length_le (by rw [lay_length]; omega), lay_length, List.nil_append]
    show (84 :: _ : L).drop (47 + 1) = _
    rw [List.drop_succ_cons, List.drop_append, List.drop_of_length_le (by rw [lay_length]; omega), lay_length, List.nil_append, List.drop_append, List.drop_of_length_le (by rw [lay_length]; omega), lay_length, List.nil_append, List.drop_append, List.drop_of_length_le (by simp), List.nil_append]
    simp
  have e3 : ((mark m first at_).drop 9).take 8 = lay first 8 := by
    unfold mark
    rw [u64_nat first (by omega), List.drop_append, List.drop_of_length_le (by rw [lay_length]; omega), lay_length, List.nil_append]
    show ((84 :: _ : L).drop (0 + 1)).take 8 = _
    rw [List.drop_succ_cons, List.drop_zero, List.take_append, List.take_of_length_le (by rw [lay_length]; omega), lay_length]
    simp
  have e4 : ((mark m first at_).drop 17).take 4 = lay at_ 4 := by
    unfold mark
    rw [List.drop_append, List.drop_of_length_le (by rw [lay_length]; omega), lay_length, List.nil_append]
    show ((84 :: _ : L).drop (8 + 1)).take 4 = _
    rw [List.drop_succ_cons, List.drop_append, List.drop_of_length_le (by rw [lay_length]; omega), lay_length, List.nil_append]
    simp only [Nat.sub_self, List.drop_zero]
    rw [List.take_append, List.take_of_length_le (by rw [lay_length]; omega), lay_length]
    simp
  have e5 : (mark m first at_).getD 8 0 = 84 := by
    unfold mark
    rw [List.getD_eq_getElem?_getD, List.getElem?_append_right (by rw [lay_length]; omega), lay_length]
    rfl
  unfold readMark
  rw [e1, e2, e3, e4, e5, num_lay m hm6, num_lay first hf, unum_lay 4 at_ (by decide) (by omega), if_pos]
  exact ⟨rfl, by omega, by omega, rfl, ha2, ha⟩
end Jr
