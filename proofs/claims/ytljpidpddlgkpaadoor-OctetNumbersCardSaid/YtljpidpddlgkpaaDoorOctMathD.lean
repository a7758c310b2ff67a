/- The plain mathematics of package octet: what digits say. -/
import Derived.Test.YtljpidpddlgkpaaDoorOctMathC
namespace Oct

def dig (b : Nat) (c : UInt8) : Bool := decide (worth c < b)
/-- n, and behind it the digits; none: more than most. -/
def num (b : Nat) (most : Int) : Int → List UInt8 → Option Int
  | n, [] => some n
  | n, c :: r => if most < n * b + worth c then none else num b most (n * b + worth c) r
def number (b : Nat) (most : Int) (l : List UInt8) : Int × Int :=
  if l = [] ∨ allOf (dig b) l = false then (0, 10) else if most < 0 then (0, 12) else match num b most 0 l with
    | none => (0, 12)
    | some n => (n, 0)

theorem number_empty (b : Nat) (most : Int) (s : ByteArray) (h : ¬ 0 < s.size) : number b most s.data.toList = (0, 10) := by
  unfold number; rw [empty_list s h]; simp
theorem number_bad (b : Nat) (most : Int) (l : List UInt8) (h : allOf (dig b) l = false) : number b most l = (0, 10) := by
  unfold number; simp [h]
theorem number_neg (b : Nat) (most : Int) (s : ByteArray) (h : 0 < s.size) (hd : allOf (dig b) s.data.toList = true) (hm : most < 0) : number b most s.data.toList = (0, 12) := by
  unfold number
  have : ¬ (s.data.toList = [] ∨ allOf (dig b) s.data.toList = false) := by rw [hd, cons_first s h]; simp
  rw [if_neg this, if_pos hm]
theorem number_num (b : Nat) (most : Int) (s : ByteArray) (h : 0 < s.size) (hd : allOf (dig b) s.data.toList = true) (hm : 0 ≤ most) : number b most s.data.toList = match num b most 0 s.data.toList with | none => (0, 12) | some n => (n, 0) := by
  unfold number
  have : ¬ (s.data.toList = [] ∨ allOf (dig b) s.data.toList = false) := by rw [hd, cons_first s h]; simp
  rw [if_neg this, if_neg (by omega)]
theorem num_none (b : Nat) (most : Int) (s : ByteArray) (h : 0 < s.size) (hd : allOf (dig b) s.data.toList = true) (hm : 0 ≤ most) (hn : num b most 0 s.data.toList = none) : number b most s.data.toList = (0, 12) := by
  rw [number_num b most s h hd hm, hn]
theorem num_some (b : Nat) (most : Int) (s : ByteArray) (h : 0 < s.size) (hd : allOf (dig b) s.data.toList = true) (hm : 0 ≤ most) {n : Int} (hn : num b most 0 s.data.toList = some n) : number b most s.data.toList = (n, 0) := by
  rw [number_num b most s h hd hm, hn]
theorem num_more (b : Nat) (most n : Int) (c : UInt8) (r : List UInt8) (h : most < n * b + worth c) : num b most n (c :: r) = none := by simp only [num]; rw [if_pos h]
theorem num_on (b : Nat) (most n : Int) (c : UInt8) (r : List UInt8) (h : ¬ most < n * b + worth c) : num b most n (c :: r) = num b most (n * b + worth c) r := by simp only [num]; rw [if_neg h]
theorem num_nil (b : Nat) (most n : Int) : num b most n [] = some n := rfl
theorem dig_lt (b : Nat) {c : UInt8} (h : dig b c = true) : worth c < b := by simpa [dig] using h
theorem worth_nat {c : UInt8} : worth c = worth c := rfl
theorem dig_digit (b : Nat) (_hb : b ≤ 16) {c : UInt8} (h : dig b c = true) : (digit c : Int) < b := by
  have h1 := dig_lt b h
  rcases digit_worth c with ⟨h2, _⟩ | ⟨h2, _⟩ <;> omega
theorem digit_eq (b : Nat) (_hb : b ≤ 16) {c : UInt8} (h : dig b c = true) : worth c = digit c := by
  have h1 := dig_lt b h
  rcases digit_worth c with ⟨h2, _⟩ | ⟨h2, _⟩ <;> omega
theorem digit_dig (b : Nat) (_hb : b ≤ 16) {c : UInt8} (h : dig b c = false) : (b : Int) ≤ digit c := by
  have h1 : ¬ worth c < b := by simpa [dig] using h
  rcases digit_worth c with ⟨h2, _⟩ | ⟨h2, _⟩ <;> omega

end Oct
