/- Layer 4 in plain words: a text in great letters, octet by octet. -/
import Derived.Test.YtolhhejhjjiefaaDoorCtMathB
namespace Ctl
open Oct

theorem upper_length (l : List UInt8) : (upper l).length = l.length := by simp [upper]
theorem upper_snoc (s : ByteArray) (k : Nat) (h : k < s.size) : upper (s.data.toList.take (k + 1)) = upper (s.data.toList.take k) ++ [up s[k]] := by
  rw [take_snoc s k h]; simp [upper]
theorem up_yes (c : UInt8) (h1 : (97 : Int) ≤ c.toNat) (h2 : (c.toNat : Int) ≤ 122) : (c.toNat : Int) - 32 = ((up c).toNat : Int) := by
  have e : up c = c - 32 := by
    unfold up; rw [if_pos]
    exact ⟨UInt8.le_iff_toNat_le.2 (by show 97 ≤ _; omega), UInt8.le_iff_toNat_le.2 (by show _ ≤ 122; omega)⟩
  have h32 : (32 : UInt8).toNat = 32 := rfl
  rw [e, UInt8.toNat_sub_of_le _ _ (UInt8.le_iff_toNat_le.2 (by rw [h32]; omega)), h32]; omega
theorem up_no (c : UInt8) (h : ¬ ((97 : Int) ≤ c.toNat ∧ (c.toNat : Int) ≤ 122)) : up c = c := by
  unfold up; rw [if_neg]
  rintro ⟨h1, h2⟩
  have a := UInt8.le_iff_toNat_le.1 h1
  have b := UInt8.le_iff_toNat_le.1 h2
  exact h ⟨by have : (97 : UInt8).toNat = 97 := rfl; omega, by have : (122 : UInt8).toNat = 122 := rfl; omega⟩
/-- The first k octets in great letters. -/
def upTo (l : List UInt8) (k : Nat) : List UInt8 := upper (l.take k) ++ l.drop k
theorem upTo_zero (l : List UInt8) : upTo l 0 = l := by simp [upTo, upper]
theorem upTo_length (l : List UInt8) (k : Nat) : (upTo l k).length = l.length := by simp [upTo, upper]; omega
theorem upTo_all (s : ByteArray) : upTo s.data.toList s.size = upper s.data.toList := by
  unfold upTo; rw [take_all s s.size (Nat.le_refl _), List.drop_of_length_le (by rw [length_size]; omega), List.append_nil]
theorem upTo_at (s : ByteArray) (k : Nat) (h : k < s.size) {hk : k < (upTo s.data.toList k).length} : (upTo s.data.toList k)[k] = s[k] := by
  have e : (upTo s.data.toList k)[k]? = some s[k] := by
    unfold upTo
    rw [drop_cons s k h, List.getElem?_append_right (by rw [upper_length, List.length_take]; omega)]
    rw [upper_length, List.length_take, length_size, show k - min k s.size = 0 by omega]; rfl
  rw [List.getElem?_eq_getElem hk] at e
  exact Option.some.inj e
theorem upTo_next (s : ByteArray) (k : Nat) (h : k < s.size) : upTo s.data.toList (k + 1) = (upTo s.data.toList k).set k (up s[k]) := by
  unfold upTo
  rw [upper_snoc s k h, drop_cons s k h, List.set_append_right _ _ (by rw [upper_length, List.length_take]; omega)]
  rw [upper_length, List.length_take, length_size, show k - min k s.size = 0 by omega]
  simp
theorem upTo_same (s : ByteArray) (k : Nat) (h : k < s.size) (hn : ¬ ((97 : Int) ≤ s[k].toNat ∧ (s[k].toNat : Int) ≤ 122)) : upTo s.data.toList (k + 1) = upTo s.data.toList k := by
  rw [upTo_next s k h, up_no s[k] hn]
  have := upTo_at s k h (hk := by rw [upTo_length, length_size]; exact h)
  conv => lhs; rw [← this]
  exact List.set_getElem_self _

end Ctl
