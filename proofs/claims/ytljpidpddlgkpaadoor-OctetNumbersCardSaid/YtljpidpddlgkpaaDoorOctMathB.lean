/- The plain mathematics of package octet, further: what the loops over a text leave. -/
import Derived.Test.YtljpidpddlgkpaaDoorOctMath
namespace Oct

theorem trim_len (l : List UInt8) : (trim l).length ≤ l.length := by
  rw [trim_eq]; exact Nat.le_trans (dropL_len _) (dropR_len _)
theorem cons_first (t : ByteArray) (h : 0 < t.size) : t.data.toList = t[0] :: t.data.toList.drop 1 := by
  have hl : 0 < t.data.toList.length := by rw [length_size]; exact h
  have := List.drop_eq_getElem_cons hl
  rw [List.drop_zero] at this
  exact this
theorem snoc_last (t : ByteArray) (h : 0 < t.size) : t.data.toList = t.data.toList.take (t.size - 1) ++ [t[t.size - 1]] := by
  have := take_snoc t (t.size - 1) (by omega)
  rw [← this, show t.size - 1 + 1 = t.size by omega]
  exact (take_all t t.size (Nat.le_refl _)).symm
theorem cut_first (t : ByteArray) : (t.extract 1 t.size).data.toList = t.data.toList.drop 1 := by
  rw [Go.Lib.extract_data, List.take_of_length_le]
  rw [List.length_drop, length_size]; omega
theorem cut_last (t : ByteArray) : (t.extract 0 (t.size - 1)).data.toList = t.data.toList.take (t.size - 1) := by
  rw [Go.Lib.extract_data]; simp
theorem dropL_first (t : ByteArray) (h : 0 < t.size) (hp : blank t[0] = true) : dropL (t.extract 1 t.size).data.toList = dropL t.data.toList := by
  rw [cut_first]
  conv => rhs; rw [cons_first t h]
  exact (dropL_cons_blank _ _ hp).symm
theorem dropL_stop (t : ByteArray) (h : 0 < t.size) (hp : blank t[0] = false) : dropL t.data.toList = t.data.toList := by
  rw [cons_first t h]; exact dropL_cons_not _ _ hp
theorem dropR_last' (t : ByteArray) (h : 0 < t.size) (hp : blank t[t.size - 1] = true) : dropR (t.extract 0 (t.size - 1)).data.toList = dropR t.data.toList := by
  rw [cut_last]
  conv => rhs; rw [snoc_last t h]
  exact (dropR_append_blank _ _ hp).symm
theorem dropR_stop (t : ByteArray) (h : 0 < t.size) (hp : blank t[t.size - 1] = false) : dropR t.data.toList = t.data.toList := by
  rw [snoc_last t h]; exact dropR_append_not _ _ hp
theorem empty_list (t : ByteArray) (h : ¬ 0 < t.size) : t.data.toList = [] := by
  apply List.eq_nil_of_length_eq_zero; rw [length_size]; omega
theorem size_zero (t : ByteArray) (h : t.size = 0) : t = ByteArray.empty := by
  obtain ⟨⟨l⟩⟩ := t
  have : l = [] := List.eq_nil_of_length_eq_zero h
  subst this; rfl
theorem value_all (l : List UInt8) : value l = (allOf plain l && trim l == l) := rfl
theorem value_ends (s : ByteArray) (h : 0 < s.size) : (trim s.data.toList == s.data.toList) = (!blank s[0] && !blank s[s.size - 1]) := by
  rw [Bool.eq_iff_iff, beq_iff_eq, trim_fix']
  simp only [Bool.and_eq_true, Bool.not_eq_true']
  constructor
  · intro ⟨h1, h2⟩
    exact ⟨h1 _ _ (cons_first s h), h2 _ _ (snoc_last s h)⟩
  · intro ⟨h1, h2⟩
    constructor
    · intro c r e
      rw [cons_first s h] at e
      cases e; exact h1
    · intro i c e
      rw [snoc_last s h] at e
      have := List.append_inj_right' e rfl
      cases this; exact h2
theorem lower_snoc (s : ByteArray) (k : Nat) (h : k < s.size) : lower (s.data.toList.take (k + 1)) = lower (s.data.toList.take k) ++ [low s[k]] := by
  rw [take_snoc s k h]; simp [lower]
theorem low_yes (c : UInt8) (h1 : (65 : Int) ≤ c.toNat) (h2 : (c.toNat : Int) ≤ 90) : (c.toNat : Int) + 32 = ((low c).toNat : Int) := by
  have : low c = c + 32 := by
    unfold low; rw [if_pos]
    exact ⟨UInt8.le_iff_toNat_le.2 (by show 65 ≤ _; omega), UInt8.le_iff_toNat_le.2 (by show _ ≤ 90; omega)⟩
  rw [this, UInt8.toNat_add]
  have : (32 : UInt8).toNat = 32 := rfl
  rw [this]; omega
theorem low_no (c : UInt8) (h : ¬ ((65 : Int) ≤ c.toNat ∧ (c.toNat : Int) ≤ 90)) : (c.toNat : Int) = ((low c).toNat : Int) := by
  have : low c = c := by
    unfold low; rw [if_neg]
    rintro ⟨h1, h2⟩
    have a := UInt8.le_iff_toNat_le.1 h1
    have b := UInt8.le_iff_toNat_le.1 h2
    exact h ⟨by have : (65 : UInt8).toNat = 65 := rfl; omega, by have : (90 : UInt8).toNat = 90 := rfl; omega⟩
  rw [this]
/-- The first k octets in small letters. -/
def lowTo (l : List UInt8) (k : Nat) : List UInt8 := lower (l.take k) ++ l.drop k
theorem lowTo_zero (l : List UInt8) : lowTo l 0 = l := by simp [lowTo, lower]
theorem lowTo_length (l : List UInt8) (k : Nat) : (lowTo l k).length = l.length := by simp [lowTo, lower]; omega
theorem lowTo_all (s : ByteArray) : lowTo s.data.toList s.size = lower s.data.toList := by
  unfold lowTo; rw [take_all s s.size (Nat.le_refl _), List.drop_of_length_le (by rw [length_size]; omega), List.append_nil]
theorem drop_cons (s : ByteArray) (k : Nat) (h : k < s.size) : s.data.toList.drop k = s[k] :: s.data.toList.drop (k + 1) := by
  rw [List.drop_eq_getElem_cons (by rw [length_size]; exact h)]; rfl
theorem lowTo_at (s : ByteArray) (k : Nat) (h : k < s.size) {hk : k < (lowTo s.data.toList k).length} : (lowTo s.data.toList k)[k] = s[k] := by
  have e : (lowTo s.data.toList k)[k]? = some s[k] := by
    unfold lowTo
    rw [drop_cons s k h, List.getElem?_append_right (by rw [lower_length, List.length_take]; omega)]
    rw [lower_length, List.length_take, length_size, show k - min k s.size = 0 by omega]; rfl
  rw [List.getElem?_eq_getElem hk] at e
  exact Option.some.inj e
theorem lowTo_next (s : ByteArray) (k : Nat) (h : k < s.size) : lowTo s.data.toList (k + 1) = (lowTo s.data.toList k).set k (low s[k]) := by
  unfold lowTo
  rw [lower_snoc s k h, drop_cons s k h, List.set_append_right _ _ (by rw [lower_length, List.length_take]; omega)]
  rw [lower_length, List.length_take, length_size, show k - min k s.size = 0 by omega]
  simp
theorem lowTo_same (s : ByteArray) (k : Nat) (h : k < s.size) (hn : ¬ ((65 : Int) ≤ s[k].toNat ∧ (s[k].toNat : Int) ≤ 90)) : lowTo s.data.toList (k + 1) = lowTo s.data.toList k := by
  have e : low s[k] = s[k] := UInt8.toNat_inj.1 (by have := low_no s[k] hn; omega)
  rw [lowTo_next s k h, e]
  have := lowTo_at s k h (hk := by rw [lowTo_length, length_size]; exact h)
  conv => lhs; rw [← this]
  exact List.set_getElem_self _

end Oct
