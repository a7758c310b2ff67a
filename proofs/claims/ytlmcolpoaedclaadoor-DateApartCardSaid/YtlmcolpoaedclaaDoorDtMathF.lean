/- The plain mathematics of package date: a form with one octet turned. -/
import Derived.Test.YtlmcolpoaedclaaDoorDtMathE
namespace Dt

theorem same_len {l l' : List UInt8} {a : Int} (h : Says l a) (h' : Says l' a) (hl : l.length = l'.length) : l = l' := by
  have hf := len_form h.1 h.2.1
  rcases h.2.2 with e | ⟨_, e⟩ | e <;> rcases h'.2.2 with e' | ⟨_, e'⟩ | e' <;> rw [e, e'] at hl <;> first | (rw [e, e']; done) | (exfalso; omega)
def turned (l : List UInt8) (k : Nat) (c : UInt8) : List UInt8 := l.take k ++ c :: l.drop (k + 1)
theorem turned_len (l : List UInt8) (k : Nat) (c : UInt8) (hk : k < l.length) : (turned l k c).length = l.length := by
  unfold turned; simp; omega
theorem turned_same (l : List UInt8) (k : Nat) (hk : k < l.length) : turned l k l[k] = l := by
  unfold turned
  rw [← List.drop_eq_getElem_cons hk, List.take_append_drop]
theorem turned_at (l : List UInt8) (k : Nat) (c : UInt8) (hk : k < l.length) : (turned l k c)[k]'(by rw [turned_len l k c hk]; exact hk) = c := by
  unfold turned
  rw [List.getElem_append_right (by rw [List.length_take]; omega)]
  simp [Nat.min_eq_left (Nat.le_of_lt hk)]
/-- One octet turned: no form of the same moment. -/
theorem apart {l : List UInt8} {a : Int} (h : Says l a) (k : Nat) (hk : k < l.length) (c : UInt8) (hc : c ≠ l[k]) : asked (turned l k c) = (0, 10) ∨ ∃ n, asked (turned l k c) = (n, 0) ∧ n ≠ a := by
  by_cases hs : ∃ b, Says (turned l k c) b
  · obtain ⟨b, hb⟩ := hs
    refine .inr ⟨b, asked_yes hb, fun e => ?_⟩
    subst e
    have := same_len hb h (turned_len l k c hk)
    have h1 := turned_at l k c hk
    simp only [this] at h1
    exact hc h1.symm
  · exact .inl (asked_no fun b hb => hs ⟨b, hb⟩)

end Dt
