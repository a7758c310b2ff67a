/- The document's own answer for package date: what is read. -/
import Derived.Test.YtlmcolpoaedclaaDoorDt14
namespace Go.Proofs.YtlmcolpoaedclaaDoor
open Go.RowKit

theorem dn_size (k : Nat) (h : k < 7) : 6 ≤ (str (Dt.dayNames.getD k [])).size ∧ (str (Dt.dayNames.getD k [])).size ≤ 9 := by
  rw [str_size]
  have : k = 0 ∨ k = 1 ∨ k = 2 ∨ k = 3 ∨ k = 4 ∨ k = 5 ∨ k = 6 := by omega
  rcases this with rfl | rfl | rfl | rfl | rfl | rfl | rfl <;> decide
theorem asked29_no {l : List UInt8} (hl : l.length = 29) (h : ¬ (0 ≤ Dt.at0 l ∧ l = Dt.form (Dt.at0 l) 0)) : Dt.asked l = (0, 10) :=
  Dt.asked_no fun a ha => by
    have := Dt.says29 hl ha
    exact h ⟨by rw [this.1]; exact ha.1, by rw [this.1]; exact this.2⟩
theorem asked29_yes {l : List UInt8} (h0 : 0 ≤ Dt.at0 l) (h : l = Dt.form (Dt.at0 l) 0) : Dt.asked l = (Dt.at0 l, 0) :=
  Dt.asked_yes ⟨h0, Dt.at0_bd l h0, .inl h⟩
theorem asked24_no {l : List UInt8} (hl : l.length = 24) (h : ¬ (0 ≤ Dt.at2 l ∧ l = Dt.form (Dt.at2 l) 2)) : Dt.asked l = (0, 10) :=
  Dt.asked_no fun a ha => by
    have := Dt.says24 hl ha
    exact h ⟨by rw [this.1]; exact ha.1, by rw [this.1]; exact this.2⟩
theorem asked24_yes {l : List UInt8} (h0 : 0 ≤ Dt.at2 l) (h : l = Dt.form (Dt.at2 l) 2) : Dt.asked l = (Dt.at2 l, 0) :=
  Dt.asked_yes ⟨h0, Dt.at2_bd l h0, .inr (.inr h)⟩
theorem askedX_no {l : List UInt8} (hl : ¬ l.length = 29) (hl' : ¬ l.length = 24) (h : ∀ j, j < 7 → ¬ Dt.Hit l j) : Dt.asked l = (0, 10) :=
  Dt.asked_no fun a ha => by
    obtain ⟨w, hw, hh, _⟩ := Dt.saysX hl hl' ha
    exact h w hw hh
theorem askedX_neg {l : List UInt8} (hl : ¬ l.length = 29) (hl' : ¬ l.length = 24) {k : Nat} (hk : k < 7) (hn : Dt.Named l k) (hy : Dt.y1 l (Dt.dayNames.getD k []).length < 0) : Dt.asked l = (0, 10) :=
  Dt.asked_no fun a ha => by
    obtain ⟨w, hw, hh, h0, _⟩ := Dt.saysX hl hl' ha
    have := Dt.Named.one hw hk hh.1 hn
    subst this
    omega
theorem form_bytes (s : ByteArray) (a i : Int) : ((str (Dt.form a i)).toList == s.toList) = decide (s.data.toList = Dt.form a i) := by
  rw [bytes_eq, str_list, Bool.eq_iff_iff]; simp [eq_comm]


end Go.Proofs.YtlmcolpoaedclaaDoor
