/- Layer 9's document: less, Part. -/
import Derived.Test.YtelndkglimkfeaaDoorVr5
namespace Vr
/-- Octet by octet, where two texts part. -/
theorem lt_at : ∀ (k : Nat) (a b : T) (ha : k < a.length) (hb : k < b.length), a.take k = b.take k → a[k] ≠ b[k] → (a < b ↔ a[k] < b[k])
  | 0, x :: a, y :: b, _, _, _, hne => by
    simp only [List.getElem_cons_zero] at hne ⊢
    rw [List.cons_lt_cons_iff]
    constructor
    · rintro (h | ⟨h, _⟩)
      · exact h
      · exact absurd h hne
    · exact .inl
  | k + 1, x :: a, y :: b, ha, hb, h, hne => by
    simp only [List.take_succ_cons, List.cons.injEq] at h
    simp only [List.getElem_cons_succ] at hne ⊢
    obtain ⟨rfl, h⟩ := h
    rw [List.cons_lt_cons_iff, ← lt_at k a b (by simpa using ha) (by simpa using hb) h hne]
    constructor
    · rintro (h | ⟨_, h⟩)
      · exact absurd h (by simp)
      · exact h
    · exact fun h => .inr ⟨rfl, h⟩
/-- Where one is the other's beginning. -/
theorem lt_end : ∀ (k : Nat) (a b : T), k ≤ a.length → k ≤ b.length → a.take k = b.take k → (a.length ≤ k ∨ b.length ≤ k) → (a < b ↔ a.length < b.length)
  | 0, a, b, _, _, _, h => by
    rcases h with h | h
    · obtain rfl := List.eq_nil_of_length_eq_zero (Nat.le_zero.1 h)
      cases b with
      | nil => simp
      | cons y b => simp
    · obtain rfl := List.eq_nil_of_length_eq_zero (Nat.le_zero.1 h)
      simp
  | k + 1, x :: a, y :: b, ha, hb, h, he => by
    simp only [List.take_succ_cons, List.cons.injEq] at h
    obtain ⟨rfl, h⟩ := h
    have := lt_end k a b (by simpa using ha) (by simpa using hb) h (by simpa using he)
    rw [List.cons_lt_cons_iff, this]
    simp
  | k + 1, [], _, ha, _, _, _ => by simp at ha
  | k + 1, _ :: _, [], _, hb, _, _ => by simp at hb
end Vr
namespace Go.Proofs.YtelndkglimkfeaaDoor
open Go.RowKit

theorem less_at (a b : ByteArray) (k : Nat) (ha : k < a.size) (hb : k < b.size) (h : a.data.toList.take k = b.data.toList.take k) (hne : ¬ (a[k].toNat : Int) = b[k].toNat) : decide (a.data.toList < b.data.toList) = decide (a[k].toNat < b[k].toNat) := by
  have h1 := Vr.lt_at k a.data.toList b.data.toList (by rw [Oct.length_size]; exact ha) (by rw [Oct.length_size]; exact hb) h (fun e => hne (by
    have e' : a[k] = b[k] := e
    rw [e']))
  rw [decide_eq_decide, h1, UInt8.lt_iff_toNat_lt]
  exact Iff.rfl
theorem less_step (a b : ByteArray) (k : Nat) (ha : k < a.size) (hb : k < b.size) (h : a.data.toList.take k = b.data.toList.take k) (he : (a[k].toNat : Int) = b[k].toNat) : a.data.toList.take (k + 1) = b.data.toList.take (k + 1) := by
  have : a[k] = b[k] := UInt8.toNat_inj.1 (by omega)
  rw [Oct.take_snoc a k ha, Oct.take_snoc b k hb, h, this]
theorem less_end (a b : ByteArray) (k : Nat) (ha : k ≤ a.size) (hb : k ≤ b.size) (h : a.data.toList.take k = b.data.toList.take k) (he : a.size ≤ k ∨ b.size ≤ k) : decide (a.data.toList < b.data.toList) = decide (a.size < b.size) := by
  have := Vr.lt_end k a.data.toList b.data.toList (by rw [Oct.length_size]; exact ha) (by rw [Oct.length_size]; exact hb) h (by rw [Oct.length_size, Oct.length_size]; exact he)
  rw [decide_eq_decide, this, Oct.length_size, Oct.length_size]

set_option maxHeartbeats 1600000 in
set_option maxRecDepth 100000 in
theorem less_w (a b : ByteArray) (w : World) (ha : a.size ≤ 1000000) (hb : b.size ≤ 1000000) :
    Calls Tryd.prog 27 #[.string a, .string b] w fun e w' => e = .returned (.bool (decide (a.data.toList < b.data.toList))) ∧ Below w.heap.size w w' := by
  go_enter Tryd.func27, Tryd.ntmps27
  go_wp2_with fail
  go_loopw [5] (fun i wr => ∃ k : Nat, k ≤ a.size ∧ k ≤ b.size ∧ i = .int .i64 k ∧ Below w.heap.size w wr ∧ Hid (a.data.toList.take k = b.data.toList.take k)) (fun i _ => a.size - (intOf i).toNat)
  case atStart => exact ⟨0, by omega, by omega, rfl, Below.refl _ _, Lib.hid rfl⟩
  case round =>
    obtain ⟨k, hka, hkb, rfl, hbr, HT⟩ := hrel
    by_cases hlt : k < a.size
    · by_cases hlt2 : k < b.size
      · by_cases he : (a[k].toNat : Int) = b[k].toNat
        · have HS := Lib.hid (less_step a b k hlt hlt2 HT.out he)
          have hx : ((a[k].toNat : Int) != (b[k].toNat : Int)) = false := by rw [he]; simp
          clear he
          go_wp2_with fail
          go_quiet (fail)
          go_wp2_with fail
          go_roundw
          case rel => exact ⟨k + 1, by omega, by omega, by go_num, hbr.trans ((bdrewN _ _).mono hbr.size), HS⟩
          case measure => simp [intOf]; omega
        · have HS := Lib.hid (less_at a b k hlt hlt2 HT.out he)
          have hx : ((a[k].toNat : Int) != (b[k].toNat : Int)) = true := by rw [bne, beq_eq_false_iff_ne.2 he]; rfl
          clear he
          go_wp2_with fail
          go_quiet (fail)
          go_wp2_with fail
          go_quiet (fail)
          go_wp2_with fail
          go_ret
          exact ⟨by rw [HS.out]; rfl, hbr.trans ((bdrew2 _ _ _).mono hbr.size)⟩
      · have HS := Lib.hid (less_end a b k hka hkb HT.out (.inr (by omega)))
        go_wp2_with fail
        go_ret
        exact ⟨by rw [HS.out]; rfl, hbr⟩
    · have HS := Lib.hid (less_end a b k hka hkb HT.out (.inl (by omega)))
      go_wp2_with fail
      go_ret
      exact ⟨by rw [HS.out]; rfl, hbr⟩
end Go.Proofs.YtelndkglimkfeaaDoor
