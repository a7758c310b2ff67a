/- Package date: what a word says. -/
import Derived.Test.YtlmcolpoaedclaaDoorDt6
namespace Go.Proofs.YtlmcolpoaedclaaDoor
open Go.RowKit

/-- A month's name. -/
def monS (j : Nat) : ByteArray := str (Dt.monthNames.getD j [])
theorem monS_ix (k : Nat) (h : k < 12) (w : World) : (Instr.index 60 (.agg #[.string (monS 0), .string (monS 1), .string (monS 2), .string (monS 3), .string (monS 4), .string (monS 5), .string (monS 6), .string (monS 7), .string (monS 8), .string (monS 9), .string (monS 10), .string (monS 11)]) (.int .i64 k)).run Tryd.prog w = .ok (.string (monS k)) w := by
  have : k = 0 ∨ k = 1 ∨ k = 2 ∨ k = 3 ∨ k = 4 ∨ k = 5 ∨ k = 6 ∨ k = 7 ∨ k = 8 ∨ k = 9 ∨ k = 10 ∨ k = 11 := by omega
  rcases this with rfl | rfl | rfl | rfl | rfl | rfl | rfl | rfl | rfl | rfl | rfl | rfl <;> (show _ = _; kernel_rfl)
theorem bytes_eq (s t : ByteArray) : (s.toList == t.toList) = decide (s.data.toList = t.data.toList) := by
  rw [Lib.toList_data, Lib.toList_data, Bool.eq_iff_iff]; simp

set_option maxHeartbeats 1600000 in
set_option maxRecDepth 100000 in
theorem worth_1 (x : ByteArray) (w : World) (hT : DTabs w) :
    Calls Tryd.prog 29 #[.int .i64 1, .string x] w fun e w' => e = .returned (.tuple #[.int .i64 (Dt.worthP 1 x.data.toList).1, .bool (Dt.worthP 1 x.data.toList).2]) ∧ w = w' := by
  have hm (j : Nat) (h : j < 12) : w.cell? ⟨1, j, none⟩ = some (.string (monS j)) := hT.mon j h
  have c0 := hm 0 (by omega)
  have c1 := hm 1 (by omega)
  have c2 := hm 2 (by omega)
  have c3 := hm 3 (by omega)
  have c4 := hm 4 (by omega)
  have c5 := hm 5 (by omega)
  have c6 := hm 6 (by omega)
  have c7 := hm 7 (by omega)
  have c8 := hm 8 (by omega)
  have c9 := hm 9 (by omega)
  have c10 := hm 10 (by omega)
  have c11 := hm 11 (by omega)
  clear hm hT
  go_enter Tryd.func29, Tryd.ntmps29
  go_wp2_with fail
  go_loop [13] (fun i => ∃ k : Nat, k ≤ 12 ∧ i = .int .i64 k ∧ ∀ j, j < k → Dt.monthNames.getD j [] ≠ x.data.toList) (fun i => 12 - (intOf i).toNat)
  case atStart => exact ⟨0, by omega, rfl, fun j hj => by omega⟩
  case round =>
    obtain ⟨k, hk, rfl, hno⟩ := hrel
    have HN := Lib.hid hno
    clear hno
    by_cases hlt : k < 12
    · have hix := monS_ix k hlt
      have hlt' : (k : Int) < 12 := by omega
      by_cases he : Dt.monthNames.getD k [] = x.data.toList
      · have hb : ((monS k).toList == x.toList) = true := by rw [bytes_eq]; unfold monS; rw [str_list]; simpa using he
        have HR : Hid (Dt.worthP 1 x.data.toList = ((k : Int), true)) := by
          show _ = _
          unfold Dt.worthP
          rw [if_pos rfl, Dt.mIdx_some hlt he]
        clear he
        go_wp2_with fail
        go_ret2
        exact ⟨by rw [HR.out]; rfl, rfl⟩
      · have hb : ((monS k).toList == x.toList) = false := by rw [bytes_eq]; unfold monS; rw [str_list]; simpa using he
        have HE := Lib.hid he
        clear he
        go_wp2_with fail
        go_round
        case rel => exact ⟨k + 1, by omega, by go_num, fun j hj => by
          by_cases hjk : j = k
          · rw [hjk]; exact HE.out
          · exact HN.out j (by omega)⟩
        case measure => simp [intOf]; omega
    · have HR : Hid (Dt.worthP 1 x.data.toList = (0, false)) := by
        show _ = _
        unfold Dt.worthP
        rw [if_pos rfl, Dt.mIdx_none (fun i hi => HN.out i (by omega))]
      have hlt' : ¬ (k : Int) < 12 := by omega
      go_wp2_with fail
      go_ret2
      exact ⟨by rw [HR.out]; rfl, rfl⟩

set_option maxHeartbeats 1600000 in
theorem worth_n (p : Nat) (x : ByteArray) (w : World) (hp : p ≠ 1) (hp6 : p < 6) (hs : x.size ≤ 1000) :
    Calls Tryd.prog 29 #[.int .i64 p, .string x] w fun e w' => e = .returned (.tuple #[.int .i64 (Dt.worthP p x.data.toList).1, .bool (Dt.worthP p x.data.toList).2]) ∧ Below w.heap.size w w' := by
  have h1 : ((p : Int) == 1) = false := beq_eq_false_iff_ne.2 (by omega)
  obtain ⟨a, e, hN⟩ : ∃ a e, Oct.number 10 9999 x.data.toList = (a, e) := ⟨_, _, rfl⟩
  have hbd := Dt.number_bd x.data.toList
  rw [hN] at hbd
  obtain ⟨b0, b1⟩ := hbd
  simp only at b0 b1
  have hC := Number_is x 9999 a e w (by omega) (by omega) (by omega) hN
  have hsz : x.data.toList.length = x.size := Oct.length_size x
  by_cases hy : p = 0 ∧ x.size = 2
  · obtain ⟨rfl, hz⟩ := hy
    have HR : Hid (Dt.worthP 0 x.data.toList = (Dt.full a, decide (e = 0))) := by
      show _ = _
      unfold Dt.worthP
      rw [if_neg (by omega), if_pos ⟨rfl, by omega⟩, hN]
    clear hN hsz
    go_enter Tryd.func29, Tryd.ntmps29
    go_wp2_with fail
    refine hC.mono ?_
    rintro e w1 ⟨rfl, hb⟩
    go_wp2_with (go_at_call 37; refine (fullYear_c a _ b0 b1).mono ?_; rintro e w' ⟨rfl, rfl⟩)
    go_ret2
    exact ⟨by rw [HR.out]; rfl, hb⟩
  · have HR : Hid (Dt.worthP p x.data.toList = (a, decide (e = 0))) := by
      show _ = _
      unfold Dt.worthP
      rw [if_neg hp, if_neg (by omega), hN]
    clear hN hsz
    by_cases h0 : p = 0
    · subst h0
      have hz : ((x.size : Int) == 2) = false := beq_eq_false_iff_ne.2 (by omega)
      clear hy
      go_enter Tryd.func29, Tryd.ntmps29
      go_wp2_with fail
      refine hC.mono ?_
      rintro e w1 ⟨rfl, hb⟩
      go_wp2_with fail
      go_ret2
      exact ⟨by rw [HR.out]; rfl, hb⟩
    · have hz : ((p : Int) == 0) = false := beq_eq_false_iff_ne.2 (by omega)
      clear hy h0
      go_enter Tryd.func29, Tryd.ntmps29
      go_wp2_with fail
      refine hC.mono ?_
      rintro e w1 ⟨rfl, hb⟩
      go_wp2_with fail
      go_ret2
      exact ⟨by rw [HR.out]; rfl, hb⟩
theorem worth_p (p : Nat) (x : ByteArray) (v : Int) (ok : Bool) (w : World) (hT : DTabs w) (hp6 : p < 6) (hs : x.size ≤ 1000) (h : Dt.worthP p x.data.toList = (v, ok)) :
    Calls Tryd.prog 29 #[.int .i64 p, .string x] w fun e w' => e = .returned (.tuple #[.int .i64 v, .bool ok]) ∧ Below w.heap.size w w' := by
  by_cases hp : p = 1
  · subst hp
    refine (worth_1 x w hT).mono ?_
    rintro e w' ⟨rfl, rfl⟩
    exact ⟨by rw [h], Below.refl _ _⟩
  · refine (worth_n p x w hp hp6 hs).mono ?_
    rintro e w' ⟨rfl, hb⟩
    exact ⟨by rw [h], hb⟩

end Go.Proofs.YtlmcolpoaedclaaDoor
