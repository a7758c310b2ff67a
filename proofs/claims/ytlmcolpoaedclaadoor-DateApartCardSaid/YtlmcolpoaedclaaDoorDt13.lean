/- The document's own answer for package date: numbers, months and moments in a text. -/
import Derived.Test.YtlmcolpoaedclaaDoorDt12
import Derived.Test.YtlmcolpoaedclaaDoorDtMathE
import Derived.IntWalk
namespace Go.Proofs.YtlmcolpoaedclaaDoor
open Go.RowKit

theorem cut_snoc (s : ByteArray) (f k : Nat) (hf : f ≤ k) (hk : k < s.size) : Dt.cut s.data.toList f (k + 1) = Dt.cut s.data.toList f k ++ [s[k]] := by
  unfold Dt.cut
  have hl : s.data.toList.length = s.size := Oct.length_size s
  rw [List.take_succ_eq_append_getElem (by omega), List.drop_append_of_le_length (by rw [List.length_take]; omega)]
  rfl
theorem cut_same (l : List UInt8) (f : Nat) : Dt.cut l f f = [] := by
  unfold Dt.cut
  rw [List.drop_of_length_le (by rw [List.length_take]; omega)]
theorem numR_bad (s : ByteArray) (f k t : Nat) (hf : f ≤ k) (hk : k < t) (ht : t ≤ s.size) (h : Dt.digit (s[k]'(by omega)) = false) : Dt.numR (Dt.cut s.data.toList f t) = -1 := by
  have hl : s.data.toList.length = s.size := Oct.length_size s
  unfold Dt.numR
  rw [if_neg]
  intro hall
  have hm : s[k]'(by omega) ∈ Dt.cut s.data.toList f t := by
    unfold Dt.cut
    have e : ((s.data.toList.take t).drop f)[k - f]'(by rw [List.length_drop, List.length_take]; omega) = s[k]'(by omega) := by
      rw [List.getElem_drop, List.getElem_take]
      simp only [show f + (k - f) = k by omega]
      rfl
    rw [← e]
    exact List.getElem_mem _
  have := List.all_eq_true.1 hall _ hm
  rw [h] at this; cases this

set_option maxHeartbeats 1600000 in
theorem num_c (s : ByteArray) (f t : Nat) (w : World) (hf : f ≤ t) (ht : t ≤ s.size) (h4 : t ≤ f + 4) (hs : s.size ≤ 1000) :
    Calls Tryd.prog 19 #[.string s, .int .i64 f, .int .i64 t] w fun e w' => e = .returned (.int .i64 (Dt.numR (Dt.cut s.data.toList f t))) ∧ w = w' := by
  go_enter Tryd.func19, Tryd.ntmps19
  go_wp2_with fail
  go_loop [7, 8] (fun x i => ∃ (k : Nat) (n : Int), f ≤ k ∧ k ≤ t ∧ i = .int .i64 k ∧ x = .int .i64 n ∧ 0 ≤ n ∧ n ≤ 9999 ∧ Hid ((Dt.cut s.data.toList f k).all Dt.digit = true ∧ n = Dt.numV (Dt.cut s.data.toList f k))) (fun _ i => t - (intOf i).toNat)
  case atStart => exact ⟨f, 0, by omega, hf, rfl, rfl, by omega, by omega, Lib.hid (by rw [cut_same]; exact ⟨rfl, rfl⟩)⟩
  case round =>
    obtain ⟨k, n, hfk, hkt, rfl, rfl, n0, n1, HD⟩ := hrel
    by_cases hlt : k < t
    · have hks : k < s.size := by omega
      have hc := (s[k]).toNat_lt
      by_cases hdg : Dt.digit s[k] = true
      · obtain ⟨g0, g1⟩ := Dt.digit_bd hdg
        have g0' : ¬ ((s[k].toNat : Int) < 48) := by omega
        have g1' : ¬ (57 < (s[k].toNat : Int)) := by omega
        have HE : Hid ((Dt.cut s.data.toList f (k + 1)).all Dt.digit = true ∧ n * 10 + (s[k].toNat : Int) - 48 = Dt.numV (Dt.cut s.data.toList f (k + 1))) := by
          refine ⟨?_, ?_⟩
          · rw [cut_snoc s f k hfk hks, List.all_append, HD.out.1]; simp [hdg]
          · rw [cut_snoc s f k hfk hks, Dt.numV_snoc, ← HD.out.2]; omega
        have hn3 : n ≤ 999 := by
          have hl : (Dt.cut s.data.toList f k).length ≤ 3 := by have := Dt.cut_len s.data.toList f k; omega
          have := Dt.numV_bd _ HD.out.1
          rw [← HD.out.2] at this
          have hp := Nat.pow_le_pow_right (n := 10) (by omega) hl
          have hp' : (10 : Int) ^ (Dt.cut s.data.toList f k).length ≤ 10 ^ 3 := by exact_mod_cast hp
          omega
        clear hdg g0 g1
        have q0 : 0 ≤ n * 10 + (s[k].toNat : Int) - 48 := by omega
        have q1 : n * 10 + (s[k].toNat : Int) - 48 ≤ 9999 := by omega
        go_wp2_with fail
        go_round
        case rel => exact ⟨k + 1, n * 10 + (s[k].toNat : Int) - 48, by omega, by omega, by go_num, by go_num, q0, q1, HE⟩
        case measure => simp [intOf]; omega
      · have hdg' : Dt.digit s[k] = false := by simpa using hdg
        have HR := Lib.hid (numR_bad s f k t hfk hlt ht hdg')
        have hb : s[k].toNat < 48 ∨ 57 < s[k].toNat := by
          unfold Dt.digit at hdg
          simp at hdg; omega
        clear hdg hdg'
        rcases hb with hb | hb
        · have g0' : ((s[k].toNat : Int) < 48) := by omega
          go_wp2_with fail
          go_ret
          exact ⟨ret_int HR.out.symm, rfl⟩
        · have g0' : ¬ ((s[k].toNat : Int) < 48) := by omega
          have g1' : (57 < (s[k].toNat : Int)) := by omega
          go_wp2_with fail
          go_ret
          exact ⟨ret_int HR.out.symm, rfl⟩
    · obtain rfl : k = t := by omega
      have HR : Hid (Dt.numR (Dt.cut s.data.toList f k) = n) := by
        show _ = _
        unfold Dt.numR
        rw [if_pos HD.out.1, HD.out.2]
      go_wp2_with fail
      go_ret
      exact ⟨ret_int HR.out.symm, rfl⟩

theorem finR_hit {l : List UInt8} {k : Nat} (h : k < 12) (e : Dt.monthNames.getD k [] = l) : Dt.finR l = k := by
  unfold Dt.finR
  rw [Dt.mIdx_some h e]
theorem finR_miss {l : List UInt8} (h : ∀ k, k < 12 → Dt.monthNames.getD k [] ≠ l) : Dt.finR l = -1 := by
  unfold Dt.finR
  rw [Dt.mIdx_none h]
theorem ext_eq (s : ByteArray) (f t : Nat) (x : ByteArray) : ((s.extract f t).toList == x.toList) = decide (Dt.cut s.data.toList f t = x.data.toList) := by
  rw [bytes_eq, Dt.ext_list]; rfl

set_option maxHeartbeats 1600000 in
theorem find_c (s : ByteArray) (f : Nat) (w : World) (hf : f + 3 ≤ s.size) (hs : s.size ≤ 1000) :
    Calls Tryd.prog 20 #[.string s, .int .i64 f] w fun e w' => e = .returned (.int .i64 (Dt.finR (Dt.cut s.data.toList f (f + 3)))) ∧ Below w.heap.size w w' := by
  have hf1 : (0 : Int) ≤ (f : Int) := by omega
  have hf3 : (f : Int) + 3 ≤ (s.size : Int) := by omega
  go_enter Tryd.func20, Tryd.ntmps20
  go_wp2_with fail
  go_loopw [5] (fun i wr => ∃ k : Nat, k ≤ 12 ∧ i = .int .i64 k ∧ Hid (∀ j, j < k → Dt.monthNames.getD j [] ≠ Dt.cut s.data.toList f (f + 3)) ∧ Below w.heap.size w wr) (fun i _ => 12 - (intOf i).toNat)
  case atStart => exact ⟨0, by omega, rfl, Lib.hid (fun j hj => by omega), Below.refl _ _⟩
  case round =>
    obtain ⟨k, hk, rfl, HN, hB⟩ := hrel
    by_cases hlt : k < 12
    · have hM := Month_c k
      have hlt' : (k : Int) < 12 := by omega
      by_cases he : Dt.monthNames.getD k [] = Dt.cut s.data.toList f (f + 3)
      · have HR := Lib.hid (finR_hit hlt he)
        have hb : ((s.extract f (f + 3)).toList == (monS k).toList) = true := by
          rw [ext_eq]; unfold monS; rw [str_list]; simpa using he.symm
        clear he
        go_wp2_with fail
        have j0 : (0 : Int) ≤ (f : Int) + 3 := by omega
        have j3 : (f : Int) ≤ (f : Int) + 3 := by omega
        have j1 : ((f : Int) + 3).toNat = f + 3 := by omega
        have j2 := IntWalk.i64_in ((f : Int) + 3) (by omega)
        refine wp_region_late (by kernel_rfl) (by kernel_rfl) ?_
        repeat (quiet_step ((go_at_call 23; exact late _ (hM _ hlt))))
        refine wpQuiet_nil ?_
        intro w2 hw'
        have hb2 : Below wr.heap.size wr w2 := by obtain ⟨p, rfl⟩ := hw'; exact p.h
        clear hw' j0 j1 j2 j3
        go_wp2_with fail
        go_ret
        exact ⟨ret_int HR.out.symm, hB.trans (hb2.mono hB.size)⟩
      · have hb : ((s.extract f (f + 3)).toList == (monS k).toList) = false := by
          rw [ext_eq]; unfold monS; rw [str_list]; simpa using fun e => he e.symm
        have HE := Lib.hid he
        clear he
        go_wp2_with fail
        have j0 : (0 : Int) ≤ (f : Int) + 3 := by omega
        have j3 : (f : Int) ≤ (f : Int) + 3 := by omega
        have j1 : ((f : Int) + 3).toNat = f + 3 := by omega
        have j2 := IntWalk.i64_in ((f : Int) + 3) (by omega)
        refine wp_region_late (by kernel_rfl) (by kernel_rfl) ?_
        repeat (quiet_step ((go_at_call 23; exact late _ (hM _ hlt))))
        refine wpQuiet_nil ?_
        intro w2 hw'
        have hb2 : Below wr.heap.size wr w2 := by obtain ⟨p, rfl⟩ := hw'; exact p.h
        clear hw' j0 j1 j2 j3
        go_wp2_with fail
        go_roundw
        case rel => exact ⟨k + 1, by omega, by go_num, Lib.hid (fun j hj => by
          by_cases hjk : j = k
          · rw [hjk]; exact HE.out
          · exact HN.out j (by omega)), hB.trans (hb2.mono hB.size)⟩
        case measure => simp [intOf]; omega
    · have hlt' : ¬ (k : Int) < 12 := by omega
      have HR := Lib.hid (finR_miss (l := Dt.cut s.data.toList f (f + 3)) (fun j hj => HN.out j (by omega)))
      go_wp2_with fail
      go_ret
      exact ⟨ret_int HR.out.symm, hB⟩

end Go.Proofs.YtlmcolpoaedclaaDoor
