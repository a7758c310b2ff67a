/- Package journal, the program: steps one behind the other. -/
import Derived.Test.YtjdmmnpfjbnhoaaJvG
namespace Go.Proofs.Ytjdmmnpfjbnhoaa
open Go.RowKit

set_option maxHeartbeats 1600000 in
set_option maxRecDepth 100000 in
theorem first_format (g q from_ n b : Nat) (R : Nat → World → Prop) (w : World) (h0 : R 0 w) (hb : ∀ k W, R k W → W.heap[b]? = some (.cells #[.func (.func 20) #[.agg #[.pointer (some ⟨g, 0, none⟩), .int .i64 (from_ : Int), .int .i64 (n : Int)]] #[], .func (.func 21) #[.pointer (some ⟨g, 0, none⟩)] #[], .func (.func 17) #[] #[.pointer (some ⟨q, 0, none⟩)], .func (.func 21) #[.pointer (some ⟨g, 0, none⟩)] #[]] 60 (0, 0)))
    (s0 : ∀ W, R 0 W → Calls Try.prog 20 #[.agg #[.pointer (some ⟨g, 0, none⟩), .int .i64 (from_ : Int), .int .i64 (n : Int)]] W fun e w' => e = .returned (.int .i64 0) ∧ R 1 w')
    (s1 : ∀ W, R 1 W → Calls Try.prog 21 #[.pointer (some ⟨g, 0, none⟩)] W fun e w' => e = .returned (.int .i64 0) ∧ R 2 w')
    (s2 : ∀ W, R 2 W → Calls Try.prog 17 #[.pointer (some ⟨q, 0, none⟩)] W fun e w' => e = .returned (.int .i64 0) ∧ R 3 w')
    (s3 : ∀ W, R 3 W → Calls Try.prog 21 #[.pointer (some ⟨g, 0, none⟩)] W fun e w' => e = .returned (.int .i64 0) ∧ R 4 w') :
    Calls Try.prog 19 #[.slice (some ⟨b, 0, none⟩) 4 4] w fun e w' => e = .returned (.int .i64 0) ∧ R 4 w' := by
  have HB := Lib.hid hb
  have S0 := Lib.hid s0
  have S1 := Lib.hid s1
  have S2 := Lib.hid s2
  have S3 := Lib.hid s3
  have H0 := Lib.hid h0
  clear hb h0 s0 s1 s2 s3
  go_enter Try.func19, Try.ntmps19
  go_wp2_with fail
  go_loopw [8] (fun i wr => ∃ k : Nat, k ≤ 4 ∧ i = .int .i64 k ∧ Hid (R k wr)) (fun i _ => 4 - (intOf i).toNat)
  case atStart => exact ⟨0, Nat.zero_le _, rfl, H0⟩
  case round =>
    obtain ⟨k, hk, rfl, hR⟩ := hrel
    clear H0
    rcases (show k = 0 ∨ k = 1 ∨ k = 2 ∨ k = 3 ∨ k = 4 by omega) with rfl | rfl | rfl | rfl | rfl
    · have hc := (blk_cell (HB.out 0 wr hR.out) 0 _ rfl).1
      simp only [List.getElem_toArray, List.getElem_cons_zero, List.getElem_cons_succ] at hc
      go_wp2_with fail
      refine (S0.out wr hR.out).mono ?_
      rintro e w' ⟨rfl, hR'⟩
      have HR' := Lib.hid hR'
      clear hR' hc hR
      go_wp2_with fail
      go_roundw
      case rel => exact ⟨1, by decide, rfl, HR'⟩
      case measure => decide
    · have hc := (blk_cell (HB.out 1 wr hR.out) 1 _ rfl).1
      simp only [List.getElem_toArray, List.getElem_cons_zero, List.getElem_cons_succ] at hc
      go_wp2_with fail
      refine (S1.out wr hR.out).mono ?_
      rintro e w' ⟨rfl, hR'⟩
      have HR' := Lib.hid hR'
      clear hR' hc hR
      go_wp2_with fail
      go_roundw
      case rel => exact ⟨2, by decide, rfl, HR'⟩
      case measure => decide
    · have hc := (blk_cell (HB.out 2 wr hR.out) 2 _ rfl).1
      simp only [List.getElem_toArray, List.getElem_cons_zero, List.getElem_cons_succ] at hc
      go_wp2_with fail
      refine (S2.out wr hR.out).mono ?_
      rintro e w' ⟨rfl, hR'⟩
      have HR' := Lib.hid hR'
      clear hR' hc hR
      go_wp2_with fail
      go_roundw
      case rel => exact ⟨3, by decide, rfl, HR'⟩
      case measure => decide
    · have hc := (blk_cell (HB.out 3 wr hR.out) 3 _ rfl).1
      simp only [List.getElem_toArray, List.getElem_cons_zero, List.getElem_cons_succ] at hc
      go_wp2_with fail
      refine (S3.out wr hR.out).mono ?_
      rintro e w' ⟨rfl, hR'⟩
      have HR' := Lib.hid hR'
      clear hR' hc hR
      go_wp2_with fail
      go_roundw
      case rel => exact ⟨4, by decide, rfl, HR'⟩
      case measure => decide
    · go_wp2_with fail
      go_ret
      exact ⟨rfl, hR.out⟩

set_option maxHeartbeats 1600000 in
set_option maxRecDepth 100000 in
theorem first_redo (g q b : Nat) (R : Nat → World → Prop) (w : World) (h0 : R 0 w) (hb : ∀ k W, R k W → W.heap[b]? = some (.cells #[.func (.func 49) #[.pointer (some ⟨q, 0, none⟩)] #[], .func (.func 21) #[.pointer (some ⟨g, 0, none⟩)] #[], .func (.func 50) #[.pointer (some ⟨q, 0, none⟩)] #[], .func (.func 21) #[.pointer (some ⟨g, 0, none⟩)] #[], .func (.func 51) #[.pointer (some ⟨q, 0, none⟩)] #[]] 60 (0, 0)))
    (s0 : ∀ W, R 0 W → Calls Try.prog 49 #[.pointer (some ⟨q, 0, none⟩)] W fun e w' => e = .returned (.int .i64 0) ∧ R 1 w')
    (s1 : ∀ W, R 1 W → Calls Try.prog 21 #[.pointer (some ⟨g, 0, none⟩)] W fun e w' => e = .returned (.int .i64 0) ∧ R 2 w')
    (s2 : ∀ W, R 2 W → Calls Try.prog 50 #[.pointer (some ⟨q, 0, none⟩)] W fun e w' => e = .returned (.int .i64 0) ∧ R 3 w')
    (s3 : ∀ W, R 3 W → Calls Try.prog 21 #[.pointer (some ⟨g, 0, none⟩)] W fun e w' => e = .returned (.int .i64 0) ∧ R 4 w')
    (s4 : ∀ W, R 4 W → Calls Try.prog 51 #[.pointer (some ⟨q, 0, none⟩)] W fun e w' => e = .returned (.int .i64 0) ∧ R 5 w') :
    Calls Try.prog 19 #[.slice (some ⟨b, 0, none⟩) 5 5] w fun e w' => e = .returned (.int .i64 0) ∧ R 5 w' := by
  have HB := Lib.hid hb
  have S0 := Lib.hid s0
  have S1 := Lib.hid s1
  have S2 := Lib.hid s2
  have S3 := Lib.hid s3
  have S4 := Lib.hid s4
  have H0 := Lib.hid h0
  clear hb h0 s0 s1 s2 s3 s4
  go_enter Try.func19, Try.ntmps19
  go_wp2_with fail
  go_loopw [8] (fun i wr => ∃ k : Nat, k ≤ 5 ∧ i = .int .i64 k ∧ Hid (R k wr)) (fun i _ => 5 - (intOf i).toNat)
  case atStart => exact ⟨0, Nat.zero_le _, rfl, H0⟩
  case round =>
    obtain ⟨k, hk, rfl, hR⟩ := hrel
    clear H0
    rcases (show k = 0 ∨ k = 1 ∨ k = 2 ∨ k = 3 ∨ k = 4 ∨ k = 5 by omega) with rfl | rfl | rfl | rfl | rfl | rfl
    · have hc := (blk_cell (HB.out 0 wr hR.out) 0 _ rfl).1
      simp only [List.getElem_toArray, List.getElem_cons_zero, List.getElem_cons_succ] at hc
      go_wp2_with fail
      refine (S0.out wr hR.out).mono ?_
      rintro e w' ⟨rfl, hR'⟩
      have HR' := Lib.hid hR'
      clear hR' hc hR
      go_wp2_with fail
      go_roundw
      case rel => exact ⟨1, by decide, rfl, HR'⟩
      case measure => decide
    · have hc := (blk_cell (HB.out 1 wr hR.out) 1 _ rfl).1
      simp only [List.getElem_toArray, List.getElem_cons_zero, List.getElem_cons_succ] at hc
      go_wp2_with fail
      refine (S1.out wr hR.out).mono ?_
      rintro e w' ⟨rfl, hR'⟩
      have HR' := Lib.hid hR'
      clear hR' hc hR
      go_wp2_with fail
      go_roundw
      case rel => exact ⟨2, by decide, rfl, HR'⟩
      case measure => decide
    · have hc := (blk_cell (HB.out 2 wr hR.out) 2 _ rfl).1
      simp only [List.getElem_toArray, List.getElem_cons_zero, List.getElem_cons_succ] at hc
      go_wp2_with fail
      refine (S2.out wr hR.out).mono ?_
      rintro e w' ⟨rfl, hR'⟩
      have HR' := Lib.hid hR'
      clear hR' hc hR
      go_wp2_with fail
      go_roundw
      case rel => exact ⟨3, by decide, rfl, HR'⟩
      case measure => decide
    · have hc := (blk_cell (HB.out 3 wr hR.out) 3 _ rfl).1
      simp only [List.getElem_toArray, List.getElem_cons_zero, List.getElem_cons_succ] at hc
      go_wp2_with fail
      refine (S3.out wr hR.out).mono ?_
      rintro e w' ⟨rfl, hR'⟩
      have HR' := Lib.hid hR'
      clear hR' hc hR
      go_wp2_with fail
      go_roundw
      case rel => exact ⟨4, by decide, rfl, HR'⟩
      case measure => decide
    · have hc := (blk_cell (HB.out 4 wr hR.out) 4 _ rfl).1
      simp only [List.getElem_toArray, List.getElem_cons_zero, List.getElem_cons_succ] at hc
      go_wp2_with fail
      refine (S4.out wr hR.out).mono ?_
      rintro e w' ⟨rfl, hR'⟩
      have HR' := Lib.hid hR'
      clear hR' hc hR
      go_wp2_with fail
      go_roundw
      case rel => exact ⟨5, by decide, rfl, HR'⟩
      case measure => decide
    · go_wp2_with fail
      go_ret
      exact ⟨rfl, hR.out⟩

set_option maxHeartbeats 1600000 in
set_option maxRecDepth 100000 in
theorem first_settle (g q b : Nat) (R : Nat → World → Prop) (w : World) (h0 : R 0 w) (hb : ∀ k W, R k W → W.heap[b]? = some (.cells #[.func (.func 21) #[.pointer (some ⟨g, 0, none⟩)] #[], .func (.func 25) #[.pointer (some ⟨q, 0, none⟩)] #[]] 60 (0, 0)))
    (s0 : ∀ W, R 0 W → Calls Try.prog 21 #[.pointer (some ⟨g, 0, none⟩)] W fun e w' => e = .returned (.int .i64 0) ∧ R 1 w')
    (s1 : ∀ W, R 1 W → Calls Try.prog 25 #[.pointer (some ⟨q, 0, none⟩)] W fun e w' => e = .returned (.int .i64 0) ∧ R 2 w') :
    Calls Try.prog 19 #[.slice (some ⟨b, 0, none⟩) 2 2] w fun e w' => e = .returned (.int .i64 0) ∧ R 2 w' := by
  have HB := Lib.hid hb
  have S0 := Lib.hid s0
  have S1 := Lib.hid s1
  have H0 := Lib.hid h0
  clear hb h0 s0 s1
  go_enter Try.func19, Try.ntmps19
  go_wp2_with fail
  go_loopw [8] (fun i wr => ∃ k : Nat, k ≤ 2 ∧ i = .int .i64 k ∧ Hid (R k wr)) (fun i _ => 2 - (intOf i).toNat)
  case atStart => exact ⟨0, Nat.zero_le _, rfl, H0⟩
  case round =>
    obtain ⟨k, hk, rfl, hR⟩ := hrel
    clear H0
    rcases (show k = 0 ∨ k = 1 ∨ k = 2 by omega) with rfl | rfl | rfl
    · have hc := (blk_cell (HB.out 0 wr hR.out) 0 _ rfl).1
      simp only [List.getElem_toArray, List.getElem_cons_zero, List.getElem_cons_succ] at hc
      go_wp2_with fail
      refine (S0.out wr hR.out).mono ?_
      rintro e w' ⟨rfl, hR'⟩
      have HR' := Lib.hid hR'
      clear hR' hc hR
      go_wp2_with fail
      go_roundw
      case rel => exact ⟨1, by decide, rfl, HR'⟩
      case measure => decide
    · have hc := (blk_cell (HB.out 1 wr hR.out) 1 _ rfl).1
      simp only [List.getElem_toArray, List.getElem_cons_zero, List.getElem_cons_succ] at hc
      go_wp2_with fail
      refine (S1.out wr hR.out).mono ?_
      rintro e w' ⟨rfl, hR'⟩
      have HR' := Lib.hid hR'
      clear hR' hc hR
      go_wp2_with fail
      go_roundw
      case rel => exact ⟨2, by decide, rfl, HR'⟩
      case measure => decide
    · go_wp2_with fail
      go_ret
      exact ⟨rfl, hR.out⟩

set_option maxHeartbeats 1600000 in
set_option maxRecDepth 100000 in
theorem first_commit (g p2 p7 p10 b : Nat) (R : Nat → World → Prop) (w : World) (h0 : R 0 w) (hb : ∀ k W, R k W → W.heap[b]? = some (.cells #[.func (.func 31) #[] #[.pointer (some ⟨p2, 0, none⟩), .pointer (some ⟨p7, 0, none⟩), .pointer (some ⟨p10, 0, none⟩)], .func (.func 21) #[.pointer (some ⟨g, 0, none⟩)] #[], .func (.func 34) #[] #[.pointer (some ⟨p2, 0, none⟩), .pointer (some ⟨p10, 0, none⟩)]] 60 (0, 0)))
    (s0 : ∀ W, R 0 W → Calls Try.prog 31 #[.pointer (some ⟨p2, 0, none⟩), .pointer (some ⟨p7, 0, none⟩), .pointer (some ⟨p10, 0, none⟩)] W fun e w' => e = .returned (.int .i64 0) ∧ R 1 w')
    (s1 : ∀ W, R 1 W → Calls Try.prog 21 #[.pointer (some ⟨g, 0, none⟩)] W fun e w' => e = .returned (.int .i64 0) ∧ R 2 w')
    (s2 : ∀ W, R 2 W → Calls Try.prog 34 #[.pointer (some ⟨p2, 0, none⟩), .pointer (some ⟨p10, 0, none⟩)] W fun e w' => e = .returned (.int .i64 0) ∧ R 3 w') :
    Calls Try.prog 19 #[.slice (some ⟨b, 0, none⟩) 3 3] w fun e w' => e = .returned (.int .i64 0) ∧ R 3 w' := by
  have HB := Lib.hid hb
  have S0 := Lib.hid s0
  have S1 := Lib.hid s1
  have S2 := Lib.hid s2
  have H0 := Lib.hid h0
  clear hb h0 s0 s1 s2
  go_enter Try.func19, Try.ntmps19
  go_wp2_with fail
  go_loopw [8] (fun i wr => ∃ k : Nat, k ≤ 3 ∧ i = .int .i64 k ∧ Hid (R k wr)) (fun i _ => 3 - (intOf i).toNat)
  case atStart => exact ⟨0, Nat.zero_le _, rfl, H0⟩
  case round =>
    obtain ⟨k, hk, rfl, hR⟩ := hrel
    clear H0
    rcases (show k = 0 ∨ k = 1 ∨ k = 2 ∨ k = 3 by omega) with rfl | rfl | rfl | rfl
    · have hc := (blk_cell (HB.out 0 wr hR.out) 0 _ rfl).1
      simp only [List.getElem_toArray, List.getElem_cons_zero, List.getElem_cons_succ] at hc
      go_wp2_with fail
      refine (S0.out wr hR.out).mono ?_
      rintro e w' ⟨rfl, hR'⟩
      have HR' := Lib.hid hR'
      clear hR' hc hR
      go_wp2_with fail
      go_roundw
      case rel => exact ⟨1, by decide, rfl, HR'⟩
      case measure => decide
    · have hc := (blk_cell (HB.out 1 wr hR.out) 1 _ rfl).1
      simp only [List.getElem_toArray, List.getElem_cons_zero, List.getElem_cons_succ] at hc
      go_wp2_with fail
      refine (S1.out wr hR.out).mono ?_
      rintro e w' ⟨rfl, hR'⟩
      have HR' := Lib.hid hR'
      clear hR' hc hR
      go_wp2_with fail
      go_roundw
      case rel => exact ⟨2, by decide, rfl, HR'⟩
      case measure => decide
    · have hc := (blk_cell (HB.out 2 wr hR.out) 2 _ rfl).1
      simp only [List.getElem_toArray, List.getElem_cons_zero, List.getElem_cons_succ] at hc
      go_wp2_with fail
      refine (S2.out wr hR.out).mono ?_
      rintro e w' ⟨rfl, hR'⟩
      have HR' := Lib.hid hR'
      clear hR' hc hR
      go_wp2_with fail
      go_roundw
      case rel => exact ⟨3, by decide, rfl, HR'⟩
      case measure => decide
    · go_wp2_with fail
      go_ret
      exact ⟨rfl, hR.out⟩
end Go.Proofs.Ytjdmmnpfjbnhoaa
