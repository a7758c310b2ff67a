/- The document's own answer for package control: what is said, as a text. -/
import Derived.Test.YtolhhejhjjiefaaDoorCt5
namespace Go.Proofs.YtolhhejhjjiefaaDoor
open Go.RowKit

set_option maxHeartbeats 800000 in
theorem rput_w (s k : List UInt8) (b : Bool) (w : World) (hs : s.length ≤ 1000000) (hk : k.length ≤ 1000000) (h0 : k ≠ []) :
    Calls Tryd.prog 27 #[.string (str s), .string (str k), .bool b] w fun e w' => e = .returned (.string (str (Ctl.addP s (Ctl.flagT k b)))) ∧ w = w' := by
  have z1 : (str s).size ≤ 1000000 := by rw [str_size]; exact hs
  have z2 : (str k).size ≤ 1000000 := by rw [str_size]; exact hk
  cases b with
  | false =>
    rw [show Ctl.addP s (Ctl.flagT k false) = s from rfl]
    generalize str s = x at *
    generalize str k = y at *
    go_enter Tryd.func27, Tryd.ntmps27
    go_wp2_with fail
    go_ret
    exact ⟨rfl, rfl⟩
  | true =>
    rw [show Ctl.flagT k true = k from rfl]
    by_cases hs0 : s = []
    · have HR : Hid (⟨#[]⟩ ++ str k = str (Ctl.addP s k)) := Lib.hid (by
        unfold Ctl.addP; rw [if_neg h0, if_pos hs0]
        exact str_same (by rw [app_list, str_list]; rfl))
      rw [show str s = ⟨#[]⟩ by rw [hs0]; rfl]
      generalize str k = y at *
      clear z1 hs0
      go_enter Tryd.func27, Tryd.ntmps27
      go_wp2_with fail
      go_ret
      exact ⟨ret_str HR.out, rfl⟩
    · have HR : Hid (str s ++ ⟨#[44, 32]⟩ ++ str k = str (Ctl.addP s k)) := Lib.hid (by
        unfold Ctl.addP; rw [if_neg h0, if_neg hs0]
        exact str_same (by rw [app_list, app_list, str_list, str_list]))
      have hx1 : (str s).toList.isEmpty = false := by rw [str_toList]; cases s with
        | nil => exact absurd rfl hs0
        | cons _ _ => rfl
      have hx2 : ¬ (str s).toList = [] := by rw [str_toList]; exact hs0
      generalize str k = y at *
      generalize str s = x at *
      clear hs0
      go_enter Tryd.func27, Tryd.ntmps27
      go_wp2_with fail
      go_ret
      exact ⟨ret_str HR.out, rfl⟩

theorem num_flag (k : List UInt8) (n : Int) : Ctl.flagT (k ++ [61] ++ Oct.print n 10) (decide (0 ≤ n)) = Ctl.numT k n := by
  unfold Ctl.flagT Ctl.numT
  by_cases h : n < 0
  · rw [if_pos h, decide_eq_false (by omega)]; rfl
  · rw [if_neg h, decide_eq_true (by omega)]; simp [Oct.print, Oct.base]
theorem print_small (n : Int) (h : n ≤ 9223372036854775807) : (Oct.print n 10).length ≤ 100 := Oct.dgs_len10 n.toNat (by omega)

theorem name_len (k : List UInt8) (n : Int) (hk : k.length ≤ 9) (h : n ≤ 9223372036854775807) : (k ++ [61] ++ Oct.print n 10).length ≤ 1000000 := by
  have := print_small n h
  rw [List.length_append, List.length_append]
  show k.length + 1 + _ ≤ _
  omega

set_option maxHeartbeats 3200000 in
set_option maxRecDepth 100000 in
theorem rCPrint_w (c : Ctl.C) (w : World) (hf : Fits c) :
    Calls Tryd.prog 13 #[cval c] w fun e w' => e = .returned (.string (str (Ctl.print c))) ∧ Below w.heap.size w w' := by
  have HR : Hid (Ctl.joinAll (Ctl.texts c) = Ctl.print c) := Lib.hid (Ctl.joinAll_texts c)
  have hTL := Ctl.texts_len c hf.1 hf.2.1 hf.2.2.1 hf.2.2.2
  obtain ⟨f1, f2, f3, f4⟩ := hf
  have hba : Below w.heap.size w (w.alloc (.cells (ccells c) 25)) := (Below.refl _ w).alloc (Nat.le_refl _) _
  have hca : CAt (w.alloc (.cells (ccells c) 25)) w.heap.size c := heap_alloc_new w _
  have a0 : ([] : List UInt8).length ≤ 0 := Nat.le_refl 0
  have h0 : (Ctl.flagT Ctl.kNS c.ns).length ≤ 200 := hTL _ (by simp [Ctl.texts])
  have h1 : (Ctl.flagT Ctl.kNC c.nc).length ≤ 200 := hTL _ (by simp [Ctl.texts])
  have h2 : (Ctl.flagT Ctl.kPU c.pu).length ≤ 200 := hTL _ (by simp [Ctl.texts])
  have h3 : (Ctl.flagT Ctl.kPR c.pr).length ≤ 200 := hTL _ (by simp [Ctl.texts])
  have h4 : (Ctl.flagT Ctl.kMU c.mu).length ≤ 200 := hTL _ (by simp [Ctl.texts])
  have h5 : (Ctl.flagT Ctl.kPX c.px).length ≤ 200 := hTL _ (by simp [Ctl.texts])
  have h6 : (Ctl.flagT Ctl.kOI c.oi).length ≤ 200 := hTL _ (by simp [Ctl.texts])
  have h7 : (Ctl.numT Ctl.kMA c.ma).length ≤ 200 := hTL _ (by simp [Ctl.texts])
  have h8 : (Ctl.numT Ctl.kSA c.sa).length ≤ 200 := hTL _ (by simp [Ctl.texts])
  have h9 : (Ctl.numT Ctl.kMS c.ms).length ≤ 200 := hTL _ (by simp [Ctl.texts])
  have h10 : (Ctl.numT Ctl.kMF c.mf).length ≤ 200 := hTL _ (by simp [Ctl.texts])
  obtain ⟨A1, e1⟩ : ∃ A, A = Ctl.addP ([] : List UInt8) (Ctl.flagT Ctl.kNS c.ns) := ⟨_, rfl⟩
  have a1 : A1.length ≤ 202 := by rw [e1]; have := Ctl.addP_len ([] : List UInt8) (Ctl.flagT Ctl.kNS c.ns); omega
  have P0 := fun w => rput_w ([] : List UInt8) Ctl.kNS c.ns w (by omega) (by decide) (by decide)
  rw [← e1, show str Ctl.kNS = ⟨#[110, 111, 45, 115, 116, 111, 114, 101]⟩ from rfl] at P0
  obtain ⟨A2, e2⟩ : ∃ A, A = Ctl.addP A1 (Ctl.flagT Ctl.kNC c.nc) := ⟨_, rfl⟩
  have a2 : A2.length ≤ 404 := by rw [e2]; have := Ctl.addP_len A1 (Ctl.flagT Ctl.kNC c.nc); omega
  have P1 := fun w => rput_w A1 Ctl.kNC c.nc w (by omega) (by decide) (by decide)
  rw [← e2, show str Ctl.kNC = ⟨#[110, 111, 45, 99, 97, 99, 104, 101]⟩ from rfl] at P1
  obtain ⟨A3, e3⟩ : ∃ A, A = Ctl.addP A2 (Ctl.flagT Ctl.kPU c.pu) := ⟨_, rfl⟩
  have a3 : A3.length ≤ 606 := by rw [e3]; have := Ctl.addP_len A2 (Ctl.flagT Ctl.kPU c.pu); omega
  have P2 := fun w => rput_w A2 Ctl.kPU c.pu w (by omega) (by decide) (by decide)
  rw [← e3, show str Ctl.kPU = ⟨#[112, 117, 98, 108, 105, 99]⟩ from rfl] at P2
  obtain ⟨A4, e4⟩ : ∃ A, A = Ctl.addP A3 (Ctl.flagT Ctl.kPR c.pr) := ⟨_, rfl⟩
  have a4 : A4.length ≤ 808 := by rw [e4]; have := Ctl.addP_len A3 (Ctl.flagT Ctl.kPR c.pr); omega
  have P3 := fun w => rput_w A3 Ctl.kPR c.pr w (by omega) (by decide) (by decide)
  rw [← e4, show str Ctl.kPR = ⟨#[112, 114, 105, 118, 97, 116, 101]⟩ from rfl] at P3
  obtain ⟨A5, e5⟩ : ∃ A, A = Ctl.addP A4 (Ctl.flagT Ctl.kMU c.mu) := ⟨_, rfl⟩
  have a5 : A5.length ≤ 1010 := by rw [e5]; have := Ctl.addP_len A4 (Ctl.flagT Ctl.kMU c.mu); omega
  have P4 := fun w => rput_w A4 Ctl.kMU c.mu w (by omega) (by decide) (by decide)
  rw [← e5, show str Ctl.kMU = ⟨#[109, 117, 115, 116, 45, 114, 101, 118, 97, 108, 105, 100, 97, 116, 101]⟩ from rfl] at P4
  obtain ⟨A6, e6⟩ : ∃ A, A = Ctl.addP A5 (Ctl.flagT Ctl.kPX c.px) := ⟨_, rfl⟩
  have a6 : A6.length ≤ 1212 := by rw [e6]; have := Ctl.addP_len A5 (Ctl.flagT Ctl.kPX c.px); omega
  have P5 := fun w => rput_w A5 Ctl.kPX c.px w (by omega) (by decide) (by decide)
  rw [← e6, show str Ctl.kPX = ⟨#[112, 114, 111, 120, 121, 45, 114, 101, 118, 97, 108, 105, 100, 97, 116, 101]⟩ from rfl] at P5
  obtain ⟨A7, e7⟩ : ∃ A, A = Ctl.addP A6 (Ctl.flagT Ctl.kOI c.oi) := ⟨_, rfl⟩
  have a7 : A7.length ≤ 1414 := by rw [e7]; have := Ctl.addP_len A6 (Ctl.flagT Ctl.kOI c.oi); omega
  have P6 := fun w => rput_w A6 Ctl.kOI c.oi w (by omega) (by decide) (by decide)
  rw [← e7, show str Ctl.kOI = ⟨#[111, 110, 108, 121, 45, 105, 102, 45, 99, 97, 99, 104, 101, 100]⟩ from rfl] at P6
  obtain ⟨A8, e8⟩ : ∃ A, A = Ctl.addP A7 (Ctl.numT Ctl.kMA c.ma) := ⟨_, rfl⟩
  have a8 : A8.length ≤ 1616 := by rw [e8]; have := Ctl.addP_len A7 (Ctl.numT Ctl.kMA c.ma); omega
  have q7 := print_small c.ma f1
  have P7 := fun w => rput_w A7 (Ctl.kMA ++ [61] ++ Oct.print c.ma 10) (decide (0 ≤ c.ma)) w (by omega) (name_len _ _ (by decide) (by assumption)) (by simp)
  rw [num_flag, ← e8, show str (Ctl.kMA ++ [61] ++ Oct.print c.ma 10) = ⟨#[109, 97, 120, 45, 97, 103, 101, 61]⟩ ++ str (Oct.print c.ma 10) from (str_same (by rw [app_list, str_list]; rfl)).symm] at P7
  have R7 := fun w => rPrint_is c.ma 10 _ w f1 rfl
  have z7 : (str (Oct.print c.ma 10)).size ≤ 100 := by rw [str_size]; exact q7
  obtain ⟨A9, e9⟩ : ∃ A, A = Ctl.addP A8 (Ctl.numT Ctl.kSA c.sa) := ⟨_, rfl⟩
  have a9 : A9.length ≤ 1818 := by rw [e9]; have := Ctl.addP_len A8 (Ctl.numT Ctl.kSA c.sa); omega
  have q8 := print_small c.sa f2
  have P8 := fun w => rput_w A8 (Ctl.kSA ++ [61] ++ Oct.print c.sa 10) (decide (0 ≤ c.sa)) w (by omega) (name_len _ _ (by decide) (by assumption)) (by simp)
  rw [num_flag, ← e9, show str (Ctl.kSA ++ [61] ++ Oct.print c.sa 10) = ⟨#[115, 45, 109, 97, 120, 97, 103, 101, 61]⟩ ++ str (Oct.print c.sa 10) from (str_same (by rw [app_list, str_list]; rfl)).symm] at P8
  have R8 := fun w => rPrint_is c.sa 10 _ w f2 rfl
  have z8 : (str (Oct.print c.sa 10)).size ≤ 100 := by rw [str_size]; exact q8
  obtain ⟨A10, e10⟩ : ∃ A, A = Ctl.addP A9 (Ctl.numT Ctl.kMS c.ms) := ⟨_, rfl⟩
  have a10 : A10.length ≤ 2020 := by rw [e10]; have := Ctl.addP_len A9 (Ctl.numT Ctl.kMS c.ms); omega
  have q9 := print_small c.ms f3
  have P9 := fun w => rput_w A9 (Ctl.kMS ++ [61] ++ Oct.print c.ms 10) (decide (0 ≤ c.ms)) w (by omega) (name_len _ _ (by decide) (by assumption)) (by simp)
  rw [num_flag, ← e10, show str (Ctl.kMS ++ [61] ++ Oct.print c.ms 10) = ⟨#[109, 97, 120, 45, 115, 116, 97, 108, 101, 61]⟩ ++ str (Oct.print c.ms 10) from (str_same (by rw [app_list, str_list]; rfl)).symm] at P9
  have R9 := fun w => rPrint_is c.ms 10 _ w f3 rfl
  have z9 : (str (Oct.print c.ms 10)).size ≤ 100 := by rw [str_size]; exact q9
  obtain ⟨A11, e11⟩ : ∃ A, A = Ctl.addP A10 (Ctl.numT Ctl.kMF c.mf) := ⟨_, rfl⟩
  have a11 : A11.length ≤ 2222 := by rw [e11]; have := Ctl.addP_len A10 (Ctl.numT Ctl.kMF c.mf); omega
  have q10 := print_small c.mf f4
  have P10 := fun w => rput_w A10 (Ctl.kMF ++ [61] ++ Oct.print c.mf 10) (decide (0 ≤ c.mf)) w (by omega) (name_len _ _ (by decide) (by assumption)) (by simp)
  rw [num_flag, ← e11, show str (Ctl.kMF ++ [61] ++ Oct.print c.mf 10) = ⟨#[109, 105, 110, 45, 102, 114, 101, 115, 104, 61]⟩ ++ str (Oct.print c.mf 10) from (str_same (by rw [app_list, str_list]; rfl)).symm] at P10
  have R10 := fun w => rPrint_is c.mf 10 _ w f4 rfl
  have z10 : (str (Oct.print c.mf 10)).size ≤ 100 := by rw [str_size]; exact q10
  have HE : Hid (A11 = Ctl.print c) := Lib.hid (by rw [← HR.out, e11, e10, e9, e8, e7, e6, e5, e4, e3, e2, e1]; rfl)
  clear HR hTL h0 h1 h2 h3 h4 h5 h6 h7 h8 h9 h10 e1 a0 e2 a1 e3 a2 e4 a3 e5 a4 e6 a5 e7 a6 e8 a7 e9 a8 e10 a9 e11 a10 a11 q7 f1 q8 f2 q9 f3 q10 f4
  rw [show str ([] : List UInt8) = ⟨#[]⟩ from rfl] at P0
  rw [← HE.out]
  clear HE
  generalize str A1 = S1 at *
  generalize str A2 = S2 at *
  generalize str A3 = S3 at *
  generalize str A4 = S4 at *
  generalize str A5 = S5 at *
  generalize str A6 = S6 at *
  generalize str A7 = S7 at *
  generalize str A8 = S8 at *
  generalize str A9 = S9 at *
  generalize str A10 = S10 at *
  generalize str A11 = S11 at *
  generalize str (Oct.print c.ma 10) = D7 at *
  generalize str (Oct.print c.sa 10) = D8 at *
  generalize str (Oct.print c.ms 10) = D9 at *
  generalize str (Oct.print c.mf 10) = D10 at *
  obtain ⟨b0, b1, b2, b3, b4, b5, b6, b7, b8, b9, b10⟩ := (show CAt _ _ c from hca).cells
  clear hca
  unfold cval ccells at *
  obtain ⟨ns, nc, pu, pr, mu, px, oi, ma, sa, ms, mf⟩ := c
  simp only [] at *
  have HW : Hid (w.alloc (.cells #[.bool ns, .bool nc, .bool pu, .bool pr, .bool mu, .bool px, .bool oi, .int .i64 ma, .int .i64 sa, .int .i64 ms, .int .i64 mf] 25) = w.alloc (.cells #[.bool ns, .bool nc, .bool pu, .bool pr, .bool mu, .bool px, .bool oi, .int .i64 ma, .int .i64 sa, .int .i64 ms, .int .i64 mf] 25)) := Lib.hid rfl
  go_enter Tryd.func13, Tryd.ntmps13
  go_upto_region 1 with fail
  clear HW
  generalize w.alloc (.cells #[.bool ns, .bool nc, .bool pu, .bool pr, .bool mu, .bool px, .bool oi, .int .i64 ma, .int .i64 sa, .int .i64 ms, .int .i64 mf] 25) = W1 at *
  generalize hG : w.heap.size = G at *
  go_wp2_with fail
  refine (P0 _).mono ?_
  rintro e w' ⟨rfl, rfl⟩
  clear P0
  go_wp2_with fail
  refine (P1 _).mono ?_
  rintro e w' ⟨rfl, rfl⟩
  clear P1
  go_wp2_with fail
  refine (P2 _).mono ?_
  rintro e w' ⟨rfl, rfl⟩
  clear P2
  go_wp2_with fail
  refine (P3 _).mono ?_
  rintro e w' ⟨rfl, rfl⟩
  clear P3
  go_wp2_with fail
  refine (P4 _).mono ?_
  rintro e w' ⟨rfl, rfl⟩
  clear P4
  go_wp2_with fail
  refine (P5 _).mono ?_
  rintro e w' ⟨rfl, rfl⟩
  clear P5
  go_wp2_with fail
  refine (P6 _).mono ?_
  rintro e w' ⟨rfl, rfl⟩
  clear P6
  go_wp2_with fail
  have g7 : ¬ 9223372036854775807 < 8 + D7.size := by omega
  have l7a := fun p : LateOf W1 => p.cell b7
  have l7b := fun p : LateOf W1 => late p (R7 p.w)
  have l7c := fun p : LateOf W1 => late_same p (P7 p.w)
  refine wp_region_late (by kernel_rfl) (by kernel_rfl) ?_
  repeat (quiet_step (fail))
  quiet_step ((go_at_call 15; exact l7b _))
  repeat (quiet_step (fail))
  quiet_step ((go_at_call 27; exact l7c _))
  repeat (quiet_step (fail))
  refine wpQuiet_nil ?_
  intro W2 hw'
  have hb : Below W1.heap.size W1 W2 := by obtain ⟨p, rfl⟩ := hw'; exact p.h
  have hba := hba.trans (hb.mono (by have := hba.size; omega))
  have b8 := (hb.cell (p := ⟨G, 8, none⟩) (World.block_lt_of_cell? _ _ b8)).trans b8
  have b9 := (hb.cell (p := ⟨G, 9, none⟩) (World.block_lt_of_cell? _ _ b9)).trans b9
  have b10 := (hb.cell (p := ⟨G, 10, none⟩) (World.block_lt_of_cell? _ _ b10)).trans b10
  clear hw' hb l7a l7b l7c
  go_wp2_with fail
  have g8 : ¬ 9223372036854775807 < 9 + D8.size := by omega
  have l8a := fun p : LateOf W2 => p.cell b8
  have l8b := fun p : LateOf W2 => late p (R8 p.w)
  have l8c := fun p : LateOf W2 => late_same p (P8 p.w)
  refine wp_region_late (by kernel_rfl) (by kernel_rfl) ?_
  repeat (quiet_step (fail))
  quiet_step ((go_at_call 15; exact l8b _))
  repeat (quiet_step (fail))
  quiet_step ((go_at_call 27; exact l8c _))
  repeat (quiet_step (fail))
  refine wpQuiet_nil ?_
  intro W3 hw'
  have hb : Below W2.heap.size W2 W3 := by obtain ⟨p, rfl⟩ := hw'; exact p.h
  have hba := hba.trans (hb.mono (by have := hba.size; omega))
  have b9 := (hb.cell (p := ⟨G, 9, none⟩) (World.block_lt_of_cell? _ _ b9)).trans b9
  have b10 := (hb.cell (p := ⟨G, 10, none⟩) (World.block_lt_of_cell? _ _ b10)).trans b10
  clear hw' hb l8a l8b l8c
  go_wp2_with fail
  have g9 : ¬ 9223372036854775807 < 10 + D9.size := by omega
  have l9a := fun p : LateOf W3 => p.cell b9
  have l9b := fun p : LateOf W3 => late p (R9 p.w)
  have l9c := fun p : LateOf W3 => late_same p (P9 p.w)
  refine wp_region_late (by kernel_rfl) (by kernel_rfl) ?_
  repeat (quiet_step (fail))
  quiet_step ((go_at_call 15; exact l9b _))
  repeat (quiet_step (fail))
  quiet_step ((go_at_call 27; exact l9c _))
  repeat (quiet_step (fail))
  refine wpQuiet_nil ?_
  intro W4 hw'
  have hb : Below W3.heap.size W3 W4 := by obtain ⟨p, rfl⟩ := hw'; exact p.h
  have hba := hba.trans (hb.mono (by have := hba.size; omega))
  have b10 := (hb.cell (p := ⟨G, 10, none⟩) (World.block_lt_of_cell? _ _ b10)).trans b10
  clear hw' hb l9a l9b l9c
  go_wp2_with fail
  have g10 : ¬ 9223372036854775807 < 10 + D10.size := by omega
  have l10a := fun p : LateOf W4 => p.cell b10
  have l10b := fun p : LateOf W4 => late p (R10 p.w)
  have l10c := fun p : LateOf W4 => late_same p (P10 p.w)
  refine wp_region_late (by kernel_rfl) (by kernel_rfl) ?_
  repeat (quiet_step (fail))
  quiet_step ((go_at_call 15; exact l10b _))
  repeat (quiet_step (fail))
  quiet_step ((go_at_call 27; exact l10c _))
  repeat (quiet_step (fail))
  refine wpQuiet_nil ?_
  intro W5 hw'
  have hb : Below W4.heap.size W4 W5 := by obtain ⟨p, rfl⟩ := hw'; exact p.h
  have hba := hba.trans (hb.mono (by have := hba.size; omega))
  clear hw' hb l10a l10b l10c
  go_wp2_with fail
  go_ret
  exact ⟨rfl, by rw [hG]; exact hba⟩
end Go.Proofs.YtolhhejhjjiefaaDoor
