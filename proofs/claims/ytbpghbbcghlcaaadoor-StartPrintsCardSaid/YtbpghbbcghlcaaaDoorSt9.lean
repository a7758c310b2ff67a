/- The statements of layer 6: StartPrints. -/
import Derived.Test.YtbpghbbcghlcaaaDoorSt8
namespace Go.Proofs.YtbpghbbcghlcaaaDoor
open Go.RowKit

set_option maxHeartbeats 6400000 in
set_option maxRecDepth 100000 in
theorem sprints_w {Env : World → Prop} (P : Prog6 Env) (s : St.S) (v : Value) (l : List UInt8) (w : World) (h2 : s.status ≤ 9223372036854775807) (h3 : s.minor ≤ 9223372036854775807) (h : BIn w v l) (hnil : NilOk v) (hE : Env w) :
    Calls Tryd.prog 4 #[sval s, v] w fun e w' => e = .returned (.bool true) ∧ Below w.heap.size w w' := by
  have HE := Lib.hid hE
  have HP := Lib.hid P
  have HV := Lib.hid h
  have HNIL := Lib.hid hnil
  have cA := fun (W : World) (hb : Below w.heap.size w W) => sawake_w P.toRead6 W (P.later hE hb)
  have h0 := SAt.start w (.string (str s.method)) (.string (str s.target)) (.int .i64 s.status) (.string (str s.reason)) (.int .i64 s.minor)
  have z1 := str_size s.method
  have z2 := str_size s.target
  have z3 := str_size s.reason
  have cP := fun (W : World) (hb : Below w.heap.size w W) (g1 : s.method.length ≤ 200) (g2 : s.target.length ≤ 9000) (g3 : s.reason.length ≤ 500) => P.print s W (by omega) (by omega) (by omega) h2 h3 (P.later hE hb)
  have cW := fun (W : World) (hb : Below w.heap.size w W) (g1 : s.method.length ≤ 200) (g2 : s.target.length ≤ 9000) (g3 : s.reason.length ≤ 500) => P.right s W (by omega) (by omega) (by omega) h2 h3 (P.later hE hb)
  have cY := fun (W : World) (g1 : s.method.length ≤ 200) (g2 : s.target.length ≤ 9000) (g3 : s.reason.length ≤ 500) => rRight_s s W (by omega) (by omega) (by omega)
  have cZ := fun (W : World) (g1 : s.method.length ≤ 200) (g2 : s.target.length ≤ 9000) (g3 : s.reason.length ≤ 500) => rPrint_st s W (by omega) (by omega) (by omega) h2 h3
  obtain ⟨ao, c, rfl, hlc, hc9, _⟩ := h
  obtain ⟨L, hL⟩ : ∃ L, L = l.length := ⟨_, rfl⟩
  rw [← hL] at hlc HV HNIL ⊢
  have HSV : Hid (∀ n e : Int, sres (s, n, e) = .tuple #[.agg #[.string (str s.method), .string (str s.target), .int .i64 s.status, .string (str s.reason), .int .i64 s.minor], .int .i64 n, .int .i64 e]) := Lib.hid (fun _ _ => rfl)
  obtain ⟨HM, hHM⟩ : ∃ x, x = str s.method := ⟨_, rfl⟩
  obtain ⟨HT, hHT⟩ : ∃ x, x = str s.target := ⟨_, rfl⟩
  obtain ⟨HR, hHR⟩ : ∃ x, x = str s.reason := ⟨_, rfl⟩
  obtain ⟨HC, hHC⟩ : ∃ x, x = s.status := ⟨_, rfl⟩
  obtain ⟨HK, hHK⟩ : ∃ x, x = s.minor := ⟨_, rfl⟩
  rw [sval_s] at cY cZ cP cW ⊢
  rw [← hHM] at z1
  rw [← hHT] at z2
  rw [← hHR] at z3
  simp only [← hHM, ← hHT, ← hHR, ← hHC, ← hHK] at cY cZ cP cW h0 HSV ⊢
  have HHC := Lib.hid hHC
  clear hHM hHT hHR hHK hHC P hE hnil
  by_cases g1 : (200 : Int) < HM.size
  · clear cY cZ cW cP hL
    go_enter Tryd.func4, Tryd.ntmps4
    go_upto_region 1 with fail
    generalize w.alloc _ = W0 at h0 ⊢
    go_wp2_with fail
    refine (cA _ h0.below).mono ?_
    rintro e1 w1 ⟨rfl, hb1⟩
    have h1 := h0.later hb1
    obtain ⟨c0, c1, c2, c3, c4⟩ := h1.cells
    have hB := h1.below
    clear h0 hb1
    go_wp2_with fail
    refine (cA _ hB).mono ?_
    rintro e2 w2 ⟨rfl, hb2⟩
    go_wp2_with fail
    go_ret
    exact ⟨rfl, hB.trans (hb2.mono hB.size)⟩
  by_cases g2 : (9000 : Int) < HT.size
  · clear cY cZ cW cP hL
    go_enter Tryd.func4, Tryd.ntmps4
    go_upto_region 1 with fail
    generalize w.alloc _ = W0 at h0 ⊢
    go_wp2_with fail
    refine (cA _ h0.below).mono ?_
    rintro e1 w1 ⟨rfl, hb1⟩
    have h1 := h0.later hb1
    obtain ⟨c0, c1, c2, c3, c4⟩ := h1.cells
    have hB := h1.below
    clear h0 hb1
    go_wp2_with fail
    refine (cA _ hB).mono ?_
    rintro e2 w2 ⟨rfl, hb2⟩
    go_wp2_with fail
    go_ret
    exact ⟨rfl, hB.trans (hb2.mono hB.size)⟩
  by_cases g3 : (500 : Int) < HR.size
  · clear cY cZ cW cP hL
    go_enter Tryd.func4, Tryd.ntmps4
    go_upto_region 1 with fail
    generalize w.alloc _ = W0 at h0 ⊢
    go_wp2_with fail
    refine (cA _ h0.below).mono ?_
    rintro e1 w1 ⟨rfl, hb1⟩
    have h1 := h0.later hb1
    obtain ⟨c0, c1, c2, c3, c4⟩ := h1.cells
    have hB := h1.below
    clear h0 hb1
    go_wp2_with fail
    refine (cA _ hB).mono ?_
    rintro e2 w2 ⟨rfl, hb2⟩
    go_wp2_with fail
    go_ret
    exact ⟨rfl, hB.trans (hb2.mono hB.size)⟩
  by_cases g4 : (300 : Int) < L
  · clear cY cZ cW cP hL
    go_enter Tryd.func4, Tryd.ntmps4
    go_upto_region 1 with fail
    generalize w.alloc _ = W0 at h0 ⊢
    go_wp2_with fail
    refine (cA _ h0.below).mono ?_
    rintro e1 w1 ⟨rfl, hb1⟩
    have h1 := h0.later hb1
    obtain ⟨c0, c1, c2, c3, c4⟩ := h1.cells
    have hB := h1.below
    clear h0 hb1
    go_wp2_with fail
    refine (cA _ hB).mono ?_
    rintro e2 w2 ⟨rfl, hb2⟩
    go_wp2_with fail
    go_ret
    exact ⟨rfl, hB.trans (hb2.mono hB.size)⟩
  replace cY := fun (W : World) => cY W (by omega) (by omega) (by omega)
  replace cZ := fun (W : World) => cZ W (by omega) (by omega) (by omega)
  replace cP := fun (W : World) (hb : Below w.heap.size w W) => cP W hb (by omega) (by omega) (by omega)
  replace cW := fun (W : World) (hb : Below w.heap.size w W) => cW W hb (by omega) (by omega) (by omega)
  have hl300 : l.length ≤ 300 := by omega
  clear z1 z2 z3 h2 h3 hL
  cases hr : St.right s with
  | false =>
    rw [hr] at cY cW
    simp only [hr, if_neg (show ¬ (false = true) by decide)] at cP
    clear cZ hr
    go_enter Tryd.func4, Tryd.ntmps4
    go_upto_region 1 with fail
    generalize w.alloc _ = W0 at h0 ⊢
    go_wp2_with fail
    refine (cA _ h0.below).mono ?_
    rintro e1 w1 ⟨rfl, hb1⟩
    have h1 := h0.later hb1
    obtain ⟨c0, c1, c2, c3, c4⟩ := h1.cells
    have hB := h1.below
    clear h0 hb1
    go_upto_region 3 with fail
    clear c0 c1 c2 c3 c4
    go_wp2_with (refine ldS h1.cell rfl (.tmp 2) rfl rfl ?_)
    refine (cP _ h1.below).mono ?_
    rintro e2 w2 ⟨⟨b, rfl, hbin, hnb⟩, hb2⟩
    have h2 := h1.later hb2
    clear h1 hB hb2 cP
    go_wp2_with (refine ldS h2.cell rfl (.tmp 2) rfl rfl ?_)
    refine (cY _).mono ?_
    rintro e3 w3 ⟨rfl, hb3⟩
    have h3 := h2.later hb3
    have hbin3 := hbin.later hb3
    clear h2 hb3 cY hbin
    go_wp2_with (refine ldS h3.cell rfl (.tmp 2) rfl rfl ?_)
    refine (cW _ h3.below).mono ?_
    rintro e4 w4 ⟨rfl, hb4⟩
    have h4 := h3.later hb4
    have hbin4 := hbin3.later hb4
    clear h3 hbin3 hb4 cW
    obtain ⟨ab, cb, rfl, _, _, _⟩ := hbin4
    have hBe := h4.below
    clear h4
    go_wp2_with fail
    go_ret
    exact ⟨rfl, hBe⟩
  | true =>
    rw [hr] at cY cW
    simp only [hr, if_pos] at cP
    have hbl := St.body_len hr
    have htl := @St.text_len s
    obtain ⟨B, hB⟩ : ∃ B, B = (St.text s).length := ⟨_, rfl⟩
    have hB9 : B ≤ 9000 := by
      by_cases hc : s.status = 0
      · have := hbl.1 hc; omega
      · have := hbl.2 hc; omega
    obtain ⟨Z, hZ⟩ : ∃ Z, Z = str (St.text s) := ⟨_, rfl⟩
    have hZe := hZ.symm
    rw [← hZ] at cZ
    have HRQ := Lib.hid (fun h => St.request_text hr h l)
    have HRA := Lib.hid (fun h => St.response_text hr h l)
    have hHB := Lib.hid hB
    have hlen1 : ([] : List UInt8).length + (St.text s).length ≤ 1000000000 := by simp; omega
    have hlen2 : (St.text s).length + l.length ≤ 1000000000 := by omega
    have hlen3 : (St.text s ++ l).length ≤ 100000 := by rw [List.length_append]; omega
    clear hbl htl hZ hr
    generalize St.text s = tx at *
    go_enter Tryd.func4, Tryd.ntmps4
    go_upto_region 1 with fail
    generalize w.alloc _ = W0 at h0 ⊢
    go_wp2_with fail
    refine (cA _ h0.below).mono ?_
    rintro e1 w1 ⟨rfl, hb1⟩
    have h1 := h0.later hb1
    obtain ⟨c0, c1, c2, c3, c4⟩ := h1.cells
    have hB := h1.below
    clear h0 hb1
    go_upto_region 3 with fail
    clear c0 c1 c2 c3 c4
    go_wp2_with (refine ldS h1.cell rfl (.tmp 2) rfl rfl ?_)
    refine (cP _ h1.below).mono ?_
    rintro e2 w2 ⟨⟨b, rfl, hbin, hnb⟩, hb2⟩
    have h2 := h1.later hb2
    clear h1 hB hb2 cP
    go_wp2_with (refine ldS h2.cell rfl (.tmp 2) rfl rfl ?_)
    refine (cY _).mono ?_
    rintro e3 w3 ⟨rfl, hb3⟩
    have h3 := h2.later hb3
    have hbin3 := hbin.later hb3
    clear h2 hb3 cY hbin
    go_wp2_with (refine ldS h3.cell rfl (.tmp 2) rfl rfl ?_)
    refine (cW _ h3.below).mono ?_
    rintro e4 w4 ⟨rfl, hb4⟩
    have h4 := h3.later hb4
    have hbin4 := hbin3.later hb4
    clear h3 hbin3 hb4 cW
    obtain ⟨ab, cb, hbv, hb7, hb8, hb9⟩ := id hbin4
    rw [← hHB.out] at hbv
    subst hbv
    have HNB := Lib.hid hnb
    clear hb7 hb8 hb9 hnb hB
    have hE0 := Buf.none_ w4 w4 (Below.refl _ _)
    have hb4' : Below w4.heap.size w4 (w4.alloc (.cells #[] 5)) := (Below.refl _ _).alloc (Nat.le_refl _) _
    have hbin5 := hbin4.later hb4'
    have hTn : NilOk (.slice ao L c) := HNIL.out
    have hBn : NilOk (.slice ab B cb) := HNB.out
    have HS4 := Lib.hid h4
    have HB4 := Lib.hid hbin4
    clear hb4' h4 hbin4
    go_upto_region 10 with (first
      | (at_builtin; refine appBs hE0 hbin5 hBn hlen1 rfl _ _ rfl rfl rfl ?_; intro v5 w5 hB5 hne5; rw [List.nil_append] at hB5; have hT5 := HV.out.later (HS4.out.below.trans (hB5.2.mono HS4.out.below.size)))
      | (at_builtin; refine appBs hB5 hT5 hTn hlen2 rfl _ _ rfl rfl rfl ?_; intro v6 w6 hB6 hne6))
    obtain ⟨hin, _⟩ := hB6.bin (hne6 (hne5 (fun h => by injection h with h; cases h)))
    have h6 := HS4.out.later hB6.2
    have hbin6 := HB4.out.later hB6.2
    have HIN := Lib.hid hin
    have cQ := HP.out.request v6 (tx ++ l) w6 hlen3 hin (HP.out.later HE.out h6.below)
    clear hE0 hbin5 hTn hBn HS4 HB4 hB5 hB6 hT5 hne5 hne6 hin hlen1 hlen2 cA
    by_cases hc : HC = 0
    · rw [HRQ.out (by rw [← HHC.out]; exact hc), HSV.out, ← hHB.out] at cQ
      clear HRQ HRA HSV HHC hHB HIN
      subst hc
      go_wp2_with fail
      refine cQ.mono ?_
      rintro e7 w7 ⟨rfl, hb7⟩
      have h7 := h6.later hb7
      have hbin7 := hbin6.later hb7
      have hX := SAt.start w7 (.string HM) (.string HT) (.int .i64 0) (.string HR) (.int .i64 HK)
      have hS := h7.later hX.below
      have hbE := hbin7.later hX.below
      clear h6 hbin6 h7 hbin7 hb7 cQ
      go_upto_region 11 with fail
      generalize w7.alloc (.cells #[.string HM, .string HT, .int .i64 0, .string HR, .int .i64 HK] 25) = WE at hX hS hbE ⊢
      generalize w7.heap.size = gX at hX ⊢
      obtain ⟨c0, c1, c2, c3, c4⟩ := hS.cells
      go_upto_region 13 with fail
      have hcx := hX.cells
      have hcs := hS.cells
      have x0 := fun p : LateOf WE => p.cell hcx.1
      have x1 := fun p : LateOf WE => p.cell hcx.2.1
      have x2 := fun p : LateOf WE => p.cell hcx.2.2.1
      have x3 := fun p : LateOf WE => p.cell hcx.2.2.2.1
      have x4 := fun p : LateOf WE => p.cell hcx.2.2.2.2
      have y0 := fun p : LateOf WE => p.cell hcs.1
      have y1 := fun p : LateOf WE => p.cell hcs.2.1
      have y2 := fun p : LateOf WE => p.cell hcs.2.2.1
      have y3 := fun p : LateOf WE => p.cell hcs.2.2.2.1
      have y4 := fun p : LateOf WE => p.cell hcs.2.2.2.2
      have gv := fun p : LateOf WE => (hbE.later p.h).all HNB.out
      have GZ := fun p : LateOf WE => late p (cZ p.w)
      have HB := Lib.hid (fun p : LateOf WE => hS.below.trans (p.h.mono hS.below.size))
      rw [hZe] at gv
      clear hX hS hcx hcs hbE cZ
      refine wp_region_late (by kernel_rfl) (by kernel_rfl) ?_
      quiet_step (fail)
      quiet_step (fail)
      quiet_step (fail)
      quiet_step (fail)
      quiet_step (fail)
      quiet_step (fail)
      quiet_step ((go_at_call 16; exact GZ _))
      quiet_step (fail)
      quiet_step (fail)
      quiet_step (fail)
      quiet_step (fail)
      quiet_step (fail)
      quiet_step (fail)
      quiet_step (fail)
      quiet_step (fail)
      quiet_step (fail)
      quiet_step (fail)
      quiet_step (fail)
      quiet_step (fail)
      quiet_step (fail)
      quiet_step (fail)
      quiet_step (fail)
      quiet_step (fail)
      quiet_step (fail)
      quiet_step (fail)
      refine wpQuiet_nil ?_
      intro w6 hw'
      obtain ⟨p, rfl⟩ := hw'
      have hBe := HB.out p
      go_wp2_with fail
      go_ret
      exact ⟨rfl, hBe⟩
    · have bc : (HC != 0) = true := by rw [bne, beq_eq_false_iff_ne.2 hc]; rfl
      have hA := HRA.out (by rw [← HHC.out]; exact hc)
      obtain ⟨⟨⟨m, t, C, r, K⟩, n, e⟩, hreq⟩ : ∃ x, St.request (tx ++ l) = x := ⟨_, rfl⟩
      rw [hreq, sres_s] at cQ
      simp only [] at cQ
      generalize str m = M at *
      generalize str t = T at *
      generalize str r = R at *
      have HAQ := Lib.hid hA
      clear hreq hA HRQ HRA
      go_wp2_with fail
      refine cQ.mono ?_
      rintro e7 w7 ⟨rfl, hb7⟩
      have h7 := h6.later hb7
      have hbin7 := hbin6.later hb7
      have hin7 := HIN.out.later hb7
      have hX := SAt.start w7 (.string M) (.string T) (.int .i64 C) (.string R) (.int .i64 K)
      have hS := h7.later hX.below
      clear h6 hbin6 hb7 cQ HIN
      go_upto_region 11 with fail
      generalize w7.alloc (.cells #[.string M, .string T, .int .i64 C, .string R, .int .i64 K] 25) = w8 at hX hS ⊢
      obtain ⟨c0, c1, c2, c3, c4⟩ := hS.cells
      have cS := HP.out.response v6 (tx ++ l) w8 hlen3 (hin7.later hX.below) (HP.out.later HE.out hS.below)
      rw [HAQ.out, HSV.out, ← hHB.out] at cS
      clear hin7 HAQ HSV HHC hHB hS
      go_wp2_with fail
      refine cS.mono ?_
      rintro e9 w9 ⟨rfl, hb9⟩
      have hX9 := hX.later hb9
      clear c0 c1 c2 c3 c4 hX hb9 cS
      go_upto_region 13 with (refine stS hX9 rfl (.tmp 9) (.tmp 75) rfl _ _ _ _ _ rfl rfl ?_; intro WE hX _)
      have hS := h7.later hX.below
      have hbE := hbin7.later hX.below
      clear hX9 h7 hbin7
      go_upto_region 13 with fail
      have hcx := hX.cells
      have hcs := hS.cells
      have x0 := fun p : LateOf WE => p.cell hcx.1
      have x1 := fun p : LateOf WE => p.cell hcx.2.1
      have x2 := fun p : LateOf WE => p.cell hcx.2.2.1
      have x3 := fun p : LateOf WE => p.cell hcx.2.2.2.1
      have x4 := fun p : LateOf WE => p.cell hcx.2.2.2.2
      have y0 := fun p : LateOf WE => p.cell hcs.1
      have y1 := fun p : LateOf WE => p.cell hcs.2.1
      have y2 := fun p : LateOf WE => p.cell hcs.2.2.1
      have y3 := fun p : LateOf WE => p.cell hcs.2.2.2.1
      have y4 := fun p : LateOf WE => p.cell hcs.2.2.2.2
      have gv := fun p : LateOf WE => (hbE.later p.h).all HNB.out
      have GZ := fun p : LateOf WE => late p (cZ p.w)
      have HB := Lib.hid (fun p : LateOf WE => hS.below.trans (p.h.mono hS.below.size))
      rw [hZe] at gv
      clear hX hS hcx hcs hbE cZ
      refine wp_region_late (by kernel_rfl) (by kernel_rfl) ?_
      quiet_step (fail)
      quiet_step (fail)
      quiet_step (fail)
      quiet_step (fail)
      quiet_step (fail)
      quiet_step (fail)
      quiet_step ((go_at_call 16; exact GZ _))
      quiet_step (fail)
      quiet_step (fail)
      quiet_step (fail)
      quiet_step (fail)
      quiet_step (fail)
      quiet_step (fail)
      quiet_step (fail)
      quiet_step (fail)
      quiet_step (fail)
      quiet_step (fail)
      quiet_step (fail)
      quiet_step (fail)
      quiet_step (fail)
      quiet_step (fail)
      quiet_step (fail)
      quiet_step (fail)
      quiet_step (fail)
      quiet_step (fail)
      refine wpQuiet_nil ?_
      intro w6 hw'
      obtain ⟨p, rfl⟩ := hw'
      have hBe := HB.out p
      go_wp2_with fail
      go_ret
      exact ⟨rfl, hBe⟩
end Go.Proofs.YtbpghbbcghlcaaaDoor
