/- The statements of layer 6: StartReads, StartCuts. -/
import Derived.Test.YtbpghbbcghlcaaaDoorSt7
namespace Go.Proofs.YtbpghbbcghlcaaaDoor
open Go.RowKit

set_option maxHeartbeats 6400000 in
set_option maxRecDepth 100000 in
theorem sreads_w {Env : World → Prop} (P : Read6 Env) (v : Value) (l : List UInt8) (w : World) (h : BIn w v l) (hnil : NilOk v) (hE : Env w) :
    Calls Tryd.prog 3 #[v] w fun e w' => e = .returned (.bool true) ∧ Below w.heap.size w w' := by
  have HV := Lib.hid h
  have HNIL := Lib.hid hnil
  have HE := Lib.hid hE
  have HP := Lib.hid P
  have cA := fun (W : World) (hb : Below w.heap.size w W) => sawake_w P W (P.later hE hb)
  have hwb : Below w.heap.size w w := Below.refl _ _
  obtain ⟨ao, c, rfl, hlc, hc9, _⟩ := h
  obtain ⟨L, hL⟩ : ∃ L, L = l.length := ⟨_, rfl⟩
  rw [← hL] at hlc HV HNIL ⊢
  clear hnil hE P
  by_cases h9 : (9000 : Int) < L
  · clear hL
    go_enter Tryd.func3, Tryd.ntmps3
    go_wp2_with fail
    refine (cA w hwb).mono ?_
    rintro e w1 ⟨rfl, hb1⟩
    go_wp2_with fail
    refine (cA w1 hb1).mono ?_
    rintro e w2 ⟨rfl, hb2⟩
    go_wp2_with fail
    go_ret
    exact ⟨rfl, hb1.trans (hb2.mono hb1.size)⟩
  have cQ := fun (u : Value) (W : World) (hu : BIn W u l) (hb : Below w.heap.size w W) => HP.out.request u l W (by omega) hu (HP.out.later HE.out hb)
  have cR := fun (W : World) (hb : Below w.heap.size w W) => rRequest_w (.slice ao L c) l W (by omega) (HV.out.later hb)
  have cS := fun (W : World) (hb : Below w.heap.size w W) => HP.out.response (.slice ao L c) l W (by omega) (HV.out.later hb) (HP.out.later HE.out hb)
  have cT := fun (W : World) (hb : Below w.heap.size w W) => rResponse_w (.slice ao L c) l W (by omega) (HV.out.later hb)
  have hlen : ([] : List UInt8).length + l.length ≤ 1000000000 := by simp; omega
  have hnb := St.not_both l
  obtain ⟨⟨⟨m, t, C, r, K⟩, n, e⟩, hq⟩ : ∃ x, St.request l = x := ⟨_, rfl⟩
  obtain ⟨⟨⟨m2, t2, C2, r2, K2⟩, n2, e2⟩, ha⟩ : ∃ x, St.response l = x := ⟨_, rfl⟩
  rw [hq, sres_s] at cQ cR
  rw [ha, sres_s] at cS cT
  rw [hq, ha] at hnb
  simp only [] at cQ cR cS cT hnb
  generalize str m = M at *
  generalize str t = T at *
  generalize str r = R at *
  generalize str m2 = M2 at *
  generalize str t2 = T2 at *
  generalize str r2 = R2 at *
  have HNB := Lib.hid hnb
  clear hq ha hL hnb
  go_enter Tryd.func3, Tryd.ntmps3
  go_wp2_with fail
  refine (cA w hwb).mono ?_
  rintro e0 w1 ⟨rfl, hb1⟩
  have hE0 := Buf.none_ w w1 hb1
  have hV1 : BIn (w1.alloc (.cells #[] 5)) (.slice ao L c) l := by
    exact (HV.out.later hb1).later ((Below.refl _ w1).alloc (Nat.le_refl _) (.cells #[] 5))
  have hN1 : NilOk (.slice ao L c) := HNIL.out
  clear cA hwb
  go_wp2_with (at_builtin; refine appBs hE0 hV1 hN1 hlen rfl _ _ rfl rfl rfl ?_; intro v' w2 hB2 hne2)
  rw [List.nil_append] at hB2
  obtain ⟨hbin, _⟩ := hB2.bin (hne2 (fun h => by injection h with h; cases h))
  have hb2 := hB2.below
  refine (cQ _ _ hbin hb2).mono ?_
  rintro e3 w3 ⟨rfl, hb3⟩
  have hX := SAt.fresh (hb2.trans (hb3.mono hb2.size)) (.string M) (.string T) (.int .i64 C) (.string R) (.int .i64 K)
  clear hE0 hV1 hN1 hB2 hne2 hbin hb1 hb2 hb3 cQ
  go_upto_region 4 with fail
  generalize w3.alloc (.cells #[.string M, .string T, .int .i64 C, .string R, .int .i64 K] 25) = w4 at hX ⊢
  generalize w3.heap.size = g4 at hX ⊢
  go_wp2_with fail
  refine (cR _ hX.below).mono ?_
  rintro e5 w5 ⟨rfl, hb5⟩
  have hX5 := hX.later hb5
  have hY := SAt.fresh hX5.below (.string M) (.string T) (.int .i64 C) (.string R) (.int .i64 K)
  have hX6 := hX5.alloc (.cells #[.string M, .string T, .int .i64 C, .string R, .int .i64 K] 25)
  clear hX hX5 hb5 cR
  go_upto_region 5 with fail
  generalize w5.alloc (.cells #[.string M, .string T, .int .i64 C, .string R, .int .i64 K] 25) = w6 at hX6 hY ⊢
  generalize w5.heap.size = g6 at hY ⊢
  go_wp2_with fail
  refine (cS _ hX6.below).mono ?_
  rintro e7 w7 ⟨rfl, hb7⟩
  have hX7 := hX6.later hb7
  have hY7 := hY.later hb7
  have hU := SAt.fresh hX7.below (.string M2) (.string T2) (.int .i64 C2) (.string R2) (.int .i64 K2)
  have hX8 := hX7.alloc (.cells #[.string M2, .string T2, .int .i64 C2, .string R2, .int .i64 K2] 25)
  have hY8 := hY7.alloc (.cells #[.string M2, .string T2, .int .i64 C2, .string R2, .int .i64 K2] 25)
  clear hX6 hY hX7 hY7 hb7 cS
  go_upto_region 6 with fail
  generalize w7.alloc (.cells #[.string M2, .string T2, .int .i64 C2, .string R2, .int .i64 K2] 25) = w8 at hX8 hY8 hU ⊢
  generalize w7.heap.size = g8 at hU ⊢
  go_wp2_with fail
  refine (cT _ hX8.below).mono ?_
  rintro e9 w9 ⟨rfl, hb9⟩
  have hX9 := hX8.later hb9
  have hY9 := hY8.later hb9
  have hU9 := hU.later hb9
  have hV := SAt.fresh hX9.below (.string M2) (.string T2) (.int .i64 C2) (.string R2) (.int .i64 K2)
  have hXa := hX9.alloc (.cells #[.string M2, .string T2, .int .i64 C2, .string R2, .int .i64 K2] 25)
  have hYa := hY9.alloc (.cells #[.string M2, .string T2, .int .i64 C2, .string R2, .int .i64 K2] 25)
  have hUa := hU9.alloc (.cells #[.string M2, .string T2, .int .i64 C2, .string R2, .int .i64 K2] 25)
  clear hX8 hY8 hU hX9 hY9 hU9 hb9 cT
  go_upto_region 7 with fail
  generalize w9.alloc (.cells #[.string M2, .string T2, .int .i64 C2, .string R2, .int .i64 K2] 25) = wa at hXa hYa hUa hV ⊢
  generalize w9.heap.size = ga at hV ⊢
  obtain ⟨x0, x1, x2, x3, x4⟩ := hXa.cells
  obtain ⟨y0, y1, y2, y3, y4⟩ := hYa.cells
  obtain ⟨u0, u1, u2, u3, u4⟩ := hUa.cells
  obtain ⟨v0, v1, v2, v3, v4⟩ := hV.cells
  have hB := hXa.below
  clear hXa hYa hUa hV
  by_cases he : e = 0
  · have he2 := HNB.out he
    have b2 : (e2 != 0) = true := by rw [bne, beq_eq_false_iff_ne.2 he2]; rfl
    subst he
    go_wp2_with fail
    go_ret
    exact ⟨rfl, hB⟩
  · have b1 : (e != 0) = true := by rw [bne, beq_eq_false_iff_ne.2 he]; rfl
    go_wp2_with fail
    go_ret
    exact ⟨rfl, hB⟩

theorem tmod_bounds (a : Int) (n : Nat) (hn : 1 ≤ n) : ∃ q, a.tmod n = q ∧ -(n : Int) < q ∧ q < n := by
  refine ⟨_, rfl, ?_, ?_⟩
  · have := Int.lt_tmod_of_pos a (b := n) (by omega); omega
  · exact Int.tmod_lt_of_pos a (by omega)
theorem cut_at (a : Int) (n : Nat) (hn : 1 ≤ n) (hn2 : n ≤ 1000000) : ∃ (q : Int) (k : Nat), a.tmod n = q ∧ IntKind.i64.wrap q = q ∧ IntKind.i64.wrap (q + n) = q + n ∧ (q + (n : Int)).tmod n = k ∧ IntKind.i64.wrap (k : Int) = k ∧ k < n := by
  obtain ⟨q, h1, h2, h3⟩ := tmod_bounds a n hn
  refine ⟨q, ((q + (n : Int)) % n).toNat, h1, ?_, ?_, ?_, ?_, ?_⟩
  · rw [IntKind.wrap_i64]; omega
  · rw [IntKind.wrap_i64]; omega
  · rw [Int.tmod_eq_emod_of_nonneg (by omega)]
    have := Int.emod_nonneg (q + (n : Int)) (b := n) (by omega)
    omega
  · rw [IntKind.wrap_i64]
    have h4 := Int.emod_nonneg (q + (n : Int)) (b := n) (by omega)
    have h5 := Int.emod_lt_of_pos (q + (n : Int)) (b := n) (by omega)
    omega
  · have h4 := Int.emod_nonneg (q + (n : Int)) (b := n) (by omega)
    have h5 := Int.emod_lt_of_pos (q + (n : Int)) (b := n) (by omega)
    omega

set_option maxHeartbeats 6400000 in
set_option maxRecDepth 100000 in
theorem scuts_w {Env : World → Prop} (P : Read6 Env) (s : St.S) (a : Int) (w : World) (h2 : s.status ≤ 9223372036854775807) (h3 : s.minor ≤ 9223372036854775807) (hE : Env w) :
    Calls Tryd.prog 5 #[sval s, .int .i64 a] w fun e w' => e = .returned (.bool true) ∧ Below w.heap.size w w' := by
  have HE := Lib.hid hE
  have HP := Lib.hid P
  have cA := fun (W : World) (hb : Below w.heap.size w W) => sawake_w P W (P.later hE hb)
  have h0 := SAt.start w (.string (str s.method)) (.string (str s.target)) (.int .i64 s.status) (.string (str s.reason)) (.int .i64 s.minor)
  have z1 := str_size s.method
  have z2 := str_size s.target
  have z3 := str_size s.reason
  have cY := fun (W : World) (g1 : s.method.length ≤ 200) (g2 : s.target.length ≤ 9000) (g3 : s.reason.length ≤ 500) => rRight_s s W (by omega) (by omega) (by omega)
  have cZ := fun (W : World) (g1 : s.method.length ≤ 200) (g2 : s.target.length ≤ 9000) (g3 : s.reason.length ≤ 500) => rPrint_st s W (by omega) (by omega) (by omega) h2 h3
  obtain ⟨HM, hHM⟩ : ∃ x, x = str s.method := ⟨_, rfl⟩
  obtain ⟨HT, hHT⟩ : ∃ x, x = str s.target := ⟨_, rfl⟩
  obtain ⟨HR, hHR⟩ : ∃ x, x = str s.reason := ⟨_, rfl⟩
  obtain ⟨HC, hHC⟩ : ∃ x, x = s.status := ⟨_, rfl⟩
  obtain ⟨HK, hHK⟩ : ∃ x, x = s.minor := ⟨_, rfl⟩
  rw [sval_s] at cY cZ ⊢
  rw [← hHM] at z1
  rw [← hHT] at z2
  rw [← hHR] at z3
  simp only [← hHM, ← hHT, ← hHR, ← hHC, ← hHK] at cY cZ h0 ⊢
  have HHC := Lib.hid hHC
  clear hHM hHT hHR hHK hHC
  clear P hE
  by_cases g1 : (200 : Int) < HM.size
  · clear cY cZ
    go_enter Tryd.func5, Tryd.ntmps5
    go_upto_region 1 with fail
    generalize w.alloc _ = W0 at h0 ⊢
    go_wp2_with fail
    refine (cA _ h0.below).mono ?_
    rintro e1 w1 ⟨rfl, hb1⟩
    have h1 := h0.later hb1
    obtain ⟨c0, c1, c2, c3, c4⟩ := h1.cells
    have hB := h1.below
    clear h0 hb1
    go_wp2_with fail
    refine (cA _ hB).mono ?_
    rintro e2 w2 ⟨rfl, hb2⟩
    go_wp2_with fail
    go_ret
    exact ⟨rfl, hB.trans (hb2.mono hB.size)⟩
  by_cases g2 : (9000 : Int) < HT.size
  · clear cY cZ
    go_enter Tryd.func5, Tryd.ntmps5
    go_upto_region 1 with fail
    generalize w.alloc _ = W0 at h0 ⊢
    go_wp2_with fail
    refine (cA _ h0.below).mono ?_
    rintro e1 w1 ⟨rfl, hb1⟩
    have h1 := h0.later hb1
    obtain ⟨c0, c1, c2, c3, c4⟩ := h1.cells
    have hB := h1.below
    clear h0 hb1
    go_wp2_with fail
    refine (cA _ hB).mono ?_
    rintro e2 w2 ⟨rfl, hb2⟩
    go_wp2_with fail
    go_ret
    exact ⟨rfl, hB.trans (hb2.mono hB.size)⟩
  by_cases g3 : (500 : Int) < HR.size
  · clear cY cZ
    go_enter Tryd.func5, Tryd.ntmps5
    go_upto_region 1 with fail
    generalize w.alloc _ = W0 at h0 ⊢
    go_wp2_with fail
    refine (cA _ h0.below).mono ?_
    rintro e1 w1 ⟨rfl, hb1⟩
    have h1 := h0.later hb1
    obtain ⟨c0, c1, c2, c3, c4⟩ := h1.cells
    have hB := h1.below
    clear h0 hb1
    go_wp2_with fail
    refine (cA _ hB).mono ?_
    rintro e2 w2 ⟨rfl, hb2⟩
    go_wp2_with fail
    go_ret
    exact ⟨rfl, hB.trans (hb2.mono hB.size)⟩
  have cY := fun (W : World) => cY W (by omega) (by omega) (by omega)
  have cZ := fun (W : World) => cZ W (by omega) (by omega) (by omega)
  clear z1 z2 z3 h2 h3
  cases hr : St.right s with
  | false =>
    rw [hr] at cY
    clear cZ
    go_enter Tryd.func5, Tryd.ntmps5
    go_upto_region 1 with fail
    generalize w.alloc _ = W0 at h0 ⊢
    go_wp2_with fail
    refine (cA _ h0.below).mono ?_
    rintro e1 w1 ⟨rfl, hb1⟩
    have h1 := h0.later hb1
    obtain ⟨c0, c1, c2, c3, c4⟩ := h1.cells
    have hB := h1.below
    clear h0 hb1
    go_upto_region 2 with (first | (refine ldS h1.cell rfl (.tmp 2) rfl rfl ?_) | (refine (cY _).mono ?_; rintro e2 w2 ⟨rfl, hb2⟩))
    clear c0 c1 c2 c3 c4
    have hB2 := hB.trans (hb2.mono hB.size)
    go_wp2_with fail
    refine (cA _ hB2).mono ?_
    rintro e3 w3 ⟨rfl, hb3⟩
    go_wp2_with fail
    go_ret
    exact ⟨rfl, hB2.trans (hb3.mono hB2.size)⟩
  | true =>
    rw [hr] at cY
    have hbl := St.body_len hr
    have htl := @St.text_len s
    obtain ⟨Z, hZ⟩ : ∃ Z, Z = str (St.text s) := ⟨_, rfl⟩
    have hZz : Z.size = (St.text s).length := by rw [hZ, str_size]
    rw [← hZ] at cZ
    have hZ1 : 1 ≤ Z.size := by omega
    have hZ2 : Z.size ≤ 9000 := by
      by_cases hc : s.status = 0
      · have := hbl.1 hc; omega
      · have := hbl.2 hc; omega
    obtain ⟨q, k, q1, q2, q3, q4, q5, q6⟩ := cut_at a Z.size hZ1 (by omega)
    obtain ⟨X, hX⟩ : ∃ X, X = Z.extract 0 k := ⟨_, rfl⟩
    have hXd : X.data.toList = (St.text s).take k := by rw [hX, Lib.extract_data, hZ, str_list]; simp
    have hXz : X.size ≤ 9000 := by rw [Lib.size_eq, hXd, List.length_take]; omega
    have eX := hX.symm
    have hn0 : ¬ ((Z.size : Int) = 0) := by omega
    have hn1 : ((Z.size : Int) == 0) = false := beq_eq_false_iff_ne.2 hn0
    have hn2 : ¬ ((Z.size : Int) = -1) := by omega
    have hn3 : ((Z.size : Int) == -1) = false := beq_eq_false_iff_ne.2 hn2
    have hk0 : (0 : Int) ≤ k := by omega
    have hkz : (k : Int) ≤ Z.size := by omega
    have HCQ := Lib.hid (fun h => St.request_cut hr h k (by omega))
    have HCA := Lib.hid (fun h => St.response_cut hr h k (by omega))
    have hoct := fun (W : World) => octets_text X W (by omega)
    rw [hXd] at hoct
    generalize (St.text s).take k = lk at *
    have hlk : lk.length ≤ 9000 := by rw [← hXd, ← Lib.size_eq]; exact hXz
    clear hbl htl hZ hZz hX hXd
    go_enter Tryd.func5, Tryd.ntmps5
    go_upto_region 1 with fail
    generalize w.alloc _ = W0 at h0 ⊢
    go_wp2_with fail
    refine (cA _ h0.below).mono ?_
    rintro e1 w1 ⟨rfl, hb1⟩
    have h1 := h0.later hb1
    obtain ⟨c0, c1, c2, c3, c4⟩ := h1.cells
    have hB := h1.below
    clear h0 hb1
    go_upto_region 3 with (first | (refine ldS h1.cell rfl (.tmp 2) rfl rfl ?_) | (refine (cY _).mono ?_; rintro e2 w2 ⟨rfl, hb2⟩))
    have h2 := h1.later hb2
    clear c0 c1 c2 c3 c4 h1 hB hb2 cY
    go_wp2_with (refine ldS h2.cell rfl (.tmp 2) rfl rfl ?_)
    refine (cZ _).mono ?_
    rintro e3 w3 ⟨rfl, hb3⟩
    have h3 := h2.later hb3
    clear h2 hb3 cZ
    go_upto_region 5 with fail
    obtain ⟨cc, w4, hcv, hbin, hb4⟩ := hoct w3
    have h4 := h3.later hb4
    have cQ := HP.out.request _ lk w4 (by omega) hbin (HP.out.later HE.out h4.below)
    by_cases hc : HC = 0
    · have hreq := HCQ.out (by rw [← HHC.out]; exact hc)
      rw [hreq] at cQ
      have cQ' : Calls Tryd.prog 9 #[.slice (some ⟨w3.heap.size, 0, none⟩) X.size cc] w4 fun e w' => e = .returned (.tuple #[.agg #[.string ⟨#[]⟩, .string ⟨#[]⟩, .int .i64 0, .string ⟨#[]⟩, .int .i64 0], .int .i64 0, .int .i64 11]) ∧ Below w4.heap.size w4 w' := cQ
      clear cQ hreq HCQ HCA hoct hbin hb4 h3 cA
      subst hc
      go_wp2_with fail
      refine cQ'.mono ?_
      rintro e5 w5 ⟨rfl, hb5⟩
      have h5 := (h4.later hb5).alloc (.cells #[.string ⟨#[]⟩, .string ⟨#[]⟩, .int .i64 0, .string ⟨#[]⟩, .int .i64 0] 25)
      clear h4 hb5 cQ' hcv
      go_upto_region 6 with fail
      generalize w5.alloc (.cells #[.string ⟨#[]⟩, .string ⟨#[]⟩, .int .i64 0, .string ⟨#[]⟩, .int .i64 0] 25) = w6 at h5 ⊢
      obtain ⟨c0, c1, c2, c3, c4⟩ := h5.cells
      have hB := h5.below
      clear h5
      go_wp2_with fail
      go_ret
      exact ⟨rfl, hB⟩
    · have hres := HCA.out (by rw [← HHC.out]; exact hc)
      have bc : (HC != 0) = true := by rw [bne, beq_eq_false_iff_ne.2 hc]; rfl
      obtain ⟨⟨⟨m, t, C, r, K⟩, n, e⟩, hreq⟩ : ∃ x, St.request lk = x := ⟨_, rfl⟩
      rw [hreq, sres_s] at cQ
      simp only [] at cQ
      generalize str m = M at *
      generalize str t = T at *
      generalize str r = R at *
      have HRS := Lib.hid hres
      have HOC := Lib.hid hoct
      clear hreq hres HCQ HCA hoct hbin hb4 h3 cA
      go_wp2_with fail
      refine cQ.mono ?_
      rintro e5 w5 ⟨rfl, hb5⟩
      have h5 := (h4.later hb5).alloc (.cells #[.string M, .string T, .int .i64 C, .string R, .int .i64 K] 25)
      clear h4 hb5 cQ hcv
      go_upto_region 6 with fail
      generalize w5.alloc (.cells #[.string M, .string T, .int .i64 C, .string R, .int .i64 K] 25) = w6 at h5 ⊢
      obtain ⟨c0, c1, c2, c3, c4⟩ := h5.cells
      obtain ⟨cc2, w7, hcv, hbin, hb7⟩ := HOC.out w6
      have h7 := h5.later hb7
      have cS := HP.out.response _ lk w7 (by omega) hbin (HP.out.later HE.out h7.below)
      rw [HRS.out] at cS
      have cS' : Calls Tryd.prog 11 #[.slice (some ⟨w6.heap.size, 0, none⟩) X.size cc2] w7 fun e w' => e = .returned (.tuple #[.agg #[.string ⟨#[]⟩, .string ⟨#[]⟩, .int .i64 0, .string ⟨#[]⟩, .int .i64 0], .int .i64 0, .int .i64 11]) ∧ Below w7.heap.size w7 w' := cS
      clear cS hbin hb7 h5
      go_wp2_with fail
      refine cS'.mono ?_
      rintro e8 w8 ⟨rfl, hb8⟩
      have hB := h7.below.trans (hb8.mono h7.below.size)
      go_wp2_with fail
      go_ret
      exact ⟨rfl, hB⟩
end Go.Proofs.YtbpghbbcghlcaaaDoor
