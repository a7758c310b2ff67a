/- The statements of layer 6: StartApart. -/
import Derived.Test.YtbpghbbcghlcaaaDoorSt8
namespace Go.Proofs.YtbpghbbcghlcaaaDoor
open Go.RowKit

set_option maxHeartbeats 6400000 in
set_option maxRecDepth 100000 in
theorem sapart_w {Env : World → Prop} (P : Prog6 Env) (a b : St.S) (w : World) (ha2 : a.status ≤ 9223372036854775807) (ha3 : a.minor ≤ 9223372036854775807) (hb2 : b.status ≤ 9223372036854775807) (hb3 : b.minor ≤ 9223372036854775807) (hE : Env w) :
    Calls Tryd.prog 7 #[sval a, sval b] w fun e w' => e = .returned (.bool true) ∧ Below w.heap.size w w' := by
  have cA := fun (W : World) (hb : Below w.heap.size w W) => sawake_w P.toRead6 W (P.later hE hb)
  have hA00 := SAt.start w (.string (str a.method)) (.string (str a.target)) (.int .i64 a.status) (.string (str a.reason)) (.int .i64 a.minor)
  have z1 := str_size a.method
  have z2 := str_size a.target
  have z3 := str_size a.reason
  have z4 := str_size b.method
  have z5 := str_size b.target
  have z6 := str_size b.reason
  have cPa := fun (W : World) (hb : Below w.heap.size w W) (g1 : a.method.length ≤ 100) (g2 : a.target.length ≤ 2000) (g3 : a.reason.length ≤ 300) => P.print a W (by omega) (by omega) (by omega) ha2 ha3 (P.later hE hb)
  have cPb := fun (W : World) (hb : Below w.heap.size w W) (g1 : b.method.length ≤ 100) (g2 : b.target.length ≤ 2000) (g3 : b.reason.length ≤ 300) => P.print b W (by omega) (by omega) (by omega) hb2 hb3 (P.later hE hb)
  have cYa := fun (W : World) (g1 : a.method.length ≤ 100) (g2 : a.target.length ≤ 2000) (g3 : a.reason.length ≤ 300) => rRight_s a W (by omega) (by omega) (by omega)
  have cYb := fun (W : World) (g1 : b.method.length ≤ 100) (g2 : b.target.length ≤ 2000) (g3 : b.reason.length ≤ 300) => rRight_s b W (by omega) (by omega) (by omega)
  have hEq := fun (W : World) => eql_st a b W
  have hGq := fun (x y : Nat) (W : World) => guard_st .eql (.inl rfl) x y a b W
  rw [sval_s, sval_s] at hEq
  simp only [sval_s] at hGq
  rw [sval_s] at cYa cYb cPa cPb
  rw [sval_s, sval_s]
  have HSame : Hid (a = b → str a.method = str b.method ∧ str a.target = str b.target ∧ a.status = b.status ∧ str a.reason = str b.reason ∧ a.minor = b.minor) := Lib.hid (by rintro rfl; exact ⟨rfl, rfl, rfl, rfl, rfl⟩)
  obtain ⟨AM, hAM⟩ : ∃ x, x = str a.method := ⟨_, rfl⟩
  obtain ⟨AT, hAT⟩ : ∃ x, x = str a.target := ⟨_, rfl⟩
  obtain ⟨AR, hAR⟩ : ∃ x, x = str a.reason := ⟨_, rfl⟩
  obtain ⟨AC, hAC⟩ : ∃ x, x = a.status := ⟨_, rfl⟩
  obtain ⟨AK, hAK⟩ : ∃ x, x = a.minor := ⟨_, rfl⟩
  obtain ⟨BM, hBM⟩ : ∃ x, x = str b.method := ⟨_, rfl⟩
  obtain ⟨BT, hBT⟩ : ∃ x, x = str b.target := ⟨_, rfl⟩
  obtain ⟨BR, hBR⟩ : ∃ x, x = str b.reason := ⟨_, rfl⟩
  obtain ⟨BC, hBC⟩ : ∃ x, x = b.status := ⟨_, rfl⟩
  obtain ⟨BK, hBK⟩ : ∃ x, x = b.minor := ⟨_, rfl⟩
  rw [← hAM] at z1
  rw [← hAT] at z2
  rw [← hAR] at z3
  rw [← hBM] at z4
  rw [← hBT] at z5
  rw [← hBR] at z6
  simp only [← hAM, ← hAT, ← hAR, ← hAC, ← hAK, ← hBM, ← hBT, ← hBR, ← hBC, ← hBK] at cYa cYb cPa cPb hA00 hEq hGq HSame ⊢
  clear hAM hAT hAR hAC hAK hBM hBT hBR hBC hBK P hE ha2 ha3 hb2 hb3
  by_cases g1 : (100 : Int) < AM.size
  · clear cYa cYb cPa cPb hEq hGq
    go_enter Tryd.func7, Tryd.ntmps7
    go_upto_region 1 with fail
    have hA0 := hA00.alloc (.cells #[.string BM, .string BT, .int .i64 BC, .string BR, .int .i64 BK] 25)
    have hB0 : SAt w (w.heap.size + 1) ((w.alloc (.cells #[.string AM, .string AT, .int .i64 AC, .string AR, .int .i64 AK] 25)).alloc (.cells #[.string BM, .string BT, .int .i64 BC, .string BR, .int .i64 BK] 25)) (.string BM) (.string BT) (.int .i64 BC) (.string BR) (.int .i64 BK) :=
      ⟨heap_alloc2_new w _ _, hA0.below, by omega⟩
    generalize (w.alloc (.cells #[.string AM, .string AT, .int .i64 AC, .string AR, .int .i64 AK] 25)).alloc (.cells #[.string BM, .string BT, .int .i64 BC, .string BR, .int .i64 BK] 25) = W0 at hA0 hB0 ⊢
    generalize w.heap.size + 1 = gB at hB0 ⊢
    go_wp2_with fail
    refine (cA _ hA0.below).mono ?_
    rintro e1 w1 ⟨rfl, hb1⟩
    have hA1 := hA0.later hb1
    have hB1 := hB0.later hb1
    obtain ⟨a0, a1, a2, a3, a4⟩ := hA1.cells
    obtain ⟨b0, b1, b2, b3, b4⟩ := hB1.cells
    have hW := hA1.below
    clear hA00 hA0 hB0 hb1
    go_wp2_with fail
    refine (cA _ hW).mono ?_
    rintro e8 w8 ⟨rfl, hb8⟩
    go_wp2_with fail
    go_ret
    exact ⟨rfl, hW.trans (hb8.mono hW.size)⟩
  by_cases g2 : (2000 : Int) < AT.size
  · clear cYa cYb cPa cPb hEq hGq
    go_enter Tryd.func7, Tryd.ntmps7
    go_upto_region 1 with fail
    have hA0 := hA00.alloc (.cells #[.string BM, .string BT, .int .i64 BC, .string BR, .int .i64 BK] 25)
    have hB0 : SAt w (w.heap.size + 1) ((w.alloc (.cells #[.string AM, .string AT, .int .i64 AC, .string AR, .int .i64 AK] 25)).alloc (.cells #[.string BM, .string BT, .int .i64 BC, .string BR, .int .i64 BK] 25)) (.string BM) (.string BT) (.int .i64 BC) (.string BR) (.int .i64 BK) :=
      ⟨heap_alloc2_new w _ _, hA0.below, by omega⟩
    generalize (w.alloc (.cells #[.string AM, .string AT, .int .i64 AC, .string AR, .int .i64 AK] 25)).alloc (.cells #[.string BM, .string BT, .int .i64 BC, .string BR, .int .i64 BK] 25) = W0 at hA0 hB0 ⊢
    generalize w.heap.size + 1 = gB at hB0 ⊢
    go_wp2_with fail
    refine (cA _ hA0.below).mono ?_
    rintro e1 w1 ⟨rfl, hb1⟩
    have hA1 := hA0.later hb1
    have hB1 := hB0.later hb1
    obtain ⟨a0, a1, a2, a3, a4⟩ := hA1.cells
    obtain ⟨b0, b1, b2, b3, b4⟩ := hB1.cells
    have hW := hA1.below
    clear hA00 hA0 hB0 hb1
    go_wp2_with fail
    refine (cA _ hW).mono ?_
    rintro e8 w8 ⟨rfl, hb8⟩
    go_wp2_with fail
    go_ret
    exact ⟨rfl, hW.trans (hb8.mono hW.size)⟩
  by_cases g3 : (300 : Int) < AR.size
  · clear cYa cYb cPa cPb hEq hGq
    go_enter Tryd.func7, Tryd.ntmps7
    go_upto_region 1 with fail
    have hA0 := hA00.alloc (.cells #[.string BM, .string BT, .int .i64 BC, .string BR, .int .i64 BK] 25)
    have hB0 : SAt w (w.heap.size + 1) ((w.alloc (.cells #[.string AM, .string AT, .int .i64 AC, .string AR, .int .i64 AK] 25)).alloc (.cells #[.string BM, .string BT, .int .i64 BC, .string BR, .int .i64 BK] 25)) (.string BM) (.string BT) (.int .i64 BC) (.string BR) (.int .i64 BK) :=
      ⟨heap_alloc2_new w _ _, hA0.below, by omega⟩
    generalize (w.alloc (.cells #[.string AM, .string AT, .int .i64 AC, .string AR, .int .i64 AK] 25)).alloc (.cells #[.string BM, .string BT, .int .i64 BC, .string BR, .int .i64 BK] 25) = W0 at hA0 hB0 ⊢
    generalize w.heap.size + 1 = gB at hB0 ⊢
    go_wp2_with fail
    refine (cA _ hA0.below).mono ?_
    rintro e1 w1 ⟨rfl, hb1⟩
    have hA1 := hA0.later hb1
    have hB1 := hB0.later hb1
    obtain ⟨a0, a1, a2, a3, a4⟩ := hA1.cells
    obtain ⟨b0, b1, b2, b3, b4⟩ := hB1.cells
    have hW := hA1.below
    clear hA00 hA0 hB0 hb1
    go_wp2_with fail
    refine (cA _ hW).mono ?_
    rintro e8 w8 ⟨rfl, hb8⟩
    go_wp2_with fail
    go_ret
    exact ⟨rfl, hW.trans (hb8.mono hW.size)⟩
  by_cases g4 : (100 : Int) < BM.size
  · clear cYa cYb cPa cPb hEq hGq
    go_enter Tryd.func7, Tryd.ntmps7
    go_upto_region 1 with fail
    have hA0 := hA00.alloc (.cells #[.string BM, .string BT, .int .i64 BC, .string BR, .int .i64 BK] 25)
    have hB0 : SAt w (w.heap.size + 1) ((w.alloc (.cells #[.string AM, .string AT, .int .i64 AC, .string AR, .int .i64 AK] 25)).alloc (.cells #[.string BM, .string BT, .int .i64 BC, .string BR, .int .i64 BK] 25)) (.string BM) (.string BT) (.int .i64 BC) (.string BR) (.int .i64 BK) :=
      ⟨heap_alloc2_new w _ _, hA0.below, by omega⟩
    generalize (w.alloc (.cells #[.string AM, .string AT, .int .i64 AC, .string AR, .int .i64 AK] 25)).alloc (.cells #[.string BM, .string BT, .int .i64 BC, .string BR, .int .i64 BK] 25) = W0 at hA0 hB0 ⊢
    generalize w.heap.size + 1 = gB at hB0 ⊢
    go_wp2_with fail
    refine (cA _ hA0.below).mono ?_
    rintro e1 w1 ⟨rfl, hb1⟩
    have hA1 := hA0.later hb1
    have hB1 := hB0.later hb1
    obtain ⟨a0, a1, a2, a3, a4⟩ := hA1.cells
    obtain ⟨b0, b1, b2, b3, b4⟩ := hB1.cells
    have hW := hA1.below
    clear hA00 hA0 hB0 hb1
    go_wp2_with fail
    refine (cA _ hW).mono ?_
    rintro e8 w8 ⟨rfl, hb8⟩
    go_wp2_with fail
    go_ret
    exact ⟨rfl, hW.trans (hb8.mono hW.size)⟩
  by_cases g5 : (2000 : Int) < BT.size
  · clear cYa cYb cPa cPb hEq hGq
    go_enter Tryd.func7, Tryd.ntmps7
    go_upto_region 1 with fail
    have hA0 := hA00.alloc (.cells #[.string BM, .string BT, .int .i64 BC, .string BR, .int .i64 BK] 25)
    have hB0 : SAt w (w.heap.size + 1) ((w.alloc (.cells #[.string AM, .string AT, .int .i64 AC, .string AR, .int .i64 AK] 25)).alloc (.cells #[.string BM, .string BT, .int .i64 BC, .string BR, .int .i64 BK] 25)) (.string BM) (.string BT) (.int .i64 BC) (.string BR) (.int .i64 BK) :=
      ⟨heap_alloc2_new w _ _, hA0.below, by omega⟩
    generalize (w.alloc (.cells #[.string AM, .string AT, .int .i64 AC, .string AR, .int .i64 AK] 25)).alloc (.cells #[.string BM, .string BT, .int .i64 BC, .string BR, .int .i64 BK] 25) = W0 at hA0 hB0 ⊢
    generalize w.heap.size + 1 = gB at hB0 ⊢
    go_wp2_with fail
    refine (cA _ hA0.below).mono ?_
    rintro e1 w1 ⟨rfl, hb1⟩
    have hA1 := hA0.later hb1
    have hB1 := hB0.later hb1
    obtain ⟨a0, a1, a2, a3, a4⟩ := hA1.cells
    obtain ⟨b0, b1, b2, b3, b4⟩ := hB1.cells
    have hW := hA1.below
    clear hA00 hA0 hB0 hb1
    go_wp2_with fail
    refine (cA _ hW).mono ?_
    rintro e8 w8 ⟨rfl, hb8⟩
    go_wp2_with fail
    go_ret
    exact ⟨rfl, hW.trans (hb8.mono hW.size)⟩
  by_cases g6 : (300 : Int) < BR.size
  · clear cYa cYb cPa cPb hEq hGq
    go_enter Tryd.func7, Tryd.ntmps7
    go_upto_region 1 with fail
    have hA0 := hA00.alloc (.cells #[.string BM, .string BT, .int .i64 BC, .string BR, .int .i64 BK] 25)
    have hB0 : SAt w (w.heap.size + 1) ((w.alloc (.cells #[.string AM, .string AT, .int .i64 AC, .string AR, .int .i64 AK] 25)).alloc (.cells #[.string BM, .string BT, .int .i64 BC, .string BR, .int .i64 BK] 25)) (.string BM) (.string BT) (.int .i64 BC) (.string BR) (.int .i64 BK) :=
      ⟨heap_alloc2_new w _ _, hA0.below, by omega⟩
    generalize (w.alloc (.cells #[.string AM, .string AT, .int .i64 AC, .string AR, .int .i64 AK] 25)).alloc (.cells #[.string BM, .string BT, .int .i64 BC, .string BR, .int .i64 BK] 25) = W0 at hA0 hB0 ⊢
    generalize w.heap.size + 1 = gB at hB0 ⊢
    go_wp2_with fail
    refine (cA _ hA0.below).mono ?_
    rintro e1 w1 ⟨rfl, hb1⟩
    have hA1 := hA0.later hb1
    have hB1 := hB0.later hb1
    obtain ⟨a0, a1, a2, a3, a4⟩ := hA1.cells
    obtain ⟨b0, b1, b2, b3, b4⟩ := hB1.cells
    have hW := hA1.below
    clear hA00 hA0 hB0 hb1
    go_wp2_with fail
    refine (cA _ hW).mono ?_
    rintro e8 w8 ⟨rfl, hb8⟩
    go_wp2_with fail
    go_ret
    exact ⟨rfl, hW.trans (hb8.mono hW.size)⟩
  replace cYa := fun (W : World) => cYa W (by omega) (by omega) (by omega)
  replace cYb := fun (W : World) => cYb W (by omega) (by omega) (by omega)
  replace cPa := fun (W : World) (hb : Below w.heap.size w W) => cPa W hb (by omega) (by omega) (by omega)
  replace cPb := fun (W : World) (hb : Below w.heap.size w W) => cPb W hb (by omega) (by omega) (by omega)
  clear z1 z2 z3 z4 z5 z6
  cases hra : St.right a with
  | false =>
    rw [hra] at cYa
    clear cYb cPa cPb hEq hGq
    go_enter Tryd.func7, Tryd.ntmps7
    go_upto_region 1 with fail
    have hA0 := hA00.alloc (.cells #[.string BM, .string BT, .int .i64 BC, .string BR, .int .i64 BK] 25)
    have hB0 : SAt w (w.heap.size + 1) ((w.alloc (.cells #[.string AM, .string AT, .int .i64 AC, .string AR, .int .i64 AK] 25)).alloc (.cells #[.string BM, .string BT, .int .i64 BC, .string BR, .int .i64 BK] 25)) (.string BM) (.string BT) (.int .i64 BC) (.string BR) (.int .i64 BK) :=
      ⟨heap_alloc2_new w _ _, hA0.below, by omega⟩
    generalize (w.alloc (.cells #[.string AM, .string AT, .int .i64 AC, .string AR, .int .i64 AK] 25)).alloc (.cells #[.string BM, .string BT, .int .i64 BC, .string BR, .int .i64 BK] 25) = W0 at hA0 hB0 ⊢
    generalize w.heap.size + 1 = gB at hB0 ⊢
    go_wp2_with fail
    refine (cA _ hA0.below).mono ?_
    rintro e1 w1 ⟨rfl, hb1⟩
    have hA1 := hA0.later hb1
    have hB1 := hB0.later hb1
    obtain ⟨a0, a1, a2, a3, a4⟩ := hA1.cells
    obtain ⟨b0, b1, b2, b3, b4⟩ := hB1.cells
    have hW := hA1.below
    clear hA00 hA0 hB0 hb1
    go_wp2_with fail
    refine (cYa _).mono ?_
    rintro e2 w2 ⟨rfl, hb2⟩
    have hA2 := hA1.later hb2
    have hB2 := hB1.later hb2
    clear a0 a1 a2 a3 a4 b0 b1 b2 b3 b4 hA1 hB1 hW hb2 cYa
    have hW := hA2.below
    obtain ⟨b0, b1, b2, b3, b4⟩ := hB2.cells
    go_wp2_with fail
    refine (cA _ hW).mono ?_
    rintro e8 w8 ⟨rfl, hb8⟩
    go_wp2_with fail
    go_ret
    exact ⟨rfl, hW.trans (hb8.mono hW.size)⟩
  | true =>
    rw [hra] at cYa
    cases hrb : St.right b with
    | false =>
      rw [hrb] at cYb
      clear cPa cPb hEq hGq
      go_enter Tryd.func7, Tryd.ntmps7
      go_upto_region 1 with fail
      have hA0 := hA00.alloc (.cells #[.string BM, .string BT, .int .i64 BC, .string BR, .int .i64 BK] 25)
      have hB0 : SAt w (w.heap.size + 1) ((w.alloc (.cells #[.string AM, .string AT, .int .i64 AC, .string AR, .int .i64 AK] 25)).alloc (.cells #[.string BM, .string BT, .int .i64 BC, .string BR, .int .i64 BK] 25)) (.string BM) (.string BT) (.int .i64 BC) (.string BR) (.int .i64 BK) :=
        ⟨heap_alloc2_new w _ _, hA0.below, by omega⟩
      generalize (w.alloc (.cells #[.string AM, .string AT, .int .i64 AC, .string AR, .int .i64 AK] 25)).alloc (.cells #[.string BM, .string BT, .int .i64 BC, .string BR, .int .i64 BK] 25) = W0 at hA0 hB0 ⊢
      generalize w.heap.size + 1 = gB at hB0 ⊢
      go_wp2_with fail
      refine (cA _ hA0.below).mono ?_
      rintro e1 w1 ⟨rfl, hb1⟩
      have hA1 := hA0.later hb1
      have hB1 := hB0.later hb1
      obtain ⟨a0, a1, a2, a3, a4⟩ := hA1.cells
      obtain ⟨b0, b1, b2, b3, b4⟩ := hB1.cells
      have hW := hA1.below
      clear hA00 hA0 hB0 hb1
      go_wp2_with fail
      refine (cYa _).mono ?_
      rintro e2 w2 ⟨rfl, hb2⟩
      have hA2 := hA1.later hb2
      have hB2 := hB1.later hb2
      clear a0 a1 a2 a3 a4 b0 b1 b2 b3 b4 hA1 hB1 hW hb2 cYa
      have hW := hA2.below
      obtain ⟨b0, b1, b2, b3, b4⟩ := hB2.cells
      go_wp2_with fail
      refine (cYb _).mono ?_
      rintro e3 w3 ⟨rfl, hb3⟩
      have hA3 := hA2.later hb3
      have hB3 := hB2.later hb3
      clear b0 b1 b2 b3 b4 hA2 hB2 hW hb3 cYb
      have hW := hA3.below
      go_wp2_with fail
      refine (cA _ hW).mono ?_
      rintro e8 w8 ⟨rfl, hb8⟩
      go_wp2_with fail
      go_ret
      exact ⟨rfl, hW.trans (hb8.mono hW.size)⟩
    | true =>
      rw [hrb] at cYb
      simp only [hra, if_pos] at cPa
      simp only [hrb, if_pos] at cPb
      obtain ⟨ZA, hZA⟩ : ∃ Z, str (St.text a) = Z := ⟨_, rfl⟩
      obtain ⟨ZB, hZB⟩ : ∃ Z, str (St.text b) = Z := ⟨_, rfl⟩
      by_cases hab : a = b
      · obtain ⟨s1, s2, s3, s4, s5⟩ := HSame.out hab
        have hZ : ZA = ZB := by rw [← hZA, ← hZB, hab]
        clear HSame hEq hGq hra hrb
        subst s1 s2 s3 s4 s5 hZ hab
        go_enter Tryd.func7, Tryd.ntmps7
        go_upto_region 1 with fail
        have hA0 := hA00.alloc (.cells #[.string AM, .string AT, .int .i64 AC, .string AR, .int .i64 AK] 25)
        have hB0 : SAt w (w.heap.size + 1) ((w.alloc (.cells #[.string AM, .string AT, .int .i64 AC, .string AR, .int .i64 AK] 25)).alloc (.cells #[.string AM, .string AT, .int .i64 AC, .string AR, .int .i64 AK] 25)) (.string AM) (.string AT) (.int .i64 AC) (.string AR) (.int .i64 AK) :=
          ⟨heap_alloc2_new w _ _, hA0.below, by omega⟩
        generalize (w.alloc (.cells #[.string AM, .string AT, .int .i64 AC, .string AR, .int .i64 AK] 25)).alloc (.cells #[.string AM, .string AT, .int .i64 AC, .string AR, .int .i64 AK] 25) = W0 at hA0 hB0 ⊢
        generalize w.heap.size + 1 = gB at hB0 ⊢
        go_wp2_with fail
        refine (cA _ hA0.below).mono ?_
        rintro e1 w1 ⟨rfl, hb1⟩
        have hA1 := hA0.later hb1
        have hB1 := hB0.later hb1
        obtain ⟨a0, a1, a2, a3, a4⟩ := hA1.cells
        obtain ⟨b0, b1, b2, b3, b4⟩ := hB1.cells
        have hW := hA1.below
        clear hA00 hA0 hB0 hb1
        go_wp2_with fail
        refine (cYa _).mono ?_
        rintro e2 w2 ⟨rfl, hb2⟩
        have hA2 := hA1.later hb2
        have hB2 := hB1.later hb2
        clear a0 a1 a2 a3 a4 b0 b1 b2 b3 b4 hA1 hB1 hW hb2 cYa
        have hW := hA2.below
        obtain ⟨b0, b1, b2, b3, b4⟩ := hB2.cells
        go_wp2_with fail
        refine (cYb _).mono ?_
        rintro e3 w3 ⟨rfl, hb3⟩
        have hA3 := hA2.later hb3
        have hB3 := hB2.later hb3
        clear b0 b1 b2 b3 b4 hA2 hB2 hW hb3 cYb
        have hW := hA3.below
        go_upto_region 3 with fail
        go_wp2_with (refine ldS hA3.cell rfl (.tmp 2) rfl rfl ?_)
        refine (cPa _ hW).mono ?_
        rintro e4 w4 ⟨⟨x, rfl, hbx, hnx⟩, hb4⟩
        have hA4 := hA3.later hb4
        have hB4 := hB3.later hb4
        clear hA3 hB3 hW hb4 cPa
        go_wp2_with (refine ldS hB4.cell rfl (.tmp 3) rfl rfl ?_)
        refine (cPb _ hA4.below).mono ?_
        rintro e5 w5 ⟨⟨y, rfl, hby, hny⟩, hb5⟩
        have hA5 := hA4.later hb5
        have hB5 := hB4.later hb5
        replace hbx := hbx.later hb5
        clear hA4 hB4 hb5 cPb
        go_upto_region 5 with fail
        have hca := hA5.cells
        have hcb := hB5.cells
        have x0 := fun p : LateOf w5 => p.cell hca.1
        have x1 := fun p : LateOf w5 => p.cell hca.2.1
        have x2 := fun p : LateOf w5 => p.cell hca.2.2.1
        have x3 := fun p : LateOf w5 => p.cell hca.2.2.2.1
        have x4 := fun p : LateOf w5 => p.cell hca.2.2.2.2
        have y0 := fun p : LateOf w5 => p.cell hcb.1
        have y1 := fun p : LateOf w5 => p.cell hcb.2.1
        have y2 := fun p : LateOf w5 => p.cell hcb.2.2.1
        have y3 := fun p : LateOf w5 => p.cell hcb.2.2.2.1
        have y4 := fun p : LateOf w5 => p.cell hcb.2.2.2.2
        have gx := fun p : LateOf w5 => (hbx.later p.h).all hnx
        have gy := fun p : LateOf w5 => (hby.later p.h).all hny
        have HB := Lib.hid (fun p : LateOf w5 => hA5.below.trans (p.h.mono hA5.below.size))
        rw [hZA] at gx
        rw [hZB] at gy
        clear hA5 hB5 hca hcb hbx hby hnx hny hZA hZB
        refine wp_region_late (by kernel_rfl) (by kernel_rfl) ?_
        quiet_step (fail)
        quiet_step (fail)
        quiet_step (fail)
        quiet_step (fail)
        quiet_step (fail)
        quiet_step (fail)
        quiet_step (fail)
        quiet_step (fail)
        quiet_step (fail)
        quiet_step (fail)
        quiet_step (fail)
        quiet_step (fail)
        quiet_step (fail)
        quiet_step (fail)
        quiet_step (fail)
        quiet_step (fail)
        quiet_step (fail)
        quiet_step (fail)
        refine wpQuiet_nil ?_
        intro w6 hw'
        obtain ⟨p, rfl⟩ := hw'
        have hBe := HB.out p
        go_wp2_with fail
        go_ret
        exact ⟨rfl, hBe⟩
      · have hne : St.text a ≠ St.text b := fun e => hab (St.text_inj hra hrb e)
        have hzz : (ZA.toList == ZB.toList) = false := by rw [← hZA, ← hZB, str_beq]; exact decide_eq_false hne
        rw [decide_eq_false hab] at hEq
        clear HSame hab hne hra hrb
        go_enter Tryd.func7, Tryd.ntmps7
        go_upto_region 1 with fail
        have hA0 := hA00.alloc (.cells #[.string BM, .string BT, .int .i64 BC, .string BR, .int .i64 BK] 25)
        have hB0 : SAt w (w.heap.size + 1) ((w.alloc (.cells #[.string AM, .string AT, .int .i64 AC, .string AR, .int .i64 AK] 25)).alloc (.cells #[.string BM, .string BT, .int .i64 BC, .string BR, .int .i64 BK] 25)) (.string BM) (.string BT) (.int .i64 BC) (.string BR) (.int .i64 BK) :=
          ⟨heap_alloc2_new w _ _, hA0.below, by omega⟩
        generalize (w.alloc (.cells #[.string AM, .string AT, .int .i64 AC, .string AR, .int .i64 AK] 25)).alloc (.cells #[.string BM, .string BT, .int .i64 BC, .string BR, .int .i64 BK] 25) = W0 at hA0 hB0 ⊢
        generalize w.heap.size + 1 = gB at hB0 ⊢
        go_wp2_with fail
        refine (cA _ hA0.below).mono ?_
        rintro e1 w1 ⟨rfl, hb1⟩
        have hA1 := hA0.later hb1
        have hB1 := hB0.later hb1
        obtain ⟨a0, a1, a2, a3, a4⟩ := hA1.cells
        obtain ⟨b0, b1, b2, b3, b4⟩ := hB1.cells
        have hW := hA1.below
        clear hA00 hA0 hB0 hb1
        go_wp2_with fail
        refine (cYa _).mono ?_
        rintro e2 w2 ⟨rfl, hb2⟩
        have hA2 := hA1.later hb2
        have hB2 := hB1.later hb2
        clear a0 a1 a2 a3 a4 b0 b1 b2 b3 b4 hA1 hB1 hW hb2 cYa
        have hW := hA2.below
        obtain ⟨b0, b1, b2, b3, b4⟩ := hB2.cells
        go_wp2_with fail
        refine (cYb _).mono ?_
        rintro e3 w3 ⟨rfl, hb3⟩
        have hA3 := hA2.later hb3
        have hB3 := hB2.later hb3
        clear b0 b1 b2 b3 b4 hA2 hB2 hW hb3 cYb
        have hW := hA3.below
        go_upto_region 3 with fail
        go_wp2_with (refine ldS hA3.cell rfl (.tmp 2) rfl rfl ?_)
        refine (cPa _ hW).mono ?_
        rintro e4 w4 ⟨⟨x, rfl, hbx, hnx⟩, hb4⟩
        have hA4 := hA3.later hb4
        have hB4 := hB3.later hb4
        clear hA3 hB3 hW hb4 cPa
        go_wp2_with (refine ldS hB4.cell rfl (.tmp 3) rfl rfl ?_)
        refine (cPb _ hA4.below).mono ?_
        rintro e5 w5 ⟨⟨y, rfl, hby, hny⟩, hb5⟩
        have hA5 := hA4.later hb5
        have hB5 := hB4.later hb5
        replace hbx := hbx.later hb5
        clear hA4 hB4 hb5 cPb
        go_upto_region 5 with fail
        have hca := hA5.cells
        have hcb := hB5.cells
        have x0 := fun p : LateOf w5 => p.cell hca.1
        have x1 := fun p : LateOf w5 => p.cell hca.2.1
        have x2 := fun p : LateOf w5 => p.cell hca.2.2.1
        have x3 := fun p : LateOf w5 => p.cell hca.2.2.2.1
        have x4 := fun p : LateOf w5 => p.cell hca.2.2.2.2
        have y0 := fun p : LateOf w5 => p.cell hcb.1
        have y1 := fun p : LateOf w5 => p.cell hcb.2.1
        have y2 := fun p : LateOf w5 => p.cell hcb.2.2.1
        have y3 := fun p : LateOf w5 => p.cell hcb.2.2.2.1
        have y4 := fun p : LateOf w5 => p.cell hcb.2.2.2.2
        have gx := fun p : LateOf w5 => (hbx.later p.h).all hnx
        have gy := fun p : LateOf w5 => (hby.later p.h).all hny
        have HB := Lib.hid (fun p : LateOf w5 => hA5.below.trans (p.h.mono hA5.below.size))
        rw [hZA] at gx
        rw [hZB] at gy
        clear hA5 hB5 hca hcb hbx hby hnx hny hZA hZB
        refine wp_region_late (by kernel_rfl) (by kernel_rfl) ?_
        quiet_step (fail)
        quiet_step (fail)
        quiet_step (fail)
        quiet_step (fail)
        quiet_step (fail)
        quiet_step (fail)
        quiet_step (fail)
        quiet_step (fail)
        quiet_step (fail)
        quiet_step (fail)
        quiet_step (fail)
        quiet_step (fail)
        quiet_step (fail)
        quiet_step (fail)
        quiet_step (fail)
        quiet_step (fail)
        quiet_step (fail)
        quiet_step (fail)
        refine wpQuiet_nil ?_
        intro w6 hw'
        obtain ⟨p, rfl⟩ := hw'
        have hBe := HB.out p
        go_wp2_with fail
        go_ret
        exact ⟨rfl, hBe⟩
end Go.Proofs.YtbpghbbcghlcaaaDoor
