/- The document's own answer for package date: a moment of its parts. -/
import Derived.Test.YtlmcolpoaedclaaDoorDt13
namespace Go.Proofs.YtlmcolpoaedclaaDoor
open Go.RowKit

theorem momR_no {y m d h mi se : Int} (hv : ¬ Dt.valid y m d h mi se) : Dt.momR y m d h mi se = -1 := by unfold Dt.momR; rw [if_neg hv]

set_option maxHeartbeats 800000 in
theorem mom_a (y m d h mi se : Int) (w : World) (hb : y < 1970 ∨ (1970 ≤ y ∧ m < 0) ∨ (1970 ≤ y ∧ 0 ≤ m ∧ d < 1)) :
    Calls Tryd.prog 18 #[.int .i64 y, .int .i64 m, .int .i64 d, .int .i64 h, .int .i64 mi, .int .i64 se] w fun e w' => e = .returned (.int .i64 (-1)) ∧ w = w' := by
  rcases hb with hb | ⟨hy, hb⟩ | ⟨hy, hm, hb⟩
  all_goals
    go_enter Tryd.func18, Tryd.ntmps18
    go_wp2_with fail
    go_ret
    exact ⟨rfl, rfl⟩

set_option maxHeartbeats 1600000 in
theorem mom_b (y d h mi se : Int) (m : Nat) (w : World) (y0 : 1970 ≤ y) (y1 : y ≤ 9999) (hm : m < 12) (d0 : 1 ≤ d) (_d1 : d ≤ 9999) (_h0 : -1 ≤ h) (_h1 : h ≤ 99) (_i0 : -1 ≤ mi) (_i1 : mi ≤ 99) (_s0 : -1 ≤ se) (_s1 : se ≤ 99) (hb : (Dt.ml y m < d) ∨ (d ≤ Dt.ml y m ∧ h < 0) ∨ (d ≤ Dt.ml y m ∧ 0 ≤ h ∧ 23 < h) ∨ (d ≤ Dt.ml y m ∧ 0 ≤ h ∧ h ≤ 23 ∧ mi < 0) ∨ (d ≤ Dt.ml y m ∧ 0 ≤ h ∧ h ≤ 23 ∧ 0 ≤ mi ∧ 59 < mi) ∨ (d ≤ Dt.ml y m ∧ 0 ≤ h ∧ h ≤ 23 ∧ 0 ≤ mi ∧ mi ≤ 59 ∧ se < 0) ∨ (d ≤ Dt.ml y m ∧ 0 ≤ h ∧ h ≤ 23 ∧ 0 ≤ mi ∧ mi ≤ 59 ∧ 0 ≤ se ∧ 59 < se)) :
    Calls Tryd.prog 18 #[.int .i64 y, .int .i64 m, .int .i64 d, .int .i64 h, .int .i64 mi, .int .i64 se] w fun e w' => e = .returned (.int .i64 (-1)) ∧ Below w.heap.size w w' := by
  have hL := long_c y m w (by omega) (by omega) hm
  have hl := Dt.ml_bd y m
  obtain ⟨l0, l1⟩ := hl
  rcases hb with hb | ⟨c0, hb⟩ | ⟨c0, c1, hb⟩ | ⟨c0, c1, c2, hb⟩ | ⟨c0, c1, c2, c3, hb⟩ | ⟨c0, c1, c2, c3, c4, hb⟩ | ⟨c0, c1, c2, c3, c4, c5, hb⟩
  all_goals
    go_enter Tryd.func18, Tryd.ntmps18
    go_wp2_with fail
    refine hL.mono ?_
    rintro e w1 ⟨rfl, hb1⟩
    go_wp2_with fail
    go_ret
    exact ⟨rfl, hb1⟩

set_option maxHeartbeats 1600000 in
theorem mom_y (y d h mi se : Int) (m : Nat) (w : World) (y0 : 1970 ≤ y) (y1 : y ≤ 9999) (hm : m < 12) (d0 : 1 ≤ d) (d1 : d ≤ 9999) (h0 : -1 ≤ h) (h1 : h ≤ 99) (i0 : -1 ≤ mi) (i1 : mi ≤ 99) (s0 : -1 ≤ se) (s1 : se ≤ 99) (c0 : d ≤ Dt.ml y m) (c1 : 0 ≤ h) (c2 : h ≤ 23) (c3 : 0 ≤ mi) (c4 : mi ≤ 59) (c5 : 0 ≤ se) (c6 : se ≤ 59) :
    Calls Tryd.prog 18 #[.int .i64 y, .int .i64 m, .int .i64 d, .int .i64 h, .int .i64 mi, .int .i64 se] w fun e w' => e = .returned (.int .i64 ((d - 1 + Dt.ny y + Dt.cum y m) * 86400 + h * 3600 + mi * 60 + se)) ∧ Below w.heap.size w w' := by
  have hL := long_c y m w (by omega) (by omega) hm
  have hl := Dt.ml_bd y m
  obtain ⟨l0, l1⟩ := hl
  go_enter Tryd.func18, Tryd.ntmps18
  go_wp2_with fail
  refine hL.mono ?_
  rintro e w1 ⟨rfl, hb1⟩
  clear hL
  go_wp2_with fail
  go_loop [13, 14] (fun x k => ∃ z n : Int, 1970 ≤ z ∧ z ≤ y ∧ k = .int .i64 z ∧ x = .int .i64 n ∧ 0 ≤ n ∧ n ≤ 3000000 ∧ Hid (n = d - 1 + Dt.ny z)) (fun _ k => (y - intOf k).toNat)
  case atStart => exact ⟨1970, d - 1, by omega, y0, rfl, rfl, by omega, by omega, Lib.hid (by rw [Dt.ny_1970]; omega)⟩
  case round =>
    obtain ⟨z, n, z0, z1, rfl, rfl, n0, n1, HN⟩ := hrel
    by_cases hc : z + 400 ≤ y
    · have HN' : Hid (n + 146097 = d - 1 + Dt.ny (z + 400)) := by
        have h1 := Dt.ny_400 z
        have h2 := HN.out
        show _ = _
        omega
      have hb := Dt.ny_bd (z + 400) (by omega) (by omega)
      have hn1 : n + 146097 ≤ 3000000 := by have := HN'.out; omega
      clear hb
      go_wp2_with fail
      go_round
      case rel => exact ⟨z + 400, n + 146097, by omega, by omega, rfl, rfl, by omega, hn1, HN'⟩
      case measure => simp [intOf]; omega
    · have hc' : y < z + 400 := by omega
      clear hc
      go_wp2_with fail
      go_loopw [13, 14] (fun x k wr => ∃ z n : Int, 1970 ≤ z ∧ z ≤ y ∧ k = .int .i64 z ∧ x = .int .i64 n ∧ 0 ≤ n ∧ n ≤ 3000000 ∧ Hid (n = d - 1 + Dt.ny z) ∧ Below w.heap.size w wr) (fun _ k _ => (y - intOf k).toNat)
      case atStart => exact ⟨z, n, z0, z1, rfl, rfl, n0, n1, HN, hb1⟩
      case round =>
        clear hc' z0 z1 n0 n1 HN hb1
        obtain ⟨z, n, z0, z1, rfl, rfl, n0, n1, HN, hB⟩ := hrel
        by_cases hc : z < y
        · have hlp := Dt.lp_01 z
          obtain ⟨p0, p1⟩ := hlp
          have HN' : Hid (n + (365 + Dt.lp z) = d - 1 + Dt.ny (z + 1)) := by
            have h1 := Dt.ny_succ z
            have h2 := HN.out
            show _ = _
            omega
          have hb := Dt.ny_bd (z + 1) (by omega) (by omega)
          have hn1 : n + (365 + Dt.lp z) ≤ 3000000 := by have := HN'.out; omega
          clear hb
          go_wp2_with fail
          refine (year_c z _ (by omega) (by omega)).mono ?_
          rintro e w2 ⟨rfl, hb2⟩
          go_wp2_with fail
          go_roundw
          case rel => exact ⟨z + 1, n + (365 + Dt.lp z), by omega, by omega, rfl, rfl, by omega, hn1, HN', hB.trans (hb2.mono hB.size)⟩
          case measure => simp [intOf]; omega
        · obtain rfl : z = y := by omega
          have hny := Dt.ny_bd z z0 (by omega)
          have hn2 : n ≤ 2950000 := by have := HN.out; omega
          clear hc hny
          go_wp2_with fail
          go_loopw [13, 15] (fun x k wr => ∃ (j : Nat) (q : Int), j ≤ m ∧ k = .int .i64 j ∧ x = .int .i64 q ∧ 0 ≤ q ∧ q ≤ 3000000 ∧ Hid (q = d - 1 + Dt.ny z + Dt.cum z j) ∧ Below w.heap.size w wr) (fun _ k _ => m - (intOf k).toNat)
          case atStart => exact ⟨0, n, by omega, rfl, rfl, n0, by omega, Lib.hid (by rw [show ((0 : Nat) : Int) = 0 by rfl, Dt.cum_zero, Int.add_zero]; exact HN.out), hB⟩
          case round =>
            clear hB
            obtain ⟨j, q, hj, rfl, rfl, q0, q1, HQ, hB⟩ := hrel
            by_cases hlt : j < m
            · have hlb := Dt.ml_bd z j
              obtain ⟨m0, m1⟩ := hlb
              have HQ' : Hid (q + Dt.ml z j = d - 1 + Dt.ny z + Dt.cum z ((j + 1 : Nat) : Int)) := by
                have h1 := cum_step z j (by omega)
                have h4 := HQ.out
                show _ = _
                rw [Int.natCast_add, Int.natCast_one]
                omega
              have hq1 : q + Dt.ml z j ≤ 3000000 := by
                have h1 := HQ'.out
                have h2 := Dt.cum_bd z ((j + 1 : Nat) : Int)
                have h3 := HN.out
                omega
              go_wp2_with fail
              refine (long_c z j _ (by omega) (by omega) (by omega)).mono ?_
              rintro e w2 ⟨rfl, hb2⟩
              go_wp2_with fail
              go_roundw
              case rel => exact ⟨j + 1, q + Dt.ml z j, by omega, by go_num, rfl, by omega, hq1, HQ', hB.trans (hb2.mono hB.size)⟩
              case measure => simp [intOf]; omega
            · obtain rfl : j = m := by omega
              go_wp2_with fail
              go_ret
              exact ⟨ret_int (by rw [HQ.out]), hB⟩

theorem mom_c (y m d h mi se : Int) (w : World) (y1 : y ≤ 9999) (m1 : m ≤ 11) (d1 : d ≤ 9999) (h0 : -1 ≤ h) (h1 : h ≤ 99) (i0 : -1 ≤ mi) (i1 : mi ≤ 99) (s0 : -1 ≤ se) (s1 : se ≤ 99) :
    Calls Tryd.prog 18 #[.int .i64 y, .int .i64 m, .int .i64 d, .int .i64 h, .int .i64 mi, .int .i64 se] w fun e w' => e = .returned (.int .i64 (Dt.momR y m d h mi se)) ∧ Below w.heap.size w w' := by
  by_cases ha : y < 1970 ∨ (1970 ≤ y ∧ m < 0) ∨ (1970 ≤ y ∧ 0 ≤ m ∧ d < 1)
  · rw [momR_no (by unfold Dt.valid; omega)]
    exact (mom_a y m d h mi se w ha).mono (by rintro e w' ⟨rfl, rfl⟩; exact ⟨rfl, Below.refl _ _⟩)
  · obtain ⟨j, rfl⟩ : ∃ j : Nat, m = j := ⟨m.toNat, by omega⟩
    by_cases hb : (Dt.ml y j < d) ∨ (d ≤ Dt.ml y j ∧ h < 0) ∨ (d ≤ Dt.ml y j ∧ 0 ≤ h ∧ 23 < h) ∨ (d ≤ Dt.ml y j ∧ 0 ≤ h ∧ h ≤ 23 ∧ mi < 0) ∨ (d ≤ Dt.ml y j ∧ 0 ≤ h ∧ h ≤ 23 ∧ 0 ≤ mi ∧ 59 < mi) ∨ (d ≤ Dt.ml y j ∧ 0 ≤ h ∧ h ≤ 23 ∧ 0 ≤ mi ∧ mi ≤ 59 ∧ se < 0) ∨ (d ≤ Dt.ml y j ∧ 0 ≤ h ∧ h ≤ 23 ∧ 0 ≤ mi ∧ mi ≤ 59 ∧ 0 ≤ se ∧ 59 < se)
    · rw [momR_no (by unfold Dt.valid; omega)]
      exact mom_b y d h mi se j w (by omega) y1 (by omega) (by omega) d1 h0 h1 i0 i1 s0 s1 hb
    · have hv : Dt.valid y j d h mi se := by unfold Dt.valid; omega
      have := mom_y y d h mi se j w (by omega) y1 (by omega) (by omega) d1 h0 h1 i0 i1 s0 s1 (by omega) (by omega) (by omega) (by omega) (by omega) (by omega) (by omega)
      unfold Dt.momR
      rw [if_pos hv]
      exact this

end Go.Proofs.YtlmcolpoaedclaaDoor
