/- The document's own answer for package date: when a moment is. -/
import Derived.Test.YtlmcolpoaedclaaDoorDt10
namespace Go.Proofs.YtlmcolpoaedclaaDoor
open Go.RowKit

theorem year_le {y z n : Int} (h : Dt.ny z ≤ n) (h' : n < Dt.ny (y + 1)) : z ≤ y := by
  rcases Int.lt_or_le y z with g | g
  · have := Dt.ny_mono (y + 1) z (by omega); omega
  · exact g

set_option maxHeartbeats 1600000 in
theorem When_c (a y d : Int) (m : Nat) (w : World) (a0 : 0 ≤ a) (a1 : a ≤ 253402300799) (hd : Dt.IsDate (a / 86400) y m d) :
    Calls Tryd.prog 15 #[.int .i64 a] w fun e w' => e = .returned (.tuple #[.int .i64 y, .int .i64 m, .int .i64 d, .int .i64 (Dt.wday (a / 86400))]) ∧ Below w.heap.size w w' := by
  have HY := Lib.hid hd.in_year
  have HM := Lib.hid hd.in_month
  have y0 := hd.y0
  have y1 := hd.y1
  have hm : m < 12 := by have := hd.m1; omega
  have HE := Lib.hid hd.n_
  clear hd
  go_enter Tryd.func15, Tryd.ntmps15
  go_wp2_with fail
  go_loop [6, 8] (fun r t => ∃ z n : Int, 1970 ≤ z ∧ z ≤ y ∧ 0 ≤ n ∧ n ≤ 2932896 ∧ r = .int .i64 n ∧ t = .int .i64 z ∧ Hid (Dt.ny z + n = a / 86400)) (fun r _ => (intOf r).toNat)
  case atStart => exact ⟨1970, a / 86400, by omega, by omega, by omega, by omega, rfl, rfl, Lib.hid (by rw [Dt.ny_1970]; omega)⟩
  case round =>
    obtain ⟨z, n, z0, z1, n0, n1, rfl, rfl, HZ⟩ := hrel
    by_cases hc : 146097 ≤ n
    · have hz : z + 400 ≤ y := by
        have h1 := Dt.ny_400 z
        have h2 := HZ.out
        have h3 := HY.out.2
        exact year_le (n := a / 86400) (by omega) h3
      have HZ' : Hid (Dt.ny (z + 400) + (n - 146097) = a / 86400) := by
        have h1 := Dt.ny_400 z
        have h2 := HZ.out
        show _ = _
        omega
      go_wp2_with fail
      go_round
      case rel => exact ⟨z + 400, n - 146097, by omega, by omega, by omega, by omega, rfl, rfl, HZ'⟩
      case measure => simp [intOf]; omega
    · have hc' : n < 146097 := by omega
      clear hc
      go_wp2_with fail
      go_loopw [6, 8] (fun r t wr => ∃ z n : Int, 1970 ≤ z ∧ z ≤ y ∧ 0 ≤ n ∧ n ≤ 2932896 ∧ r = .int .i64 n ∧ t = .int .i64 z ∧ Hid (Dt.ny z + n = a / 86400) ∧ Below w.heap.size w wr) (fun r _ _ => (intOf r).toNat)
      case atStart => exact ⟨z, n, z0, z1, n0, n1, rfl, rfl, HZ, Below.refl _ _⟩
      case round =>
        clear hc' n0 n1 z0 z1 HZ
        obtain ⟨z, n, z0, z1, n0, n1, rfl, rfl, HZ, hB⟩ := hrel
        have hl := Dt.lp_01 z
        obtain ⟨l0, l1⟩ := hl
        by_cases hc : 365 + Dt.lp z ≤ n
        · have hs := Dt.ny_succ z
          have hz : z + 1 ≤ y := year_le (n := a / 86400) (by have := HZ.out; omega) HY.out.2
          have HZ' : Hid (Dt.ny (z + 1) + (n - (365 + Dt.lp z)) = a / 86400) := by
            have h2 := HZ.out
            show _ = _
            omega
          clear hs
          go_wp2_with fail
          refine (year_c z _ (by omega) (by omega)).mono ?_
          rintro e w1 ⟨rfl, hb1⟩
          go_wp2_with fail
          refine (year_c z _ (by omega) (by omega)).mono ?_
          rintro e w2 ⟨rfl, hb2⟩
          go_wp2_with fail
          go_roundw
          case rel => exact ⟨z + 1, n - (365 + Dt.lp z), by omega, by omega, by omega, by omega, rfl, rfl, HZ', bt (hB.trans (hb1.mono hB.size)) hb2⟩
          case measure => simp [intOf]; omega
        · obtain rfl : z = y := by
            have hs := Dt.ny_succ z
            have h2 := HZ.out
            have h3 := HY.out
            have := year_le (y := z) (z := y) (n := a / 86400) h3.1 (by omega)
            omega
          have hn : n = a / 86400 - Dt.ny z := by have := HZ.out; omega
          have HN := Lib.hid hn
          clear hn
          go_wp2_with fail
          refine (year_c z _ (by omega) (by omega)).mono ?_
          rintro e w1 ⟨rfl, hb1⟩
          have hB1 := hB.trans (hb1.mono hB.size)
          clear hB hb1
          go_wp2_with fail
          go_loopw [6, 9] (fun r k wr => ∃ (j : Nat) (q : Int), j ≤ m ∧ k = .int .i64 j ∧ r = .int .i64 q ∧ 0 ≤ q ∧ q ≤ 400 ∧ Hid (q = a / 86400 - Dt.ny z - Dt.cum z j) ∧ Below w.heap.size w wr) (fun _ k _ => m - (intOf k).toNat)
          case atStart => exact ⟨0, n, by omega, rfl, rfl, n0, by omega, Lib.hid (by rw [show ((0 : Nat) : Int) = 0 by rfl, Dt.cum_zero, Int.sub_zero]; exact HN.out), hB1⟩
          case round =>
            clear hB1 hc
            obtain ⟨j, q, hj, rfl, rfl, q0, q1, HQ, hB⟩ := hrel
            have hlb := Dt.ml_bd z j
            obtain ⟨m0, m1⟩ := hlb
            have HS := Lib.hid (cum_step z j (by omega))
            by_cases hlt : j < m
            · have hge : Dt.ml z j ≤ q := by
                have h1 := HS.out
                have h2 := HM.out.1
                have h3 := Dt.cum_mono z ((j : Int) + 1) m (by omega) (by omega) (by omega)
                have h4 := HQ.out
                omega
              have HQ' : Hid (q - Dt.ml z j = a / 86400 - Dt.ny z - Dt.cum z ((j + 1 : Nat) : Int)) := by
                have h1 := HS.out
                have h4 := HQ.out
                show _ = _
                rw [Int.natCast_add, Int.natCast_one]
                omega
              go_wp2_with fail
              refine (long_c z j _ (by omega) (by omega) (by omega)).mono ?_
              rintro e w1 ⟨rfl, hb1⟩
              go_wp2_with fail
              refine (long_c z j _ (by omega) (by omega) (by omega)).mono ?_
              rintro e w2 ⟨rfl, hb2⟩
              go_wp2_with fail
              go_roundw
              case rel => exact ⟨j + 1, q - Dt.ml z j, by omega, by go_num, rfl, by omega, by omega, HQ', bt (hB.trans (hb1.mono hB.size)) hb2⟩
              case measure => simp [intOf]; omega
            · obtain rfl : j = m := by omega
              have hge : q < Dt.ml z j := by
                have h1 := HS.out
                have h2 := HM.out.2
                have h4 := HQ.out
                omega
              have HD : Hid (q + 1 = d) := by
                have h4 := HQ.out
                have h5 := HE.out
                show _ = _
                omega
              go_wp2_with fail
              refine (long_c z j _ (by omega) (by omega) (by omega)).mono ?_
              rintro e w1 ⟨rfl, hb1⟩
              go_wp2_with fail
              exact bodyPost_ret (v := .tuple #[.int .i64 z, .int .i64 j, .int .i64 (q + 1), .int .i64 ((a / 86400 + 4) % 7)]) (by simp [results, Tryd.results15, go_sem]) rfl ⟨by rw [HD.out]; rfl, hB.trans (hb1.mono hB.size)⟩

end Go.Proofs.YtlmcolpoaedclaaDoor
