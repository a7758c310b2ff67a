/- Package date: from parts to a moment, and back. -/
import Derived.Test.YtlmcolpoaedclaaDoorDt1
namespace Go.Proofs.YtlmcolpoaedclaaDoor
open Go.RowKit

theorem cum_step (y : Int) (k : Nat) (h : k < 12) : Dt.cum y ((k : Int) + 1) = Dt.cum y k + Dt.ml y k := Dt.cum_succ y k (by omega) (by omega)
/-- A call that leaves the world alone, behind some draws. -/
theorem quiet {f : FuncId} {args : Array Value} {r : Ending} {W : World} (n : Nat) (h : Calls Tryd.prog f args (W.drewN n) fun e w' => e = r ∧ W.drewN n = w') : Calls Tryd.prog f args (W.drewN n) fun e w' => e = r ∧ ∃ m, w' = W.drewN m :=
  h.mono (by rintro e w' ⟨he, rfl⟩; exact ⟨he, n, rfl⟩)

set_option maxHeartbeats 1000000 in
theorem moment_c (y d h mi se : Int) (m : Nat) (w : World) (hT : DTabs w) (y0 : 0 ≤ y) (y1 : y ≤ 11899) (hm : m < 12) (d0 : 0 ≤ d) (d1 : d ≤ 11899) (h0 : 0 ≤ h) (h1 : h ≤ 11899) (i0 : 0 ≤ mi) (i1 : mi ≤ 11899) (s0 : 0 ≤ se) (s1 : se ≤ 11899) :
    Calls Tryd.prog 30 #[.agg #[.int .i64 y, .int .i64 m, .int .i64 d, .int .i64 h, .int .i64 mi, .int .i64 se]] w fun e w' => e = .returned (.int .i64 (Dt.mom y m d h mi se)) ∧ Below w.heap.size w w' := by
  have hn := Dt.nyT_bd y y0 y1
  obtain ⟨n0, n1⟩ := hn
  obtain ⟨N, hN⟩ : ∃ N, Dt.nyT y = N := ⟨_, rfl⟩
  have hB : Below w.heap.size w (w.alloc (.cells #[.int .i64 y, .int .i64 m, .int .i64 d, .int .i64 h, .int .i64 mi, .int .i64 se] 56)) := (Below.refl _ _).alloc (Nat.le_refl _) _
  have HT := Lib.hid (hT.later hB)
  have HB := Lib.hid hB
  have hY := newYear_t y
  rw [hN] at hY n0 n1
  have HN := Lib.hid hN
  clear hT hB hN
  go_enter Tryd.func30, Tryd.ntmps30
  go_wp2_with fail
  go_quiet ((go_at_call 38; exact quiet _ (hY _ y0 y1)))
  go_wp2_with fail
  have HD := Lib.hid (HT.out.later (Go.below_drewN (Below.refl _ _) nq))
  clear HT hY
  go_loop [3, 14] (fun x i => ∃ k : Nat, k ≤ m ∧ i = .int .i64 k ∧ x = .int .i64 (N + d - 1 + Dt.cum y k)) (fun _ i => m - (intOf i).toNat)
  case atStart => exact ⟨0, by omega, rfl, by rw [show ((0 : Nat) : Int) = 0 by rfl, Dt.cum_zero, Int.add_zero]⟩
  case round =>
    obtain ⟨k, hk, rfl, rfl⟩ := hrel
    have hcb := Dt.cum_bd y k
    obtain ⟨c0, c1⟩ := hcb
    by_cases hlt : k < m
    · have hlb := Dt.ml_bd y k
      obtain ⟨l0, l1⟩ := hlb
      have HS := Lib.hid (cum_step y k (by omega))
      go_wp2_with (go_at_call 39; refine (monthDays_c y k _ HD.out y0 y1 (by omega)).mono ?_; rintro e w' ⟨rfl, rfl⟩)
      go_round
      case rel => exact ⟨k + 1, by omega, by go_num, by rw [Int.natCast_add, Int.natCast_one, HS.out, Int.add_assoc]⟩
      case measure => simp [intOf]; omega
    · obtain rfl : k = m := by omega
      go_wp2_with fail
      go_ret
      exact ⟨ret_int (by unfold Dt.mom; rw [HN.out]), Go.below_drewN HB.out nq⟩

/-- A moment's parts as the program keeps them. -/
def partsV (y m d s : Int) : Value := .agg #[.int .i64 y, .int .i64 m, .int .i64 d, .int .i64 (s / 3600), .int .i64 (s / 60 % 60), .int .i64 (s % 60)]

set_option maxHeartbeats 1600000 in
theorem calendar_c (a y d : Int) (m : Nat) (w : World) (hT : DTabs w) (a0 : 0 ≤ a) (a1 : a ≤ 253402300799) (hd : Dt.IsDate (a / 86400) y m d) :
    Calls Tryd.prog 31 #[.int .i64 a] w fun e w' => e = .returned (partsV y m d (a % 86400)) ∧ Below w.heap.size w w' := by
  have hB : Below w.heap.size w (w.alloc (.cells #[.int .i64 0, .int .i64 0, .int .i64 0, .int .i64 0, .int .i64 0, .int .i64 0] 56)) := (Below.refl _ _).alloc (Nat.le_refl _) _
  have HT := Lib.hid (hT.later hB)
  have HB := Lib.hid hB
  have HG := Lib.hid (Dt.ny_guess (a / 86400) (by omega))
  have HY := Lib.hid hd.in_year
  have HM := Lib.hid hd.in_month
  have y0 := hd.y0
  have y1 := hd.y1
  have hm : m < 12 := by have := hd.m1; omega
  have HE := Lib.hid hd.n_
  have hny := Dt.ny_bd y y0 (by omega)
  obtain ⟨ny0, ny1⟩ := hny
  clear hT hB hd
  go_enter Tryd.func31, Tryd.ntmps31
  go_wp2_with fail
  go_loop [5] (fun t => ∃ z : Int, 1970 ≤ z ∧ z ≤ y ∧ t = .int .i64 z ∧ Hid (Dt.ny z ≤ a / 86400)) (fun t => (y - intOf t).toNat)
  case atStart => exact ⟨1970 + a / 86400 / 366, by omega, by
    have h1 := HG.out
    rcases Int.lt_or_le y (1970 + a / 86400 / 366) with g | g
    · have := Dt.ny_mono (y + 1) (1970 + a / 86400 / 366) (by omega)
      have := HY.out; omega
    · exact g, rfl, HG⟩
  case round =>
    obtain ⟨z, z0, z1, rfl, HZ⟩ := hrel
    by_cases hc : Dt.ny (z + 1) ≤ a / 86400
    · have hz : z < y := by
        rcases Int.lt_or_le z y with g | g
        · exact g
        · have := Dt.ny_mono (y + 1) (z + 1) (by omega)
          have := HY.out; omega
      have HZ' := Lib.hid hc
      go_wp2_with (go_at_call 38; refine (newYear_c _ _ (by omega) (by omega)).mono ?_; rintro e w' ⟨rfl, rfl⟩)
      go_round
      case rel => exact ⟨z + 1, by omega, by omega, by go_num, HZ'⟩
      case measure => simp [intOf]; omega
    · obtain rfl : z = y := by
        rcases Int.lt_or_le z y with g | g
        · have := Dt.ny_mono (z + 1) y (by omega)
          have := HY.out; omega
        · omega
      have hc' : a / 86400 < Dt.ny (z + 1) := by omega
      have hle := HZ.out
      clear hc
      go_wp2_with (go_at_call 38; refine (newYear_c _ _ (by omega) (by omega)).mono ?_; rintro e w' ⟨rfl, rfl⟩)
      go_loop [3, 6] (fun r k => ∃ j : Nat, j ≤ m ∧ k = .int .i64 j ∧ r = .int .i64 (a / 86400 - Dt.ny z - Dt.cum z j)) (fun _ k => m - (intOf k).toNat)
      case atStart => exact ⟨0, by omega, rfl, by rw [show ((0 : Nat) : Int) = 0 by rfl, Dt.cum_zero, Int.sub_zero]⟩
      case round =>
        obtain ⟨j, hj, rfl, rfl⟩ := hrel
        have hcb := Dt.cum_bd z j
        obtain ⟨c0, c1⟩ := hcb
        have hlb := Dt.ml_bd z j
        obtain ⟨l0, l1⟩ := hlb
        have HS := Lib.hid (cum_step z j (by omega))
        by_cases hlt : j < m
        · have hge : Dt.ml z j ≤ a / 86400 - Dt.ny z - Dt.cum z j := by
            have h1 := HS.out
            have h2 := HM.out.1
            have h3 := Dt.cum_mono z ((j : Int) + 1) m (by omega) (by omega) (by omega)
            omega
          go_wp2_with (go_at_call 39; refine (monthDays_c z j _ HT.out (by omega) (by omega) (by omega)).mono ?_; rintro e w' ⟨rfl, rfl⟩)
          go_round
          case rel => exact ⟨j + 1, by omega, by go_num, by rw [Int.natCast_add, Int.natCast_one, HS.out]; go_num⟩
          case measure => simp [intOf]; omega
        · obtain rfl : j = m := by omega
          have hge : a / 86400 - Dt.ny z - Dt.cum z j < Dt.ml z j := by
            have h1 := HS.out
            have h2 := HM.out.2
            omega
          have hnn : 0 ≤ a / 86400 - Dt.ny z - Dt.cum z j := by
            have h2 := HM.out.1
            omega
          have hdd : Hid (a / 86400 - Dt.ny z - Dt.cum z j + 1 = d) := by have := HE.out; show _ = _; omega
          go_wp2_with (go_at_call 39; refine (monthDays_c z j _ HT.out (by omega) (by omega) (by omega)).mono ?_; rintro e w' ⟨rfl, rfl⟩)
          refine bodyPost_ret (v := partsV z j (a / 86400 - Dt.ny z - Dt.cum z j + 1) (a % 86400)) (by simp [results, Tryd.results31, go_sem, partsV]) rfl ⟨by rw [hdd.out], ?_⟩
          exact (Below.refl _ _).alloc (Nat.le_refl _) _

end Go.Proofs.YtlmcolpoaedclaaDoor
