/- The statements of layer 2: DateBounds, DateFollows. -/
import Derived.Test.YtlmcolpoaedclaaDoorDt19
namespace Go.Proofs.YtlmcolpoaedclaaDoor
open Go.RowKit

theorem tmod_bd (n b : Int) (hb : 0 < b) : -b < n.tmod b ∧ n.tmod b < b := ⟨Int.lt_tmod_of_pos n hb, Int.tmod_lt_of_pos n hb⟩

set_option maxHeartbeats 1600000 in
theorem bounds_w (n : Int) (w : World) (hn : -9223372036854775808 ≤ n ∧ n ≤ 9223372036854775807) (hT : DTabs w) :
    Calls Tryd.prog 7 #[.int .i64 n] w fun e w' => e = .returned (.bool true) ∧ Below w.heap.size w w' := by
  obtain ⟨hn1, hn2⟩ := hn
  have hA := awake_w w hT
  have HT := Lib.hid hT
  clear hT
  obtain ⟨q, hq⟩ : ∃ q, n.tmod 1000 = q := ⟨_, rfl⟩
  have hqb := tmod_bd n 1000 (by omega)
  rw [hq] at hqb
  obtain ⟨q0, q1⟩ := hqb
  obtain ⟨k, hk⟩ : ∃ k, (q + 1000) % 1000 = k := ⟨_, rfl⟩
  have k0 : 0 ≤ k := by omega
  have k1 : k < 1000 := by omega
  have hP1 := fun w => Print_no (-1 - k) w (by omega)
  have hP2 := fun w => Print_no (253402300800 + k) w (by omega)
  have hP3 := fun w hT => Print_yes 253402300799 ⟨#[70, 114, 105, 44, 32, 51, 49, 32, 68, 101, 99, 32, 57, 57, 57, 57, 32, 50, 51, 58, 53, 57, 58, 53, 57, 32, 71, 77, 84]⟩ w hT (by decide) (by decide) (by rw [last_form]; rfl)
  have hP4 := fun w hT => Print_yes 0 ⟨#[84, 104, 117, 44, 32, 48, 49, 32, 74, 97, 110, 32, 49, 57, 55, 48, 32, 48, 48, 58, 48, 48, 58, 48, 48, 32, 71, 77, 84]⟩ w hT (by decide) (by decide) (by rw [first_form]; rfl)
  go_enter Tryd.func7, Tryd.ntmps7
  go_wp2_with fail
  refine hA.mono ?_
  rintro e w1 ⟨rfl, hb1⟩
  have hT1 := HT.out.later hb1
  clear hA
  go_wp2_with fail
  refine (hP1 _).mono ?_
  rintro e w' ⟨rfl, rfl⟩
  go_wp2_with (go_at_call 13; refine (Last_c _).mono ?_; rintro e w' ⟨rfl, rfl⟩)
  refine (hP2 _).mono ?_
  rintro e w' ⟨rfl, rfl⟩
  go_wp2_with (go_at_call 13; refine (Last_c _).mono ?_; rintro e w' ⟨rfl, rfl⟩)
  refine (hP3 _ hT1).mono ?_
  rintro e w2 ⟨rfl, hb2⟩
  have hT2 := hT1.later hb2
  have hB2 := bt hb1 hb2
  clear hb1 hb2 hT1 hP1 hP2 hP3
  go_wp2_with fail
  refine (hP4 _ hT2).mono ?_
  rintro e w3 ⟨rfl, hb3⟩
  have hB3 := bt hB2 hb3
  clear hB2 hb3 hT2 hP4
  go_wp2_with fail
  go_ret
  exact ⟨rfl, hB3⟩

/-- The first form's parts: the day of the week's name, and what stands behind the date. -/
theorem form_take {a : Int} (h0 : 0 ≤ a) (h1 : a ≤ 253402300799) : (Dt.form a 0).take 3 = (Dt.dayN (Dt.wday (a / 86400))).take 3 := by
  obtain ⟨y, m, d, hd, hp⟩ := Dt.parts_of h0 h1
  obtain ⟨p1, p2, p3, hq⟩ := Dt.three hp.w0 hp.w1
  rw [Dt.form0 hd]
  unfold Dt.f0
  rw [hq]
  rfl
theorem form_drop {a : Int} (h0 : 0 ≤ a) (h1 : a ≤ 253402300799) : (Dt.form a 0).drop 16 = 32 :: (Dt.clock (a % 86400) ++ 32 :: Dt.gmt) := by
  obtain ⟨y, m, d, hd, hp⟩ := Dt.parts_of h0 h1
  obtain ⟨p1, p2, p3, hq⟩ := Dt.three hp.w0 hp.w1
  obtain ⟨q1, q2, q3, hr⟩ := Dt.threeM hp.m0 hp.m1
  rw [Dt.form0 hd]
  unfold Dt.f0
  rw [hq, hr]
  rfl
theorem take3_inj {v w : Int} (v0 : 0 ≤ v) (v1 : v < 7) (w0 : 0 ≤ w) (w1 : w < 7) (h : (Dt.dayN v).take 3 = (Dt.dayN w).take 3) : v = w := by
  rcases Dt.w_cases v0 v1 with rfl | rfl | rfl | rfl | rfl | rfl | rfl <;> rcases Dt.w_cases w0 w1 with rfl | rfl | rfl | rfl | rfl | rfl | rfl <;> first | rfl | (exact absurd h (by decide))
theorem ext3 (x y : List UInt8) (f t : Nat) : (((str x).extract f t).toList == ((str y).extract f t).toList) = decide ((x.take t).drop f = (y.take t).drop f) := by
  rw [bytes_eq, Dt.ext_list, Dt.ext_list, str_list, str_list]

set_option maxHeartbeats 3200000 in
set_option maxRecDepth 100000 in
theorem follows_w (a : Int) (w : World) (ha : -9223372036854775808 ≤ a ∧ a ≤ 9223372036854775807) (hT : DTabs w) :
    Calls Tryd.prog 5 #[.int .i64 a] w fun e w' => e = .returned (.bool true) ∧ Below w.heap.size w w' := by
  obtain ⟨ha1, ha2⟩ := ha
  have hA := awake_w w hT
  have HT := Lib.hid hT
  clear hT
  by_cases hneg : a < 0
  · go_enter Tryd.func5, Tryd.ntmps5
    go_wp2_with fail
    refine hA.mono ?_
    rintro e w1 ⟨rfl, hb1⟩
    have hT1 := HT.out.later hb1
    clear hA
    go_wp2_with fail
    refine (awake_w w1 hT1).mono ?_
    rintro e w2 ⟨rfl, hb2⟩
    go_wp2_with fail
    go_ret
    exact ⟨rfl, bt hb1 hb2⟩
  have a0 : 0 ≤ a := by omega
  by_cases hbig : 253401695999 < a
  · clear hneg
    go_enter Tryd.func5, Tryd.ntmps5
    go_wp2_with fail
    refine hA.mono ?_
    rintro e w1 ⟨rfl, hb1⟩
    have hT1 := HT.out.later hb1
    clear hA
    go_wp2_with (go_at_call 13; refine (Last_c _).mono ?_; rintro e w' ⟨rfl, rfl⟩)
    refine (awake_w w1 hT1).mono ?_
    rintro e w2 ⟨rfl, hb2⟩
    go_wp2_with fail
    go_ret
    exact ⟨rfl, bt hb1 hb2⟩
  have a1 : a ≤ 253401695999 := by omega
  clear hneg hbig ha1 ha2
  obtain ⟨y, m', d, hd⟩ := Dt.exDate (a / 86400) (by omega) (by omega)
  obtain ⟨m, rfl⟩ : ∃ k : Nat, m' = k := ⟨m'.toNat, by have := hd.m0; omega⟩
  obtain ⟨u, v', x, hd2⟩ := Dt.exDate ((a + 86400) / 86400) (by omega) (by omega)
  obtain ⟨v, rfl⟩ : ∃ k : Nat, v' = k := ⟨v'.toNat, by have := hd2.m0; omega⟩
  have hnext := hd.next (by rw [show a / 86400 + 1 = (a + 86400) / 86400 by omega]; exact hd2)
  obtain ⟨X, hX⟩ : ∃ X, Dt.form a 0 = X := ⟨_, rfl⟩
  obtain ⟨Y, hY⟩ : ∃ X, Dt.form (a + 86400) 0 = X := ⟨_, rfl⟩
  obtain ⟨Z, hZ⟩ : ∃ X, Dt.form (a + 604800) 0 = X := ⟨_, rfl⟩
  have lX : X.length = 29 := by rw [← hX]; exact (Dt.len_form a0 (by unfold Dt.last; omega)).1
  have lY : Y.length = 29 := by rw [← hY]; exact (Dt.len_form (by omega) (by unfold Dt.last; omega)).1
  have lZ : Z.length = 29 := by rw [← hZ]; exact (Dt.len_form (by omega) (by unfold Dt.last; omega)).1
  have tX : X.take 3 = (Dt.dayN (Dt.wday (a / 86400))).take 3 := by rw [← hX]; exact form_take a0 (by omega)
  have tY : Y.take 3 = (Dt.dayN (Dt.wday ((a + 86400) / 86400))).take 3 := by rw [← hY]; exact form_take (by omega) (by omega)
  have tZ : Z.take 3 = (Dt.dayN (Dt.wday ((a + 604800) / 86400))).take 3 := by rw [← hZ]; exact form_take (by omega) (by omega)
  have dX : X.drop 16 = 32 :: (Dt.clock (a % 86400) ++ 32 :: Dt.gmt) := by rw [← hX]; exact form_drop a0 (by omega)
  have dY : Y.drop 16 = 32 :: (Dt.clock ((a + 86400) % 86400) ++ 32 :: Dt.gmt) := by rw [← hY]; exact form_drop (by omega) (by omega)
  have eXZ : X.take 3 = Z.take 3 := by
    rw [tX, tZ]
    congr 2
    unfold Dt.wday; omega
  have eXY : ¬ X.take 3 = Y.take 3 := by
    rw [tX, tY]
    intro e
    have hw := Dt.wday_bd (a / 86400)
    have hw2 := Dt.wday_bd ((a + 86400) / 86400)
    have := take3_inj hw.1 hw.2 hw2.1 hw2.2 e
    unfold Dt.wday at this
    omega
  have eD : X.drop 16 = Y.drop 16 := by
    rw [dX, dY, show (a + 86400) % 86400 = a % 86400 by omega]
  have q1 : (((str X).extract 0 3).toList == ((str Z).extract 0 3).toList) = true := by rw [ext3]; simp [eXZ]
  have q2 : (((str X).extract 0 3).toList == ((str Y).extract 0 3).toList) = false := by rw [ext3]; simpa using eXY
  have q2' : (((str X).extract 0 3).toList != ((str Y).extract 0 3).toList) = true := by rw [bne, q2]; rfl
  have q3 : (((str X).extract 16 29).toList == ((str Y).extract 16 29).toList) = true := by
    rw [ext3, List.take_of_length_le (by omega), List.take_of_length_le (by omega), eD]; simp
  have sX : (str X).size = 29 := by rw [str_size, lX]
  have sY : (str Y).size = 29 := by rw [str_size, lY]
  have sZ : (str Z).size = 29 := by rw [str_size, lZ]
  have hP1 := fun w hT => Print_yes a (str X) w hT a0 (by omega) (by rw [hX])
  have hP2 := fun w hT => Print_yes (a + 86400) (str Y) w hT (by omega) (by omega) (by rw [hY])
  have hP3 := fun w hT => Print_yes (a + 604800) (str Z) w hT (by omega) (by omega) (by rw [hZ])
  have hW1 := fun w => When_c a y d m w a0 (by omega) hd
  have hW2 := fun w => When_c (a + 86400) u x v w (by omega) (by omega) hd2
  have d0 := hd.d0
  have d1 : d ≤ 31 := by have := hd.d1; have := Dt.ml_bd y m; omega
  have m1 : m ≤ 11 := by have := hd.m1; omega
  have y1 := hd.y1
  have y0 := hd.y0
  clear lX lY lZ tX tY tZ dX dY eXZ eXY eD hX hY hZ hd hd2
  generalize str X = SX at *
  generalize str Y = SY at *
  generalize str Z = SZ at *
  go_enter Tryd.func5, Tryd.ntmps5
  go_wp2_with fail
  refine hA.mono ?_
  rintro e w1 ⟨rfl, hb1⟩
  have hT1 := HT.out.later hb1
  clear hA
  go_wp2_with (go_at_call 13; refine (Last_c _).mono ?_; rintro e w' ⟨rfl, rfl⟩)
  refine (hP1 w1 hT1).mono ?_
  rintro e w2 ⟨rfl, hb2⟩
  have hT2 := hT1.later hb2
  have hB2 := bt hb1 hb2
  clear hT1 hb1 hb2 hP1
  go_wp2_with fail
  refine (hP2 w2 hT2).mono ?_
  rintro e w3 ⟨rfl, hb3⟩
  have hT3 := hT2.later hb3
  have hB3 := bt hB2 hb3
  clear hT2 hB2 hb3 hP2
  go_wp2_with fail
  refine (hP3 w3 hT3).mono ?_
  rintro e w4 ⟨rfl, hb4⟩
  have hB4 := bt hB3 hb4
  clear hT3 hB3 hb4 hP3
  go_wp2_with fail
  refine (hW1 _).mono ?_
  rintro e w5 ⟨rfl, hb5⟩
  have hB5 := bt hB4 hb5
  clear hB4 hb5 hW1
  go_wp2_with fail
  refine (hW2 _).mono ?_
  rintro e w6 ⟨rfl, hb6⟩
  have hB6 := bt hB5 hb6
  clear hB5 hb6 hW2
  have z3 : (3 : Int) ≤ (29 : Int) := by omega
  rcases hnext with ⟨rfl, hv, rfl⟩ | ⟨rfl, ⟨rfl, hv⟩ | ⟨rfl, hv, hm⟩⟩
  · obtain rfl : v = m := by omega
    clear hv
    go_wp2_with fail
    go_quiet (fail)
    go_wp2_with fail
    go_ret
    exact ⟨rfl, Go.below_drewN hB6 _⟩
  · obtain rfl : v = m + 1 := by omega
    have g1 : (((m + 1 : Nat) : Int) == (m : Int)) = false := beq_eq_false_iff_ne.2 (by omega)
    have g2 : (((m + 1 : Nat) : Int) == (m : Int) + 1) = true := beq_iff_eq.2 (by omega)
    have g1' : ((m : Int) + 1 == (m : Int)) = false := beq_eq_false_iff_ne.2 (by omega)
    clear hv
    go_wp2_with fail
    go_quiet (fail)
    go_wp2_with fail
    go_ret
    exact ⟨rfl, Go.below_drewN hB6 _⟩
  · obtain rfl : v = 0 := by omega
    obtain rfl : m = 11 := by omega
    have g1 : (y + 1 == y) = false := beq_eq_false_iff_ne.2 (by omega)
    clear hv hm
    go_wp2_with fail
    go_quiet (fail)
    go_wp2_with fail
    go_ret
    exact ⟨rfl, Go.below_drewN hB6 _⟩

end Go.Proofs.YtlmcolpoaedclaaDoor
