/- What lies below, out of the texts of the layers under this one: Dt1, Dt2, Dt3, Dt4, Dt5, Dt6, Dt7, Dt8, Dt9, DtMath, DtMathB, DtMathC, DtMathD, DtMathE. -/
import Derived.Test.YtoanelobggledaaGreatDoorVLi
import Derived.Test.YtoanelobggledaaGreatDoorVOctBase
import Derived.Deep.LoopGhost
import Derived.StillTailTactics
namespace Go.Proofs.YtoanelobggledaaGreatDoor
open Go.RowKit

structure DTabs (w : World) : Prop where
  base : Tabs w
  len : ∀ j, j < 12 → w.cell? ⟨3, j, none⟩ = some (.int .i64 (([31, 28, 31, 30, 31, 30, 31, 31, 30, 31, 30, 31] : List Int).getD j 0))
  day : ∀ j, j < 7 → w.cell? ⟨0, j, none⟩ = some (.string (str (Dt.dayNames.getD j [])))
  mon : ∀ j, j < 12 → w.cell? ⟨1, j, none⟩ = some (.string (str (Dt.monthNames.getD j [])))
theorem cell_later {w w' : World} {b o : Nat} {v : Value} (hb : Below w.heap.size w w') (h : w.cell? ⟨b, o, none⟩ = some v) : w'.cell? ⟨b, o, none⟩ = some v := by
  have := World.block_lt_of_cell? w _ h
  rw [hb.cell (p := ⟨b, o, none⟩) this]; exact h
theorem DTabs.later {w w' : World} (h : DTabs w) (hb : Below w.heap.size w w') : DTabs w' :=
  ⟨h.base.later hb, fun j hj => cell_later hb (h.len j hj), fun j hj => cell_later hb (h.day j hj), fun j hj => cell_later hb (h.mon j hj)⟩
set_option maxHeartbeats 400000 in
theorem weekday_c (n : Int) (w : World) (h0 : 0 ≤ n) (h1 : n ≤ 1000000000000) :
    Calls Tryz.prog 154 #[.int .i64 n] w fun e w' => e = .returned (.int .i64 (Dt.wday (n / 86400))) ∧ w = w' := by
  go_enter Tryz.func154, Tryz.ntmps154
  go_wp2
  go_ret
  exact ⟨rfl, rfl⟩
set_option maxHeartbeats 400000 in
theorem fullYear_c (n : Int) (w : World) (h0 : 0 ≤ n) (h1 : n ≤ 9999) :
    Calls Tryz.prog 199 #[.int .i64 n] w fun e w' => e = .returned (.int .i64 (Dt.full n)) ∧ w = w' := by
  go_enter Tryz.func199, Tryz.ntmps199
  go_wp2
  all_goals go_ret
  · exact ⟨ret_int (by unfold Dt.full; rw [if_pos (by assumption)]), rfl⟩
  · exact ⟨ret_int (by unfold Dt.full; rw [if_neg (by omega)]), rfl⟩
set_option maxHeartbeats 400000 in
theorem newYear_c (y : Int) (w : World) (h0 : 1970 ≤ y) (h1 : y ≤ 11899) :
    Calls Tryz.prog 200 #[.int .i64 y] w fun e w' => e = .returned (.int .i64 (Dt.ny y)) ∧ w = w' := by
  go_enter Tryz.func200, Tryz.ntmps200
  go_wp2
  go_ret
  exact ⟨ret_int (by unfold Dt.ny; omega), rfl⟩
set_option maxHeartbeats 400000 in
theorem newYear_t (y : Int) (w : World) (h0 : 0 ≤ y) (h1 : y ≤ 11899) :
    Calls Tryz.prog 200 #[.int .i64 y] w fun e w' => e = .returned (.int .i64 (Dt.nyT y)) ∧ w = w' := by
  by_cases h : 1970 ≤ y
  · rw [Dt.nyT_ny h]; exact newYear_c y w h h1
  · have h2 : y ≤ 1969 := by omega
    have hb := Dt.nyT_bd y h0 h1
    have a : (y - 1969).tdiv 4 ≤ 10000 ∧ -1000 ≤ (y - 1969).tdiv 4 := by
      rw [Int.tdiv_eq_ediv]; split <;> (have := Int.sign_eq_one_of_pos (a := (4 : Int)) (by omega)) <;> omega
    have b : (y - 1901).tdiv 100 ≤ 10000 ∧ -1000 ≤ (y - 1901).tdiv 100 := by
      rw [Int.tdiv_eq_ediv]; split <;> (have := Int.sign_eq_one_of_pos (a := (100 : Int)) (by omega)) <;> omega
    have c : (y - 1601).tdiv 400 ≤ 10000 ∧ -1000 ≤ (y - 1601).tdiv 400 := by
      rw [Int.tdiv_eq_ediv]; split <;> (have := Int.sign_eq_one_of_pos (a := (400 : Int)) (by omega)) <;> omega
    obtain ⟨a1, a2⟩ := a
    obtain ⟨b1, b2⟩ := b
    obtain ⟨c1, c2⟩ := c
    clear h
    go_enter Tryz.func200, Tryz.ntmps200
    go_wp2
    go_ret
    exact ⟨ret_int (by unfold Dt.nyT; omega), rfl⟩
theorem ml_tab (y : Int) (j : Nat) (h : j < 12) (hl : ¬ (j = 1 ∧ Dt.lp y = 1)) : Dt.ml y j = ([31, 28, 31, 30, 31, 30, 31, 31, 30, 31, 30, 31] : List Int).getD j 0 := by
  have hb := Dt.lp_01 y
  have : j = 0 ∨ j = 1 ∨ j = 2 ∨ j = 3 ∨ j = 4 ∨ j = 5 ∨ j = 6 ∨ j = 7 ∨ j = 8 ∨ j = 9 ∨ j = 10 ∨ j = 11 := by omega
  rcases this with rfl | rfl | rfl | rfl | rfl | rfl | rfl | rfl | rfl | rfl | rfl | rfl
  all_goals first
    | (show 28 + Dt.lp y = 28; omega)
    | rfl
set_option maxHeartbeats 1000000 in
theorem monthDays_c (y : Int) (j : Nat) (w : World) (hT : DTabs w) (h0 : 0 ≤ y) (h1 : y ≤ 11899) (hj : j < 12) :
    Calls Tryz.prog 201 #[.int .i64 y, .int .i64 j] w fun e w' => e = .returned (.int .i64 (Dt.ml y j)) ∧ w = w' := by
  have hc := hT.len j hj
  clear hT
  by_cases hm : j = 1 ∧ Dt.lp y = 1
  · obtain ⟨rfl, hl⟩ := hm
    have hlp : y % 4 = 0 ∧ (¬ y % 100 = 0 ∨ y % 400 = 0) := by
      unfold Dt.lp at hl
      split at hl
      · assumption
      · omega
    have hR : Hid (Dt.ml y ((1 : Nat) : Int) = 29) := by show 28 + Dt.lp y = 29; omega
    clear hl hc
    obtain ⟨h4, h100⟩ := hlp
    by_cases g : y % 100 = 0
    · have g400 : y % 400 = 0 := by omega
      clear h100
      go_enter Tryz.func201, Tryz.ntmps201
      go_wp2
      go_ret
      exact ⟨ret_int hR.out.symm, rfl⟩
    · clear h100
      have g' : (y % 100 == 0) = false := beq_eq_false_iff_ne.2 g
      have g2 : (y % 100 != 0) = true := by rw [bne, g']; rfl
      go_enter Tryz.func201, Tryz.ntmps201
      go_wp2
      go_ret
      exact ⟨ret_int hR.out.symm, rfl⟩
  · have hR : Hid (Dt.ml y j = ([31, 28, 31, 30, 31, 30, 31, 31, 30, 31, 30, 31] : List Int).getD j 0) := ml_tab y j hj hm
    obtain ⟨v, hv⟩ : ∃ v, ([31, 28, 31, 30, 31, 30, 31, 31, 30, 31, 30, 31] : List Int).getD j 0 = v := ⟨_, rfl⟩
    rw [hv] at hc hR
    clear hv
    by_cases h1' : j = 1
    · have hl : Dt.lp y = 0 := by have := Dt.lp_01 y; omega
      subst h1'
      clear hm
      by_cases h4 : y % 4 = 0
      · have hq : y % 100 = 0 ∧ ¬ y % 400 = 0 := by
          unfold Dt.lp at hl
          split at hl
          · omega
          · omega
        obtain ⟨q1, q2⟩ := hq
        have q3 : (y % 400 == 0) = false := beq_eq_false_iff_ne.2 q2
        clear hl q2
        go_enter Tryz.func201, Tryz.ntmps201
        go_wp2
        go_ret
        exact ⟨ret_int hR.out.symm, rfl⟩
      · have q3 : (y % 4 == 0) = false := beq_eq_false_iff_ne.2 h4
        clear hl h4
        go_enter Tryz.func201, Tryz.ntmps201
        go_wp2
        go_ret
        exact ⟨ret_int hR.out.symm, rfl⟩
    · have hne : ((j : Int) == 1) = false := beq_eq_false_iff_ne.2 (by omega)
      clear hm h1'
      go_enter Tryz.func201, Tryz.ntmps201
      go_wp2
      go_ret
      exact ⟨ret_int hR.out.symm, rfl⟩
end Go.Proofs.YtoanelobggledaaGreatDoor

namespace Go.Proofs.YtoanelobggledaaGreatDoor
open Go.RowKit

theorem cum_step (y : Int) (k : Nat) (h : k < 12) : Dt.cum y ((k : Int) + 1) = Dt.cum y k + Dt.ml y k := Dt.cum_succ y k (by omega) (by omega)
theorem quiet {f : FuncId} {args : Array Value} {r : Ending} {W : World} (n : Nat) (h : Calls Tryz.prog f args (W.drewN n) fun e w' => e = r ∧ W.drewN n = w') : Calls Tryz.prog f args (W.drewN n) fun e w' => e = r ∧ ∃ m, w' = W.drewN m :=
  h.mono (by rintro e w' ⟨he, rfl⟩; exact ⟨he, n, rfl⟩)
set_option maxHeartbeats 1000000 in
theorem moment_c (y d h mi se : Int) (m : Nat) (w : World) (hT : DTabs w) (y0 : 0 ≤ y) (y1 : y ≤ 11899) (hm : m < 12) (d0 : 0 ≤ d) (d1 : d ≤ 11899) (h0 : 0 ≤ h) (h1 : h ≤ 11899) (i0 : 0 ≤ mi) (i1 : mi ≤ 11899) (s0 : 0 ≤ se) (s1 : se ≤ 11899) :
    Calls Tryz.prog 152 #[.agg #[.int .i64 y, .int .i64 m, .int .i64 d, .int .i64 h, .int .i64 mi, .int .i64 se]] w fun e w' => e = .returned (.int .i64 (Dt.mom y m d h mi se)) ∧ Below w.heap.size w w' := by
  have hn := Dt.nyT_bd y y0 y1
  obtain ⟨n0, n1⟩ := hn
  obtain ⟨N, hN⟩ : ∃ N, Dt.nyT y = N := ⟨_, rfl⟩
  have hB : Below w.heap.size w (w.alloc (.cells #[.int .i64 y, .int .i64 m, .int .i64 d, .int .i64 h, .int .i64 mi, .int .i64 se] 157)) := (Below.refl _ _).alloc (Nat.le_refl _) _
  have HT := Lib.hid (hT.later hB)
  have HB := Lib.hid hB
  have hY := newYear_t y
  rw [hN] at hY n0 n1
  have HN := Lib.hid hN
  clear hT hB hN
  go_enter Tryz.func152, Tryz.ntmps152
  go_wp2_with fail
  go_quiet ((go_at_call 200; exact quiet _ (hY _ y0 y1)))
  go_wp2_with fail
  have HD := Lib.hid (HT.out.later (Go.below_drewN (Below.refl _ _) nq))
  clear HT hY
  go_loop [3, 14] (fun x i => ∃ k : Nat, k ≤ m ∧ i = .int .i64 k ∧ x = .int .i64 (N + d - 1 + Dt.cum y k)) (fun _ i => m - (intOf i).toNat)
  case atStart => exact ⟨0, by omega, rfl, by rw [show ((0 : Nat) : Int) = 0 by rfl, Dt.cum_zero, Int.add_zero]⟩
  case round =>
    obtain ⟨k, hk, rfl, rfl⟩ := hrel
    have hcb := Dt.cum_bd y k
    obtain ⟨c0, c1⟩ := hcb
    by_cases hlt : k < m
    · have hlb := Dt.ml_bd y k
      obtain ⟨l0, l1⟩ := hlb
      have HS := Lib.hid (cum_step y k (by omega))
      go_wp2_with (go_at_call 201; refine (monthDays_c y k _ HD.out y0 y1 (by omega)).mono ?_; rintro e w' ⟨rfl, rfl⟩)
      go_round
      case rel => exact ⟨k + 1, by omega, by go_num, by rw [Int.natCast_add, Int.natCast_one, HS.out, Int.add_assoc]⟩
      case measure => simp [intOf]; omega
    · obtain rfl : k = m := by omega
      go_wp2_with fail
      go_ret
      exact ⟨ret_int (by unfold Dt.mom; rw [HN.out]), Go.below_drewN HB.out nq⟩
def partsV (y m d s : Int) : Value := .agg #[.int .i64 y, .int .i64 m, .int .i64 d, .int .i64 (s / 3600), .int .i64 (s / 60 % 60), .int .i64 (s % 60)]
set_option maxHeartbeats 1600000 in
theorem calendar_c (a y d : Int) (m : Nat) (w : World) (hT : DTabs w) (a0 : 0 ≤ a) (a1 : a ≤ 253402300799) (hd : Dt.IsDate (a / 86400) y m d) :
    Calls Tryz.prog 153 #[.int .i64 a] w fun e w' => e = .returned (partsV y m d (a % 86400)) ∧ Below w.heap.size w w' := by
  have hB : Below w.heap.size w (w.alloc (.cells #[.int .i64 0, .int .i64 0, .int .i64 0, .int .i64 0, .int .i64 0, .int .i64 0] 157)) := (Below.refl _ _).alloc (Nat.le_refl _) _
  have HT := Lib.hid (hT.later hB)
  have HB := Lib.hid hB
  have HG := Lib.hid (Dt.ny_guess (a / 86400) (by omega))
  have HY := Lib.hid hd.in_year
  have HM := Lib.hid hd.in_month
  have y0 := hd.y0
  have y1 := hd.y1
  have hm : m < 12 := by have := hd.m1; omega
  have HE := Lib.hid hd.n_
  have hny := Dt.ny_bd y y0 (by omega)
  obtain ⟨ny0, ny1⟩ := hny
  clear hT hB hd
  go_enter Tryz.func153, Tryz.ntmps153
  go_wp2_with fail
  go_loop [5] (fun t => ∃ z : Int, 1970 ≤ z ∧ z ≤ y ∧ t = .int .i64 z ∧ Hid (Dt.ny z ≤ a / 86400)) (fun t => (y - intOf t).toNat)
  case atStart => exact ⟨1970 + a / 86400 / 366, by omega, by
    have h1 := HG.out
    rcases Int.lt_or_le y (1970 + a / 86400 / 366) with g | g
    · have := Dt.ny_mono (y + 1) (1970 + a / 86400 / 366) (by omega)
      have := HY.out; omega
    · exact g, rfl, HG⟩
  case round =>
    obtain ⟨z, z0, z1, rfl, HZ⟩ := hrel
    by_cases hc : Dt.ny (z + 1) ≤ a / 86400
    · have hz : z < y := by
        rcases Int.lt_or_le z y with g | g
        · exact g
        · have := Dt.ny_mono (y + 1) (z + 1) (by omega)
          have := HY.out; omega
      have HZ' := Lib.hid hc
      go_wp2_with (go_at_call 200; refine (newYear_c _ _ (by omega) (by omega)).mono ?_; rintro e w' ⟨rfl, rfl⟩)
      go_round
      case rel => exact ⟨z + 1, by omega, by omega, by go_num, HZ'⟩
      case measure => simp [intOf]; omega
    · obtain rfl : z = y := by
        rcases Int.lt_or_le z y with g | g
        · have := Dt.ny_mono (z + 1) y (by omega)
          have := HY.out; omega
        · omega
      have hc' : a / 86400 < Dt.ny (z + 1) := by omega
      have hle := HZ.out
      clear hc
      go_wp2_with (go_at_call 200; refine (newYear_c _ _ (by omega) (by omega)).mono ?_; rintro e w' ⟨rfl, rfl⟩)
      go_loop [3, 6] (fun r k => ∃ j : Nat, j ≤ m ∧ k = .int .i64 j ∧ r = .int .i64 (a / 86400 - Dt.ny z - Dt.cum z j)) (fun _ k => m - (intOf k).toNat)
      case atStart => exact ⟨0, by omega, rfl, by rw [show ((0 : Nat) : Int) = 0 by rfl, Dt.cum_zero, Int.sub_zero]⟩
      case round =>
        obtain ⟨j, hj, rfl, rfl⟩ := hrel
        have hcb := Dt.cum_bd z j
        obtain ⟨c0, c1⟩ := hcb
        have hlb := Dt.ml_bd z j
        obtain ⟨l0, l1⟩ := hlb
        have HS := Lib.hid (cum_step z j (by omega))
        by_cases hlt : j < m
        · have hge : Dt.ml z j ≤ a / 86400 - Dt.ny z - Dt.cum z j := by
            have h1 := HS.out
            have h2 := HM.out.1
            have h3 := Dt.cum_mono z ((j : Int) + 1) m (by omega) (by omega) (by omega)
            omega
          go_wp2_with (go_at_call 201; refine (monthDays_c z j _ HT.out (by omega) (by omega) (by omega)).mono ?_; rintro e w' ⟨rfl, rfl⟩)
          go_round
          case rel => exact ⟨j + 1, by omega, by go_num, by rw [Int.natCast_add, Int.natCast_one, HS.out]; go_num⟩
          case measure => simp [intOf]; omega
        · obtain rfl : j = m := by omega
          have hge : a / 86400 - Dt.ny z - Dt.cum z j < Dt.ml z j := by
            have h1 := HS.out
            have h2 := HM.out.2
            omega
          have hnn : 0 ≤ a / 86400 - Dt.ny z - Dt.cum z j := by
            have h2 := HM.out.1
            omega
          have hdd : Hid (a / 86400 - Dt.ny z - Dt.cum z j + 1 = d) := by have := HE.out; show _ = _; omega
          go_wp2_with (go_at_call 201; refine (monthDays_c z j _ HT.out (by omega) (by omega) (by omega)).mono ?_; rintro e w' ⟨rfl, rfl⟩)
          refine bodyPost_ret (v := partsV z j (a / 86400 - Dt.ny z - Dt.cum z j + 1) (a % 86400)) (by simp [results, Tryz.results153, go_sem, partsV]) rfl ⟨by rw [hdd.out], ?_⟩
          exact (Below.refl _ _).alloc (Nat.le_refl _) _
end Go.Proofs.YtoanelobggledaaGreatDoor

namespace Go.Proofs.YtoanelobggledaaGreatDoor
open Go.RowKit

theorem formatSmall (u : Nat) (w : World) (hu : u < 100) :
    Calls Tryz.prog 202 #[.int .i64 u, .int .i64 10] w fun e w' => e = .returned (.string (str (Oct.dgs 10 u))) ∧ w = w' := by
  refine (Tryz.strconv_FormatInt_10_small u hu w).mono ?_
  rintro e w' ⟨rfl, rfl⟩
  refine ⟨?_, rfl⟩
  rw [Oct.dgs_dec]; rfl
set_option maxHeartbeats 400000 in
theorem Print_small (n : Nat) (w : World) (hn : n < 100) :
    Calls Tryz.prog 155 #[.int .i64 n, .int .i64 10] w fun e w' => e = .returned (.string (str (Oct.dgs 10 n))) ∧ w = w' := by
  have hmax : max (n : Int) 0 = (n : Int) := by omega
  go_enter Tryz.func155, Tryz.ntmps155
  go_wp2_with fail
  refine (formatSmall n w hn).mono ?_
  rintro e w1 ⟨rfl, rfl⟩
  go_wp2_with fail
  go_ret
  exact ⟨rfl, rfl⟩
theorem dgs1 (n : Nat) (h : n < 10) : Oct.dgs 10 n = [Dt.dc n] := by rw [Oct.dgs_last h]; rfl
theorem dgs2 (n : Nat) (h : 10 ≤ n) (h2 : n < 100) : Oct.dgs 10 n = Dt.d2 n := by
  rw [Oct.dgs_more (by decide) h, Oct.dgs_last (by omega)]
  unfold Dt.d2 Dt.dc
  simp
  constructor
  · congr 1
  · congr 1
theorem dgs4 (n : Nat) (h : 1000 ≤ n) (h2 : n < 10000) : Oct.dgs 10 n = Dt.d4 n := by
  rw [Oct.dgs_more (by decide) (by omega), Oct.dgs_more (by decide) (by omega), Oct.dgs_more (by decide) (by omega), Oct.dgs_last (by omega)]
  unfold Dt.d4 Dt.dc
  simp
  refine ⟨?_, ?_, ?_, ?_⟩ <;> congr 1 <;> omega
def twoL (n : Int) (ahead : UInt8) : List UInt8 := if n < 10 then [ahead, Dt.dc n] else Dt.d2 n
theorem two_zero (n : Int) (h0 : 0 ≤ n) (h : n < 100) : twoL n 48 = Dt.d2 n := by
  unfold twoL
  split
  · unfold Dt.d2
    have : n / 10 = 0 := by omega
    have h2 : n % 10 = n := by omega
    rw [this, h2]; rfl
  · rfl
theorem two_blank (n : Int) (h0 : 0 ≤ n) (h : n < 100) : twoL n 32 = Dt.db n := by
  unfold twoL Dt.db
  split
  · have h2 : n % 10 = n := by omega
    rw [h2]
  · rfl
set_option maxHeartbeats 400000 in
theorem two_c (n : Int) (c : UInt8) (w : World) (h0 : 0 ≤ n) (hn : n < 100) :
    Calls Tryz.prog 156 #[.int .i64 n, .string ⟨#[c]⟩] w fun e w' => e = .returned (.string (str (twoL n c))) ∧ w = w' := by
  obtain ⟨n, rfl⟩ : ∃ k : Nat, n = k := ⟨n.toNat, by omega⟩
  have hn' : n < 100 := by omega
  by_cases h : n < 10
  · have hs : (str (Oct.dgs 10 n)).size = 1 := by rw [str_size, dgs1 n h]; rfl
    have HR : Hid ((⟨#[c]⟩ : ByteArray) ++ str (Oct.dgs 10 n) = str (twoL n c)) := by
      show _ = _
      rw [show (⟨#[c]⟩ : ByteArray) = str [c] from rfl, str_cons, str_list, dgs1 n h]
      unfold twoL; rw [if_pos (by omega)]
    obtain ⟨x, hx⟩ : ∃ x, str (Oct.dgs 10 n) = x := ⟨_, rfl⟩
    have HP := Print_small n
    rw [hx] at hs HR HP
    clear hx
    go_enter Tryz.func156, Tryz.ntmps156
    go_wp2_with (go_at_call 155; refine (HP _ hn').mono ?_; rintro e w' ⟨rfl, rfl⟩)
    go_ret
    exact ⟨ret_str HR.out, rfl⟩
  · have hs : (str (Oct.dgs 10 n)).size = 2 := by rw [str_size, dgs2 n (by omega) hn']; rfl
    have HR : Hid (str (Oct.dgs 10 n) = str (twoL n c)) := by
      show _ = _
      rw [dgs2 n (by omega) hn']
      unfold twoL; rw [if_neg (by omega)]
    obtain ⟨x, hx⟩ : ∃ x, str (Oct.dgs 10 n) = x := ⟨_, rfl⟩
    have HP := Print_small n
    rw [hx] at hs HR HP
    clear hx
    go_enter Tryz.func156, Tryz.ntmps156
    go_wp2_with (go_at_call 155; refine (HP _ hn').mono ?_; rintro e w' ⟨rfl, rfl⟩)
    go_ret
    exact ⟨ret_str HR.out, rfl⟩
theorem two0 (n : Int) (w : World) (h0 : 0 ≤ n) (hn : n < 100) :
    Calls Tryz.prog 156 #[.int .i64 n, .string ⟨#[48]⟩] w fun e w' => e = .returned (.string (str (Dt.d2 n))) ∧ w = w' := by
  have := two_c n 48 w h0 hn; rw [two_zero n h0 hn] at this; exact this
theorem twoB (n : Int) (w : World) (h0 : 0 ≤ n) (hn : n < 100) :
    Calls Tryz.prog 156 #[.int .i64 n, .string ⟨#[32]⟩] w fun e w' => e = .returned (.string (str (Dt.db n))) ∧ w = w' := by
  have := two_c n 32 w h0 hn; rw [two_blank n h0 hn] at this; exact this
theorem Print_year (y : Int) (w : World) (hT : Tabs w) (h0 : 1000 ≤ y) (h1 : y < 10000) :
    Calls Tryz.prog 155 #[.int .i64 y, .int .i64 10] w fun e w' => e = .returned (.string (str (Dt.d4 y))) ∧ Below w.heap.size w w' := by
  obtain ⟨n, rfl⟩ : ∃ k : Nat, y = k := ⟨y.toNat, by omega⟩
  have := Print_s n 10 w (by omega) hT
  have e : Oct.print n 10 = Dt.d4 n := by
    unfold Oct.print Oct.base
    rw [if_neg (by decide), Int.toNat_natCast, dgs4 n (by omega) (by omega)]
  rw [e] at this
  exact this
end Go.Proofs.YtoanelobggledaaGreatDoor

namespace Go.Proofs.YtoanelobggledaaGreatDoor
open Go.RowKit

theorem str_app (a b : List UInt8) : str a ++ str b = str (a ++ b) := by
  rw [← str_of (str a ++ str b), app_list, str_list, str_list]
theorem str_ext (a : List UInt8) (f k : Nat) : (str a).extract f k = str ((a.take k).drop f) := by
  rw [← str_of ((str a).extract f k), Dt.ext_list, str_list]
theorem cat0 (dn ad mn yn h i s : List UInt8) : (str dn).extract 0 3 ++ (⟨#[44, 32]⟩ : ByteArray) ++ str ad ++ ⟨#[32]⟩ ++ str mn ++ ⟨#[32]⟩ ++ str yn ++ ⟨#[32]⟩ ++ (str h ++ (⟨#[58]⟩ : ByteArray) ++ str i ++ ⟨#[58]⟩ ++ str s) ++ ⟨#[32, 71, 77, 84]⟩ =
    str (dn.take 3 ++ 44 :: (32 :: (ad ++ 32 :: (mn ++ 32 :: (yn ++ 32 :: ((h ++ 58 :: (i ++ 58 :: s)) ++ 32 :: Dt.gmt)))))) := by
  rw [show (⟨#[44, 32]⟩ : ByteArray) = str [44, 32] from rfl, show (⟨#[32]⟩ : ByteArray) = str [32] from rfl, show (⟨#[58]⟩ : ByteArray) = str [58] from rfl, show (⟨#[32, 71, 77, 84]⟩ : ByteArray) = str [32, 71, 77, 84] from rfl]
  simp only [str_app, str_ext]
  congr 1
  simp [Dt.gmt]
theorem cat1 (dn ad mn yn h i s y2 : List UInt8) (hy : yn.drop 2 = y2 ∧ yn.length = 4) : str dn ++ (⟨#[44, 32]⟩ : ByteArray) ++ str ad ++ ⟨#[45]⟩ ++ str mn ++ ⟨#[45]⟩ ++ (str yn).extract 2 4 ++ ⟨#[32]⟩ ++ (str h ++ (⟨#[58]⟩ : ByteArray) ++ str i ++ ⟨#[58]⟩ ++ str s) ++ ⟨#[32, 71, 77, 84]⟩ =
    str (dn ++ 44 :: (32 :: (ad ++ 45 :: (mn ++ 45 :: (y2 ++ 32 :: ((h ++ 58 :: (i ++ 58 :: s)) ++ 32 :: Dt.gmt)))))) := by
  have e : (yn.take 4).drop 2 = y2 := by rw [List.take_of_length_le (by omega)]; exact hy.1
  rw [show (⟨#[44, 32]⟩ : ByteArray) = str [44, 32] from rfl, show (⟨#[32]⟩ : ByteArray) = str [32] from rfl, show (⟨#[45]⟩ : ByteArray) = str [45] from rfl, show (⟨#[58]⟩ : ByteArray) = str [58] from rfl, show (⟨#[32, 71, 77, 84]⟩ : ByteArray) = str [32, 71, 77, 84] from rfl]
  simp only [str_app, str_ext, e]
  congr 1
  simp [Dt.gmt]
theorem cat2 (dn ad mn yn h i s : List UInt8) : (str dn).extract 0 3 ++ (⟨#[32]⟩ : ByteArray) ++ str mn ++ ⟨#[32]⟩ ++ str ad ++ ⟨#[32]⟩ ++ (str h ++ (⟨#[58]⟩ : ByteArray) ++ str i ++ ⟨#[58]⟩ ++ str s) ++ ⟨#[32]⟩ ++ str yn =
    str (dn.take 3 ++ 32 :: (mn ++ 32 :: (ad ++ 32 :: ((h ++ 58 :: (i ++ 58 :: s)) ++ 32 :: yn)))) := by
  rw [show (⟨#[32]⟩ : ByteArray) = str [32] from rfl, show (⟨#[58]⟩ : ByteArray) = str [58] from rfl]
  simp only [str_app, str_ext]
  congr 1
  simp
theorem d4_drop (y : Int) (_h0 : 0 ≤ y) : (Dt.d4 y).drop 2 = Dt.d2 (y % 100) ∧ (Dt.d4 y).length = 4 := by
  refine ⟨?_, rfl⟩
  unfold Dt.d4 Dt.d2
  simp only [List.drop_succ_cons, List.drop_zero]
  rw [show y % 100 / 10 = y / 10 % 10 by omega, show y % 100 % 10 = y % 10 by omega]
set_option maxHeartbeats 16000000 in
set_option maxRecDepth 100000 in
theorem forms_c (a y d : Int) (m : Nat) (w : World) (hT : DTabs w) (a0 : 0 ≤ a) (a1 : a ≤ 253402300799) (hd : Dt.IsDate (a / 86400) y m d) :
    Calls Tryz.prog 115 #[.int .i64 a] w fun e w' => e = .returned (.agg #[.string (str (Dt.form a 0)), .string (str (Dt.form a 1)), .string (str (Dt.form a 2))]) ∧ Below w.heap.size w w' := by
  obtain ⟨s, hs⟩ : ∃ s, a % 86400 = s := ⟨_, rfl⟩
  have s0 : 0 ≤ s := by omega
  have s1 : s < 86400 := by omega
  obtain ⟨k, hk⟩ : ∃ k : Nat, Dt.wday (a / 86400) = k := ⟨(Dt.wday (a / 86400)).toNat, by have := Dt.wday_bd (a / 86400); omega⟩
  have hk7 : k < 7 := by have := Dt.wday_bd (a / 86400); omega
  have HF : Hid (Dt.form a 0 = Dt.f0 y m d k s ∧ Dt.form a 1 = Dt.f1 y m d k s ∧ Dt.form a 2 = Dt.f2 y m d k s) := by
    rw [Dt.form0 hd, Dt.form1 hd, Dt.form2 hd, hk, hs]; exact ⟨rfl, rfl, rfl⟩
  have hWd := weekday_c a
  rw [hk] at hWd
  have y0 := hd.y0
  have y1 := hd.y1
  have hm : m < 12 := by have := hd.m1; omega
  have d0 := hd.d0
  have d1 : d ≤ 31 := by have := hd.d1; have := Dt.ml_bd y m; omega
  obtain ⟨W, hW⟩ : ∃ W, w.alloc (.cells #[.string ⟨#[]⟩, .string ⟨#[]⟩, .string ⟨#[]⟩] 128) = W := ⟨_, rfl⟩
  have hR : W.heap[w.heap.size]? = some (.cells #[.string ⟨#[]⟩, .string ⟨#[]⟩, .string ⟨#[]⟩] 128) := by rw [← hW]; exact heap_alloc_new w _
  have hB : Below w.heap.size w W := by rw [← hW]; exact (Below.refl _ _).alloc (Nat.le_refl _) _
  have hC := calendar_c a y d m W (hT.later hB) a0 a1 hd
  rw [hs] at hC
  unfold partsV at hC
  go_enter Tryz.func115, Tryz.ntmps115
  go_wp2_with fail
  refine hC.mono ?_
  rintro e w1 ⟨rfl, hb1⟩
  have HB1 := Lib.hid (hB.trans (hb1.mono hB.size))
  have hT1 := hT.later HB1.out
  clear hT hC hd hs hW hk
  go_wp2_with fail
  have hb2 : Below w1.heap.size w1 (w1.alloc (.cells #[.int .i64 y, .int .i64 m, .int .i64 d, .int .i64 (s / 3600), .int .i64 (s / 60 % 60), .int .i64 (s % 60)] 157)) := (Below.refl _ _).alloc (Nat.le_refl _) _
  have hg := heap_alloc_new w1 (.cells #[.int .i64 y, .int .i64 m, .int .i64 d, .int .i64 (s / 3600), .int .i64 (s / 60 % 60), .int .i64 (s % 60)] 157)
  generalize hw2 : w1.alloc (.cells #[.int .i64 y, .int .i64 m, .int .i64 d, .int .i64 (s / 3600), .int .i64 (s / 60 % 60), .int .i64 (s % 60)] 157) = w2 at hb2 hg ⊢
  have hT2 := hT1.later hb2
  clear hT1 hw2
  have hP (j : Nat) (v : Value) (h : (#[.int .i64 y, .int .i64 m, .int .i64 d, .int .i64 (s / 3600), .int .i64 (s / 60 % 60), .int .i64 (s % 60)] : Array Value)[j]? = some v) : w2.cell? ⟨w1.heap.size, j, none⟩ = some v := by
    simp only [World.cell?, hg]; exact h
  obtain ⟨DN, hDN⟩ : ∃ x, str (Dt.dayNames.getD k []) = x := ⟨_, rfl⟩
  obtain ⟨MN, hMN⟩ : ∃ x, str (Dt.monthNames.getD m []) = x := ⟨_, rfl⟩
  obtain ⟨YN, hYN⟩ : ∃ x, str (Dt.d4 y) = x := ⟨_, rfl⟩
  obtain ⟨HN, hHN⟩ : ∃ x, str (Dt.d2 (s / 3600)) = x := ⟨_, rfl⟩
  obtain ⟨IN, hIN⟩ : ∃ x, str (Dt.d2 (s / 60 % 60)) = x := ⟨_, rfl⟩
  obtain ⟨SN, hSN⟩ : ∃ x, str (Dt.d2 (s % 60)) = x := ⟨_, rfl⟩
  obtain ⟨AN, hAN⟩ : ∃ x, str (Dt.d2 d) = x := ⟨_, rfl⟩
  obtain ⟨BN, hBN⟩ : ∃ x, str (Dt.db d) = x := ⟨_, rfl⟩
  have hPY := Print_year y
  have hPH := two0 (s / 3600)
  have hPI := two0 (s / 60 % 60)
  have hPS := two0 (s % 60)
  have hPA := two0 d
  have hPB := twoB d
  rw [hYN] at hPY
  rw [hHN] at hPH
  rw [hIN] at hPI
  rw [hSN] at hPS
  rw [hAN] at hPA
  rw [hBN] at hPB
  have zD : 6 ≤ DN.size ∧ DN.size ≤ 9 := by rw [← hDN, str_size]; have := (Dt.dayN_all (w := k) (by omega) (by omega)).2.2; exact this
  have zM : MN.size = 3 := by rw [← hMN, str_size]; have := (Dt.monN_all (m := m) (by omega) (by omega)).2; exact this
  have zY : YN.size = 4 := by rw [← hYN, str_size]; rfl
  have zH : HN.size = 2 := by rw [← hHN, str_size]; rfl
  have zI : IN.size = 2 := by rw [← hIN, str_size]; rfl
  have zS : SN.size = 2 := by rw [← hSN, str_size]; rfl
  have zA : AN.size = 2 := by rw [← hAN, str_size]; rfl
  have zB : BN.size = 2 := by rw [← hBN, str_size]; rfl
  obtain ⟨zD1, zD2⟩ := zD
  have zD3 : (3 : Int) ≤ (DN.size : Int) := by omega
  have zD4 : min 3 DN.size = 3 := by omega
  have p0 := fun p : LateOf w2 => p.cell (hP 0 _ rfl)
  have p1 := fun p : LateOf w2 => p.cell (hP 1 _ rfl)
  have q0 := fun p : LateOf w2 => p.cell (hT2.day k hk7)
  have q1 := fun p : LateOf w2 => p.cell (hT2.mon m hm)
  rw [hDN] at q0
  rw [hMN] at q1
  have HE := Lib.hid (And.intro hDN (And.intro hMN (And.intro hYN (And.intro hHN (And.intro hIN (And.intro hSN (And.intro hAN hBN)))))))
  clear hDN hMN hYN hHN hIN hSN hAN hBN
  have HT := Lib.hid hT2.base
  have hk7' : (k : Int) < 7 := by omega
  have hm' : (m : Int) < 12 := by omega
  refine wp_region_late (by kernel_rfl) (by kernel_rfl) ?_
  repeat (quiet_step (first
    | (go_at_call 154; exact late_same _ (hWd _ a0 (by omega)))
    | (go_at_call 155; exact late _ (hPY _ (HT.out.later (LateOf.h _)) (by omega) (by omega)))))
  refine wpQuiet_nil ?_
  intro w3 hw'
  have hb3 : Below w2.heap.size w2 w3 := by obtain ⟨p, rfl⟩ := hw'; exact p.h
  clear hw' p0 p1 q0 q1 hWd hPY HT hT2
  have c2 := cell_later hb3 (hP 2 _ rfl)
  have c3 := cell_later hb3 (hP 3 _ rfl)
  have c4 := cell_later hb3 (hP 4 _ rfl)
  have c5 := cell_later hb3 (hP 5 _ rfl)
  clear hP
  go_wp2_with fail
  go_quiet ((first
    | (go_at_call 156; with_reducible exact quiet _ (hPH _ (by omega) (by omega)))
    | (go_at_call 156; with_reducible exact quiet _ (hPI _ (by omega) (by omega)))
    | (go_at_call 156; with_reducible exact quiet _ (hPS _ (by omega) (by omega)))))
  go_wp2_with fail
  have hbW : Below W.heap.size W w3 := hb1.trans (hb2.trans (hb3.mono hb2.size) |>.mono hb1.size)
  have hR3 : (w3.drewN nq).heap[w.heap.size]? = some (.cells #[.string ⟨#[]⟩, .string ⟨#[]⟩, .string ⟨#[]⟩] 128) := by
    show w3.heap[w.heap.size]? = _
    rw [hbW.block _ (lt_of_block hR)]; exact hR
  have HB := Lib.hid (hB.trans (hbW.mono hB.size) |> fun h => Go.below_drewN h nq)
  have c2' : (w3.drewN nq).cell? ⟨w1.heap.size, 2, none⟩ = some (.int .i64 d) := c2
  generalize w3.drewN nq = w4 at hR3 HB c2' ⊢
  clear hR hB hb1 hb2 hb3 hbW hg c2 c3 c4 c5 hPH hPI hPS
  obtain ⟨TN, hTN⟩ : ∃ x, HN ++ (⟨#[58]⟩ : ByteArray) ++ IN ++ ⟨#[58]⟩ ++ SN = x := ⟨_, rfl⟩
  have zT : TN.size = 8 := by rw [← hTN]; simp [zH, zI, zS]; rfl
  rw [hTN]
  have HT := Lib.hid hTN
  clear hTN zH zI zS
  have r0 : w4.cell? ⟨w.heap.size, 0, none⟩ = some (.string ⟨#[]⟩) := by simp only [World.cell?, hR3]; rfl
  have r1 : w4.cell? ⟨w.heap.size, 1, none⟩ = some (.string ⟨#[]⟩) := by simp only [World.cell?, hR3]; rfl
  have r2 : w4.cell? ⟨w.heap.size, 2, none⟩ = some (.string ⟨#[]⟩) := by simp only [World.cell?, hR3]; rfl
  have fz : ∀ j, w4.frozen? ⟨w.heap.size, j, none⟩ = false := by intro j; simp only [World.frozen?, hR3]; simp
  refine wp_region_still_tail 51 (by kernel_rfl) (by kernel_rfl) ?_
  simp only [List.take_succ_cons, List.take_zero, List.drop_succ_cons, List.drop_zero]
  have big (Z : ByteArray) (n : Nat) (h : Z.size ≤ 100) (h' : n ≤ 1000) : ¬ 9223372036854775807 < Z.size + n := by omega
  have hD := fun n h => big DN n (by omega) h
  have zD5 : (DN.extract 0 3).size = 3 := by simp [zD4]
  have zY5 : (YN.extract 2 4).size = 2 := by simp [zY]
  still_step
  still_step
  refine wpStill_step (fun K hK => ?_)
  go_simp
  refine hK _ ?_
  clear hK K
  generalize hA1 : (HAppend.hAppend (DN.extract 0 3) _ : ByteArray) = A1
  have zA1 : A1.size = 5 := by rw [← hA1, ByteArray.size_append, zD5]; try rfl
  have HA1 := Lib.hid hA1
  clear hA1
  still_step
  still_step
  still_call (same (hPA _ (by omega) (by omega)))
  refine wpStill_step (fun K hK => ?_)
  go_simp
  refine hK _ ?_
  clear hK K
  generalize hA2 : (HAppend.hAppend A1 _ : ByteArray) = A2
  have zA2 : A2.size = 7 := by rw [← hA2, ByteArray.size_append, zA1, zA]; try rfl
  have HA2 := Lib.hid hA2
  clear hA2
  refine wpStill_step (fun K hK => ?_)
  go_simp
  refine hK _ ?_
  clear hK K
  generalize hA3 : (HAppend.hAppend A2 _ : ByteArray) = A3
  have zA3 : A3.size = 8 := by rw [← hA3, ByteArray.size_append, zA2]; try rfl
  have HA3 := Lib.hid hA3
  clear hA3
  still_step
  refine wpStill_step (fun K hK => ?_)
  go_simp
  refine hK _ ?_
  clear hK K
  generalize hA4 : (HAppend.hAppend A3 _ : ByteArray) = A4
  have zA4 : A4.size = 11 := by rw [← hA4, ByteArray.size_append, zA3, zM]; try rfl
  have HA4 := Lib.hid hA4
  clear hA4
  refine wpStill_step (fun K hK => ?_)
  go_simp
  refine hK _ ?_
  clear hK K
  generalize hA5 : (HAppend.hAppend A4 _ : ByteArray) = A5
  have zA5 : A5.size = 12 := by rw [← hA5, ByteArray.size_append, zA4]; try rfl
  have HA5 := Lib.hid hA5
  clear hA5
  still_step
  refine wpStill_step (fun K hK => ?_)
  go_simp
  refine hK _ ?_
  clear hK K
  generalize hA6 : (HAppend.hAppend A5 _ : ByteArray) = A6
  have zA6 : A6.size = 16 := by rw [← hA6, ByteArray.size_append, zA5, zY]; try rfl
  have HA6 := Lib.hid hA6
  clear hA6
  refine wpStill_step (fun K hK => ?_)
  go_simp
  refine hK _ ?_
  clear hK K
  generalize hA7 : (HAppend.hAppend A6 _ : ByteArray) = A7
  have zA7 : A7.size = 17 := by rw [← hA7, ByteArray.size_append, zA6]; try rfl
  have HA7 := Lib.hid hA7
  clear hA7
  still_step
  refine wpStill_step (fun K hK => ?_)
  go_simp
  refine hK _ ?_
  clear hK K
  generalize hA8 : (HAppend.hAppend A7 _ : ByteArray) = A8
  have zA8 : A8.size = 25 := by rw [← hA8, ByteArray.size_append, zA7, zT]; try rfl
  have HA8 := Lib.hid hA8
  clear hA8
  refine wpStill_step (fun K hK => ?_)
  go_simp
  refine hK _ ?_
  clear hK K
  generalize hA9 : (HAppend.hAppend A8 _ : ByteArray) = A9
  have zA9 : A9.size = 29 := by rw [← hA9, ByteArray.size_append, zA8]; try rfl
  have HA9 := Lib.hid hA9
  clear hA9
  still_step
  refine wpStill_step (fun K hK => ?_)
  go_simp
  refine hK _ ?_
  clear hK K
  generalize hB1 : (HAppend.hAppend DN _ : ByteArray) = B1
  have zB1 : B1.size ≤ 11 := by rw [← hB1, ByteArray.size_append]; first | omega | (simp only [show ∀ l : Array UInt8, (⟨l⟩ : ByteArray).size = l.size from fun _ => rfl]; simp; omega)
  have qB1 := fun n h => big B1 n (by omega) h
  have HB1 := Lib.hid hB1
  clear hB1
  still_step
  still_step
  still_call (same (hPA _ (by omega) (by omega)))
  refine wpStill_step (fun K hK => ?_)
  go_simp
  refine hK _ ?_
  clear hK K
  generalize hB2 : (HAppend.hAppend B1 _ : ByteArray) = B2
  have zB2 : B2.size ≤ 13 := by rw [← hB2, ByteArray.size_append, zA]; first | omega | (simp only [show ∀ l : Array UInt8, (⟨l⟩ : ByteArray).size = l.size from fun _ => rfl]; simp; omega)
  have qB2 := fun n h => big B2 n (by omega) h
  have HB2 := Lib.hid hB2
  clear hB2
  refine wpStill_step (fun K hK => ?_)
  go_simp
  refine hK _ ?_
  clear hK K
  generalize hB3 : (HAppend.hAppend B2 _ : ByteArray) = B3
  have zB3 : B3.size ≤ 14 := by rw [← hB3, ByteArray.size_append]; first | omega | (simp only [show ∀ l : Array UInt8, (⟨l⟩ : ByteArray).size = l.size from fun _ => rfl]; simp; omega)
  have qB3 := fun n h => big B3 n (by omega) h
  have HB3 := Lib.hid hB3
  clear hB3
  still_step
  refine wpStill_step (fun K hK => ?_)
  go_simp
  refine hK _ ?_
  clear hK K
  generalize hB4 : (HAppend.hAppend B3 _ : ByteArray) = B4
  have zB4 : B4.size ≤ 17 := by rw [← hB4, ByteArray.size_append, zM]; first | omega | (simp only [show ∀ l : Array UInt8, (⟨l⟩ : ByteArray).size = l.size from fun _ => rfl]; simp; omega)
  have qB4 := fun n h => big B4 n (by omega) h
  have HB4 := Lib.hid hB4
  clear hB4
  refine wpStill_step (fun K hK => ?_)
  go_simp
  refine hK _ ?_
  clear hK K
  generalize hB5 : (HAppend.hAppend B4 _ : ByteArray) = B5
  have zB5 : B5.size ≤ 18 := by rw [← hB5, ByteArray.size_append]; first | omega | (simp only [show ∀ l : Array UInt8, (⟨l⟩ : ByteArray).size = l.size from fun _ => rfl]; simp; omega)
  have qB5 := fun n h => big B5 n (by omega) h
  have HB5 := Lib.hid hB5
  clear hB5
  still_step
  still_step
  refine wpStill_step (fun K hK => ?_)
  go_simp
  refine hK _ ?_
  clear hK K
  generalize hB6 : (HAppend.hAppend B5 _ : ByteArray) = B6
  have zB6 : B6.size ≤ 20 := by rw [← hB6, ByteArray.size_append, zY5]; first | omega | (simp only [show ∀ l : Array UInt8, (⟨l⟩ : ByteArray).size = l.size from fun _ => rfl]; simp; omega)
  have qB6 := fun n h => big B6 n (by omega) h
  have HB6 := Lib.hid hB6
  clear hB6
  refine wpStill_step (fun K hK => ?_)
  go_simp
  refine hK _ ?_
  clear hK K
  generalize hB7 : (HAppend.hAppend B6 _ : ByteArray) = B7
  have zB7 : B7.size ≤ 21 := by rw [← hB7, ByteArray.size_append]; first | omega | (simp only [show ∀ l : Array UInt8, (⟨l⟩ : ByteArray).size = l.size from fun _ => rfl]; simp; omega)
  have qB7 := fun n h => big B7 n (by omega) h
  have HB7 := Lib.hid hB7
  clear hB7
  still_step
  refine wpStill_step (fun K hK => ?_)
  go_simp
  refine hK _ ?_
  clear hK K
  generalize hB8 : (HAppend.hAppend B7 _ : ByteArray) = B8
  have zB8 : B8.size ≤ 29 := by rw [← hB8, ByteArray.size_append, zT]; first | omega | (simp only [show ∀ l : Array UInt8, (⟨l⟩ : ByteArray).size = l.size from fun _ => rfl]; simp; omega)
  have qB8 := fun n h => big B8 n (by omega) h
  have HB8 := Lib.hid hB8
  clear hB8
  refine wpStill_step (fun K hK => ?_)
  go_simp
  refine hK _ ?_
  clear hK K
  generalize hB9 : (HAppend.hAppend B8 _ : ByteArray) = B9
  have zB9 : B9.size ≤ 33 := by rw [← hB9, ByteArray.size_append]; first | omega | (simp only [show ∀ l : Array UInt8, (⟨l⟩ : ByteArray).size = l.size from fun _ => rfl]; simp; omega)
  have qB9 := fun n h => big B9 n (by omega) h
  have HB9 := Lib.hid hB9
  clear hB9
  still_step
  still_step
  refine wpStill_step (fun K hK => ?_)
  go_simp
  refine hK _ ?_
  clear hK K
  generalize hC1 : (HAppend.hAppend (DN.extract 0 3) _ : ByteArray) = C1
  have zC1 : C1.size = 4 := by rw [← hC1, ByteArray.size_append, zD5]; try rfl
  have HC1 := Lib.hid hC1
  clear hC1
  still_step
  refine wpStill_step (fun K hK => ?_)
  go_simp
  refine hK _ ?_
  clear hK K
  generalize hC2 : (HAppend.hAppend C1 _ : ByteArray) = C2
  have zC2 : C2.size = 7 := by rw [← hC2, ByteArray.size_append, zC1, zM]; try rfl
  have HC2 := Lib.hid hC2
  clear hC2
  refine wpStill_step (fun K hK => ?_)
  go_simp
  refine hK _ ?_
  clear hK K
  generalize hC3 : (HAppend.hAppend C2 _ : ByteArray) = C3
  have zC3 : C3.size = 8 := by rw [← hC3, ByteArray.size_append, zC2]; try rfl
  have HC3 := Lib.hid hC3
  clear hC3
  still_step
  still_step
  still_call (same (hPB _ (by omega) (by omega)))
  refine wpStill_step (fun K hK => ?_)
  go_simp
  refine hK _ ?_
  clear hK K
  generalize hC4 : (HAppend.hAppend C3 _ : ByteArray) = C4
  have zC4 : C4.size = 10 := by rw [← hC4, ByteArray.size_append, zC3, zB]; try rfl
  have HC4 := Lib.hid hC4
  clear hC4
  refine wpStill_step (fun K hK => ?_)
  go_simp
  refine hK _ ?_
  clear hK K
  generalize hC5 : (HAppend.hAppend C4 _ : ByteArray) = C5
  have zC5 : C5.size = 11 := by rw [← hC5, ByteArray.size_append, zC4]; try rfl
  have HC5 := Lib.hid hC5
  clear hC5
  still_step
  refine wpStill_step (fun K hK => ?_)
  go_simp
  refine hK _ ?_
  clear hK K
  generalize hC6 : (HAppend.hAppend C5 _ : ByteArray) = C6
  have zC6 : C6.size = 19 := by rw [← hC6, ByteArray.size_append, zC5, zT]; try rfl
  have HC6 := Lib.hid hC6
  clear hC6
  refine wpStill_step (fun K hK => ?_)
  go_simp
  refine hK _ ?_
  clear hK K
  generalize hC7 : (HAppend.hAppend C6 _ : ByteArray) = C7
  have zC7 : C7.size = 20 := by rw [← hC7, ByteArray.size_append, zC6]; try rfl
  have HC7 := Lib.hid hC7
  clear hC7
  still_step
  refine wpStill_step (fun K hK => ?_)
  go_simp
  refine hK _ ?_
  clear hK K
  generalize hC8 : (HAppend.hAppend C7 _ : ByteArray) = C8
  have zC8 : C8.size = 24 := by rw [← hC8, ByteArray.size_append, zC7, zY]; try rfl
  have HC8 := Lib.hid hC8
  clear hC8
  still_step
  refine wpStill_nil ?_
  change wpList _ _ _ _ _ w4.drew
  clear fz r0 r1 r2 big qB1 qB2 qB3 qB4 qB5 qB6 qB7 qB8 qB9 hD hPA hPB
  have HBl := Lib.hid (HB.out.drew)
  have hR5 : w4.drew.heap[w.heap.size]? = some (.cells #[.string ⟨#[]⟩, .string ⟨#[]⟩, .string ⟨#[]⟩] 128) := hR3
  generalize w4.drew = w5 at HBl hR5 ⊢
  clear hR3 HB c2'
  have r0 : w5.cell? ⟨w.heap.size, 0, none⟩ = some (.string ⟨#[]⟩) := by simp only [World.cell?, hR5]; rfl
  have r1 : w5.cell? ⟨w.heap.size, 1, none⟩ = some (.string ⟨#[]⟩) := by simp only [World.cell?, hR5]; rfl
  have r2 : w5.cell? ⟨w.heap.size, 2, none⟩ = some (.string ⟨#[]⟩) := by simp only [World.cell?, hR5]; rfl
  have fz0 : w5.frozen? ⟨w.heap.size, 0, none⟩ = false := by simp only [World.frozen?, hR5]; simp
  have fz1 : w5.frozen? ⟨w.heap.size, 1, none⟩ = false := by simp only [World.frozen?, hR5]; simp
  have fz2 : w5.frozen? ⟨w.heap.size, 2, none⟩ = false := by simp only [World.frozen?, hR5]; simp
  clear hR5
  go_wp2_with fail
  have e0 : A9 = str (Dt.form a 0) := by
    rw [HF.out.1, ← HA9.out, ← HA8.out, ← HA7.out, ← HA6.out, ← HA5.out, ← HA4.out, ← HA3.out, ← HA2.out, ← HA1.out, ← HT.out]
    obtain ⟨e1, e2, e3, e4, e5, e6, e7, e8⟩ := HE.out
    rw [← e1, ← e2, ← e3, ← e4, ← e5, ← e6, ← e7]
    exact cat0 _ _ _ _ _ _ _
  have e1 : B9 = str (Dt.form a 1) := by
    rw [HF.out.2.1, ← HB9.out, ← HB8.out, ← HB7.out, ← HB6.out, ← HB5.out, ← HB4.out, ← HB3.out, ← HB2.out, ← HB1.out, ← HT.out]
    obtain ⟨e1, e2, e3, e4, e5, e6, e7, e8⟩ := HE.out
    rw [← e1, ← e2, ← e3, ← e4, ← e5, ← e6, ← e7]
    exact cat1 _ _ _ _ _ _ _ _ (d4_drop y (by omega))
  have e2 : C8 = str (Dt.form a 2) := by
    rw [HF.out.2.2, ← HC8.out, ← HC7.out, ← HC6.out, ← HC5.out, ← HC4.out, ← HC3.out, ← HC2.out, ← HC1.out, ← HT.out]
    obtain ⟨e1, e2, e3, e4, e5, e6, e7, e8⟩ := HE.out
    rw [← e1, ← e2, ← e3, ← e4, ← e5, ← e6, ← e8]
    exact cat2 _ _ _ _ _ _ _
  clear HA1 HA2 HA3 HA4 HA5 HA6 HA7 HA8 HA9 HB1 HB2 HB3 HB4 HB5 HB6 HB7 HB8 HB9 HC1 HC2 HC3 HC4 HC5 HC6 HC7 HC8
  refine bodyPost_ret (v := .agg #[.string A9, .string B9, .string C8]) (by simp [results, Tryz.results115, go_sem, r0, r1, r2]) rfl ⟨by rw [e0, e1, e2], ?_⟩
  exact ((HBl.out.setCell (Nat.le_refl _) _).setCell (Nat.le_refl _) _).setCell (Nat.le_refl _) _
end Go.Proofs.YtoanelobggledaaGreatDoor

namespace Go.Proofs.YtoanelobggledaaGreatDoor
open Go.RowKit

noncomputable def formsV (a : Int) : Value := .agg #[.string (str (Dt.form a 0)), .string (str (Dt.form a 1)), .string (str (Dt.form a 2))]
theorem forms_a (a : Int) (w : World) (hT : DTabs w) (a0 : 0 ≤ a) (a1 : a ≤ 253402300799) :
    Calls Tryz.prog 115 #[.int .i64 a] w fun e w' => e = .returned (formsV a) ∧ Below w.heap.size w w' := by
  obtain ⟨y, m, d, hd⟩ := Dt.exDate (a / 86400) (by omega) (by omega)
  obtain ⟨k, rfl⟩ : ∃ k : Nat, m = k := ⟨m.toNat, by have := hd.m0; omega⟩
  exact forms_c a y d k w hT a0 a1 hd
theorem ix3_0 (a b c : ByteArray) (w : World) : (Instr.index 128 (.agg #[.string a, .string b, .string c]) (.int .i64 0)).run Tryz.prog w = .ok (.string a) w := by kernel_rfl
theorem ix3_1 (a b c : ByteArray) (w : World) : (Instr.index 128 (.agg #[.string a, .string b, .string c]) (.int .i64 1)).run Tryz.prog w = .ok (.string b) w := by kernel_rfl
theorem ix3_2 (a b c : ByteArray) (w : World) : (Instr.index 128 (.agg #[.string a, .string b, .string c]) (.int .i64 2)).run Tryz.prog w = .ok (.string c) w := by kernel_rfl
end Go.Proofs.YtoanelobggledaaGreatDoor

namespace Go.Proofs.YtoanelobggledaaGreatDoor
open Go.RowKit

set_option maxHeartbeats 1600000 in
set_option maxRecDepth 1000000 in
theorem indexRune_bad (x : Nat) (w : World) (h1 : 55296 ≤ x) (h2 : x ≤ 57343) :
    Calls Tryz.prog 198 #[.string ⟨#[32, 44, 45, 58]⟩, .int .i32 x] w fun e w' => e = .returned (.int .i64 (-1)) ∧ Below w.heap.size w w' := by
  have hv : Lib.validRune (x : Int) = false := by unfold Lib.validRune; rw [decide_eq_false]; omega
  have hne : ((x : Int) == 65533) = false := beq_eq_false_iff_ne.2 (by omega)
  have hV := Tryz.utf8_ValidRune x
  rw [hv] at hV
  clear hv
  go_enter Tryz.func198, Tryz.ntmps198
  go_wp2_with fail
  refine (hV _).mono ?_
  rintro e w' ⟨rfl, rfl⟩
  go_wp2_with fail
  go_ret
  exact ⟨rfl, Below.refl _ _⟩
set_option maxHeartbeats 1600000 in
set_option maxRecDepth 1000000 in
theorem indexRune_err (w : World) :
    Calls Tryz.prog 198 #[.string ⟨#[32, 44, 45, 58]⟩, .int .i32 65533] w fun e w' => e = .returned (.int .i64 (-1)) ∧ Below w.heap.size w w' := by
  go_enter Tryz.func198, Tryz.ntmps198
  go_wp2_with fail
  go_loopg [] 5 (fun gf wx => ∃ pos : Nat, pos + gf = 5 ∧ pos ≤ 4 ∧ wx = w.iter ⟨#[32, 44, 45, 58]⟩ pos)
  case atStart => exact ⟨0, by omega, by omega, rfl⟩
  case round =>
    obtain ⟨pos, hg, hp, rfl⟩ := hrel
    have : pos = 0 ∨ pos = 1 ∨ pos = 2 ∨ pos = 3 ∨ pos = 4 := by omega
    rcases this with rfl | rfl | rfl | rfl | rfl
    · obtain rfl : gk = 5 := by omega
      have hnx := fun ty => run_next_ascii (P := Tryz.prog) w ⟨#[32, 44, 45, 58]⟩ 0 ty (by decide) (by decide)
      go_wp2_with fail
      go_roundg 4
      case measure => omega
      case rel => exact ⟨1, by omega, by omega, rfl⟩
    · obtain rfl : gk = 4 := by omega
      have hnx := fun ty => run_next_ascii (P := Tryz.prog) w ⟨#[32, 44, 45, 58]⟩ 1 ty (by decide) (by decide)
      go_wp2_with fail
      go_roundg 3
      case measure => omega
      case rel => exact ⟨2, by omega, by omega, rfl⟩
    · obtain rfl : gk = 3 := by omega
      have hnx := fun ty => run_next_ascii (P := Tryz.prog) w ⟨#[32, 44, 45, 58]⟩ 2 ty (by decide) (by decide)
      go_wp2_with fail
      go_roundg 2
      case measure => omega
      case rel => exact ⟨3, by omega, by omega, rfl⟩
    · obtain rfl : gk = 2 := by omega
      have hnx := fun ty => run_next_ascii (P := Tryz.prog) w ⟨#[32, 44, 45, 58]⟩ 3 ty (by decide) (by decide)
      go_wp2_with fail
      go_roundg 1
      case measure => omega
      case rel => exact ⟨4, by omega, by omega, rfl⟩
    · have hnx := fun ty => run_next_end (P := Tryz.prog) w ⟨#[32, 44, 45, 58]⟩ 4 ty (by decide)
      go_wp2_with fail
      go_ret
      exact ⟨rfl, (Below.refl _ _).alloc (Nat.le_refl _) _⟩
theorem enc_cases (r : Int) (hv : Utf8.valid r = true) (h128 : 128 ≤ r) :
    (∃ a c : UInt8, Utf8.encode r = ⟨#[a, c]⟩ ∧ 128 ≤ c.toNat) ∨ (∃ a b c : UInt8, Utf8.encode r = ⟨#[a, b, c]⟩ ∧ 128 ≤ c.toNat) ∨ (∃ a b d c : UInt8, Utf8.encode r = ⟨#[a, b, d, c]⟩ ∧ 128 ≤ c.toNat) := by
  have hc : ¬ r.toNat < 128 := by omega
  unfold Utf8.encode
  simp only [hv, if_true, hc, if_false]
  split
  · exact .inl ⟨_, _, rfl, by simp; omega⟩
  · split
    · exact .inr (.inl ⟨_, _, _, rfl, by simp; omega⟩)
    · exact .inr (.inr ⟨_, _, _, _, rfl, by simp; omega⟩)
theorem ix_none (l : List UInt8) (c : UInt8) (h : ∀ b ∈ l, b ≠ c) : Lib.indexByte l c = -1 := by
  induction l with
  | nil => rfl
  | cons b l ih =>
    have h1 : (b == c) = false := by simpa using h b (by simp)
    simp only [Lib.indexByte, h1]
    rw [if_neg (by decide), ih (fun b hb => h b (by simp [hb]))]
    rfl
theorem ix_tail (l : List UInt8) (c : UInt8) (h : 128 ≤ c.toNat) (hl : ∀ b ∈ l, b.toNat < 128) (w : World) (s : ByteArray) (hs : s.data.toList = l) :
    Calls Tryz.prog 177 #[.string s, .int .u8 c.toNat] w fun e w' => e = .returned (.int .i64 (-1)) ∧ w = w' := by
  refine (Tryz.strings_IndexByte s c.toNat w).mono ?_
  rintro e w' ⟨rfl, rfl⟩
  refine ⟨?_, rfl⟩
  rw [hs, ix_none]
  intro b hb e
  have := hl b hb
  rw [e] at this
  simp at this; omega
set_option maxHeartbeats 1600000 in
set_option maxRecDepth 1000000 in
theorem indexRune_far (x : Nat) (w : World) (h1 : 128 ≤ x) (h2 : x < 55296 ∨ (57343 < x ∧ x ≤ 1114111)) (h3 : x ≠ 65533) :
    Calls Tryz.prog 198 #[.string ⟨#[32, 44, 45, 58]⟩, .int .i32 x] w fun e w' => e = .returned (.int .i64 (-1)) ∧ Below w.heap.size w w' := by
  have hv : Lib.validRune (x : Int) = true := by unfold Lib.validRune; rw [decide_eq_true]; omega
  have hne : ((x : Int) == 65533) = false := beq_eq_false_iff_ne.2 (by omega)
  have hV := Tryz.utf8_ValidRune x
  rw [hv] at hV
  clear hv
  have h4 : ¬ (x : Int) < 128 := by omega
  have hE := enc_cases x (by unfold Utf8.valid; simp; omega) (by omega)
  rcases hE with ⟨a, c, hE, hc⟩ | ⟨a, b, c, hE, hc⟩ | ⟨a, b, d, c, hE, hc⟩
  · have g3 : ((((⟨#[32, 44, 45, 58]⟩ : ByteArray)[1]'(by decide)).toNat : Int) != (((⟨#[a, c]⟩ : ByteArray)[1]'(by show 1 < 2; omega)).toNat : Int)) = true := by
      show ((44 : Int) != (c.toNat : Int)) = true
      rw [bne, beq_eq_false_iff_ne.2 (by omega : (44 : Int) ≠ c.toNat)]; rfl
    go_enter Tryz.func198, Tryz.ntmps198
    go_wp2_with fail
    refine (hV _).mono ?_
    rintro e w' ⟨rfl, rfl⟩
    go_wp2_with fail
    go_step3
    go_wp2_with fail
    refine wp_loop_rounds 1 ?_
    rw [rounds_succ]
    go_wp2_with fail
    go_step3
    go_wp2_with fail
    go_quiet (fail)
    have hbq := Go.below_drewN (Below.refl w'.heap.size w') nq
    generalize w'.drewN nq = w2 at hbq ⊢
    go_wp2_with fail
    go_quiet ((go_at_call 177; exact quiet _ (ix_tail [45, 58] c hc (by decide) _ _ (by rfl))))
    go_wp2_with fail
    rw [Exit.noGoto_ret]
    go_wp2_with fail
    rw [Exit.noGoto_ret]
    go_wp2_with fail
    go_ret
    exact ⟨rfl, Go.below_drewN hbq _⟩
  · have g3 : ((((⟨#[32, 44, 45, 58]⟩ : ByteArray)[2]'(by decide)).toNat : Int) != (((⟨#[a, b, c]⟩ : ByteArray)[2]'(by show 2 < 3; omega)).toNat : Int)) = true := by
      show ((45 : Int) != (c.toNat : Int)) = true
      rw [bne, beq_eq_false_iff_ne.2 (by omega : (45 : Int) ≠ c.toNat)]; rfl
    go_enter Tryz.func198, Tryz.ntmps198
    go_wp2_with fail
    refine (hV _).mono ?_
    rintro e w' ⟨rfl, rfl⟩
    go_wp2_with fail
    go_step3
    go_wp2_with fail
    refine wp_loop_rounds 1 ?_
    rw [rounds_succ]
    go_wp2_with fail
    go_step3
    go_wp2_with fail
    go_quiet (fail)
    have hbq := Go.below_drewN (Below.refl w'.heap.size w') nq
    generalize w'.drewN nq = w2 at hbq ⊢
    go_wp2_with fail
    go_quiet ((go_at_call 177; exact quiet _ (ix_tail [58] c hc (by decide) _ _ (by rfl))))
    go_wp2_with fail
    rw [Exit.noGoto_ret]
    go_wp2_with fail
    rw [Exit.noGoto_ret]
    go_wp2_with fail
    go_ret
    exact ⟨rfl, Go.below_drewN hbq _⟩
  · have g3 : ((((⟨#[32, 44, 45, 58]⟩ : ByteArray)[3]'(by decide)).toNat : Int) != (((⟨#[a, b, d, c]⟩ : ByteArray)[3]'(by show 3 < 4; omega)).toNat : Int)) = true := by
      show ((58 : Int) != (c.toNat : Int)) = true
      rw [bne, beq_eq_false_iff_ne.2 (by omega : (58 : Int) ≠ c.toNat)]; rfl
    go_enter Tryz.func198, Tryz.ntmps198
    go_wp2_with fail
    refine (hV _).mono ?_
    rintro e w' ⟨rfl, rfl⟩
    go_wp2_with fail
    go_step3
    go_wp2_with fail
    refine wp_loop_rounds 1 ?_
    rw [rounds_succ]
    go_wp2_with fail
    go_step3
    go_wp2_with fail
    go_quiet (fail)
    have hbq := Go.below_drewN (Below.refl w'.heap.size w') nq
    generalize w'.drewN nq = w2 at hbq ⊢
    go_wp2_with fail
    go_quiet ((go_at_call 177; exact quiet _ (ix_tail [] c hc (by decide) _ _ (by rfl))))
    go_wp2_with fail
    rw [Exit.noGoto_ret]
    go_wp2_with fail
    rw [Exit.noGoto_ret]
    go_wp2_with fail
    go_ret
    exact ⟨rfl, Go.below_drewN hbq _⟩
theorem ix_sep (x : Nat) (h : x < 128) : decide (0 ≤ Lib.indexByte [32, 44, 45, 58] (x : Int).toNat.toUInt8) = Dt.sepR x := by
  have : ∀ x : Fin 128, decide (0 ≤ Lib.indexByte [32, 44, 45, 58] ((x.1 : Nat) : Int).toNat.toUInt8) = Dt.sepR x.1 := by decide +kernel
  exact this ⟨x, h⟩
theorem sep_far (x : Nat) (h : 128 ≤ x) : Dt.sepR x = false := by
  unfold Dt.sepR
  have a : (x == 32) = false := beq_eq_false_iff_ne.2 (by omega)
  have b : (x == 44) = false := beq_eq_false_iff_ne.2 (by omega)
  have c : (x == 45) = false := beq_eq_false_iff_ne.2 (by omega)
  have d : (x == 58) = false := beq_eq_false_iff_ne.2 (by omega)
  rw [a, b, c, d]; rfl
set_option maxHeartbeats 800000 in
theorem containsRune_c (x : Nat) (w : World) (hx : x ≤ 1114111) :
    Calls Tryz.prog 150 #[.string ⟨#[32, 44, 45, 58]⟩, .int .i32 x] w fun e w' => e = .returned (.bool (Dt.sepR x)) ∧ Below w.heap.size w w' := by
  by_cases h : x < 128
  · have hI : Calls Tryz.prog 198 #[.string ⟨#[32, 44, 45, 58]⟩, .int .i32 x] w fun e w' => e = .returned (.int .i64 (Lib.indexByte [32, 44, 45, 58] (x : Int).toNat.toUInt8)) ∧ w' = w := Tryz.strings_IndexRune_ascii _ x w (by omega) (by omega)
    have HS := Lib.hid (ix_sep x h)
    generalize Lib.indexByte [32, 44, 45, 58] (x : Int).toNat.toUInt8 = i at hI HS
    go_enter Tryz.func150, Tryz.ntmps150
    go_wp2_with fail
    refine hI.mono ?_
    rintro e w' ⟨rfl, rfl⟩
    go_wp2_with fail
    go_ret
    exact ⟨ret_bool HS.out, Below.refl _ _⟩
  · have HS := Lib.hid (sep_far x (by omega))
    have hI : Calls Tryz.prog 198 #[.string ⟨#[32, 44, 45, 58]⟩, .int .i32 x] w fun e w' => e = .returned (.int .i64 (-1)) ∧ Below w.heap.size w w' := by
      by_cases h3 : x = 65533
      · subst h3; exact indexRune_err w
      · by_cases h2 : 55296 ≤ x ∧ x ≤ 57343
        · exact indexRune_bad x w h2.1 h2.2
        · exact indexRune_far x w (by omega) (by omega) h3
    go_enter Tryz.func150, Tryz.ntmps150
    go_wp2_with fail
    refine hI.mono ?_
    rintro e w' ⟨rfl, hb⟩
    go_wp2_with fail
    go_ret
    exact ⟨ret_bool HS.out.symm, hb⟩
set_option maxHeartbeats 800000 in
theorem closure_c (x : Nat) (w : World) (hx : x ≤ 1114111) :
    Calls Tryz.prog 149 #[.int .i32 x] w fun e w' => e = .returned (.bool (Dt.sepR x)) ∧ Below w.heap.size w w' := by
  have hI := containsRune_c x w hx
  go_enter Tryz.func149, Tryz.ntmps149
  go_wp2_with fail
  refine hI.mono ?_
  rintro e w' ⟨rfl, hb⟩
  go_wp2_with fail
  go_ret
  exact ⟨rfl, hb⟩
set_option maxRecDepth 100000 in
theorem fields_c (s : ByteArray) (w : World) (hs : s.size ≤ 1000) :
    Calls Tryz.prog 148 #[.string s, .func (.func 149) #[] #[]] w fun e w' => ∃ A, e = .returned (.slice (some ⟨A, 0, none⟩) (Lib.goFieldsP Dt.sepR s).length (Lib.goFieldsP Dt.sepR s).length) ∧
      (∀ j (hj : j < (Lib.goFieldsP Dt.sepR s).length), w'.cell? ⟨A, j, none⟩ = some (.string ((Lib.goFieldsP Dt.sepR s)[j]))) ∧ Below w.heap.size w w' := by
  refine (Tryz.strings_FieldsFunc_grows 149 #[] (fun _ _ => rfl) Dt.sepR s w (by omega) (fun W x hx _ => closure_c x W hx)).mono ?_
  rintro e w' ⟨A, rfl, hA, hown, hb⟩
  refine ⟨A, rfl, fun j hj => ?_, hb⟩
  have := hown.cellAt j (by omega)
  rw [this]
  simp [hj]
end Go.Proofs.YtoanelobggledaaGreatDoor

namespace Go.Proofs.YtoanelobggledaaGreatDoor
open Go.RowKit

def monS (j : Nat) : ByteArray := str (Dt.monthNames.getD j [])
theorem monS_ix (k : Nat) (h : k < 12) (w : World) : (Instr.index 162 (.agg #[.string (monS 0), .string (monS 1), .string (monS 2), .string (monS 3), .string (monS 4), .string (monS 5), .string (monS 6), .string (monS 7), .string (monS 8), .string (monS 9), .string (monS 10), .string (monS 11)]) (.int .i64 k)).run Tryz.prog w = .ok (.string (monS k)) w := by
  have : k = 0 ∨ k = 1 ∨ k = 2 ∨ k = 3 ∨ k = 4 ∨ k = 5 ∨ k = 6 ∨ k = 7 ∨ k = 8 ∨ k = 9 ∨ k = 10 ∨ k = 11 := by omega
  rcases this with rfl | rfl | rfl | rfl | rfl | rfl | rfl | rfl | rfl | rfl | rfl | rfl <;> (show _ = _; kernel_rfl)
theorem bytes_eq (s t : ByteArray) : (s.toList == t.toList) = decide (s.data.toList = t.data.toList) := by
  rw [Lib.toList_data, Lib.toList_data, Bool.eq_iff_iff]; simp
set_option maxHeartbeats 1600000 in
set_option maxRecDepth 100000 in
theorem worth_1 (x : ByteArray) (w : World) (hT : DTabs w) :
    Calls Tryz.prog 151 #[.int .i64 1, .string x] w fun e w' => e = .returned (.tuple #[.int .i64 (Dt.worthP 1 x.data.toList).1, .bool (Dt.worthP 1 x.data.toList).2]) ∧ w = w' := by
  have hm (j : Nat) (h : j < 12) : w.cell? ⟨1, j, none⟩ = some (.string (monS j)) := hT.mon j h
  have c0 := hm 0 (by omega)
  have c1 := hm 1 (by omega)
  have c2 := hm 2 (by omega)
  have c3 := hm 3 (by omega)
  have c4 := hm 4 (by omega)
  have c5 := hm 5 (by omega)
  have c6 := hm 6 (by omega)
  have c7 := hm 7 (by omega)
  have c8 := hm 8 (by omega)
  have c9 := hm 9 (by omega)
  have c10 := hm 10 (by omega)
  have c11 := hm 11 (by omega)
  clear hm hT
  go_enter Tryz.func151, Tryz.ntmps151
  go_wp2_with fail
  go_loop [13] (fun i => ∃ k : Nat, k ≤ 12 ∧ i = .int .i64 k ∧ ∀ j, j < k → Dt.monthNames.getD j [] ≠ x.data.toList) (fun i => 12 - (intOf i).toNat)
  case atStart => exact ⟨0, by omega, rfl, fun j hj => by omega⟩
  case round =>
    obtain ⟨k, hk, rfl, hno⟩ := hrel
    have HN := Lib.hid hno
    clear hno
    by_cases hlt : k < 12
    · have hix := monS_ix k hlt
      have hlt' : (k : Int) < 12 := by omega
      by_cases he : Dt.monthNames.getD k [] = x.data.toList
      · have hb : ((monS k).toList == x.toList) = true := by rw [bytes_eq]; unfold monS; rw [str_list]; simpa using he
        have HR : Hid (Dt.worthP 1 x.data.toList = ((k : Int), true)) := by
          show _ = _
          unfold Dt.worthP
          rw [if_pos rfl, Dt.mIdx_some hlt he]
        clear he
        go_wp2_with fail
        go_ret2
        exact ⟨by rw [HR.out]; rfl, rfl⟩
      · have hb : ((monS k).toList == x.toList) = false := by rw [bytes_eq]; unfold monS; rw [str_list]; simpa using he
        have HE := Lib.hid he
        clear he
        go_wp2_with fail
        go_round
        case rel => exact ⟨k + 1, by omega, by go_num, fun j hj => by
          by_cases hjk : j = k
          · rw [hjk]; exact HE.out
          · exact HN.out j (by omega)⟩
        case measure => simp [intOf]; omega
    · have HR : Hid (Dt.worthP 1 x.data.toList = (0, false)) := by
        show _ = _
        unfold Dt.worthP
        rw [if_pos rfl, Dt.mIdx_none (fun i hi => HN.out i (by omega))]
      have hlt' : ¬ (k : Int) < 12 := by omega
      go_wp2_with fail
      go_ret2
      exact ⟨by rw [HR.out]; rfl, rfl⟩
set_option maxHeartbeats 1600000 in
theorem worth_n (p : Nat) (x : ByteArray) (w : World) (hp : p ≠ 1) (hp6 : p < 6) (hs : x.size ≤ 1000) :
    Calls Tryz.prog 151 #[.int .i64 p, .string x] w fun e w' => e = .returned (.tuple #[.int .i64 (Dt.worthP p x.data.toList).1, .bool (Dt.worthP p x.data.toList).2]) ∧ Below w.heap.size w w' := by
  have h1 : ((p : Int) == 1) = false := beq_eq_false_iff_ne.2 (by omega)
  obtain ⟨a, e, hN⟩ : ∃ a e, Oct.number 10 9999 x.data.toList = (a, e) := ⟨_, _, rfl⟩
  have hbd := Dt.number_bd x.data.toList
  rw [hN] at hbd
  obtain ⟨b0, b1⟩ := hbd
  simp only at b0 b1
  have hC := Number_is x 9999 a e w (by omega) (by omega) (by omega) hN
  have hsz : x.data.toList.length = x.size := Oct.length_size x
  by_cases hy : p = 0 ∧ x.size = 2
  · obtain ⟨rfl, hz⟩ := hy
    have HR : Hid (Dt.worthP 0 x.data.toList = (Dt.full a, decide (e = 0))) := by
      show _ = _
      unfold Dt.worthP
      rw [if_neg (by omega), if_pos ⟨rfl, by omega⟩, hN]
    clear hN hsz
    go_enter Tryz.func151, Tryz.ntmps151
    go_wp2_with fail
    refine hC.mono ?_
    rintro e w1 ⟨rfl, hb⟩
    go_wp2_with (go_at_call 199; refine (fullYear_c a _ b0 b1).mono ?_; rintro e w' ⟨rfl, rfl⟩)
    go_ret2
    exact ⟨by rw [HR.out]; rfl, hb⟩
  · have HR : Hid (Dt.worthP p x.data.toList = (a, decide (e = 0))) := by
      show _ = _
      unfold Dt.worthP
      rw [if_neg hp, if_neg (by omega), hN]
    clear hN hsz
    by_cases h0 : p = 0
    · subst h0
      have hz : ((x.size : Int) == 2) = false := beq_eq_false_iff_ne.2 (by omega)
      clear hy
      go_enter Tryz.func151, Tryz.ntmps151
      go_wp2_with fail
      refine hC.mono ?_
      rintro e w1 ⟨rfl, hb⟩
      go_wp2_with fail
      go_ret2
      exact ⟨by rw [HR.out]; rfl, hb⟩
    · have hz : ((p : Int) == 0) = false := beq_eq_false_iff_ne.2 (by omega)
      clear hy h0
      go_enter Tryz.func151, Tryz.ntmps151
      go_wp2_with fail
      refine hC.mono ?_
      rintro e w1 ⟨rfl, hb⟩
      go_wp2_with fail
      go_ret2
      exact ⟨by rw [HR.out]; rfl, hb⟩
theorem worth_p (p : Nat) (x : ByteArray) (v : Int) (ok : Bool) (w : World) (hT : DTabs w) (hp6 : p < 6) (hs : x.size ≤ 1000) (h : Dt.worthP p x.data.toList = (v, ok)) :
    Calls Tryz.prog 151 #[.int .i64 p, .string x] w fun e w' => e = .returned (.tuple #[.int .i64 v, .bool ok]) ∧ Below w.heap.size w w' := by
  by_cases hp : p = 1
  · subst hp
    refine (worth_1 x w hT).mono ?_
    rintro e w' ⟨rfl, rfl⟩
    exact ⟨by rw [h], Below.refl _ _⟩
  · refine (worth_n p x w hp hp6 hs).mono ?_
    rintro e w' ⟨rfl, hb⟩
    exact ⟨by rw [h], hb⟩
end Go.Proofs.YtoanelobggledaaGreatDoor

namespace Go.Proofs.YtoanelobggledaaGreatDoor
open Go.RowKit

theorem field_size (s x : ByteArray) (h : x ∈ Lib.goFieldsP Dt.sepR s) : x.size ≤ s.size := by
  unfold Lib.goFieldsP at h
  obtain ⟨p, _, rfl⟩ := List.mem_map.1 h
  rw [ByteArray.size_extract]; omega
theorem fields_len (s : ByteArray) : (Dt.fields s).length = (Lib.goFieldsP Dt.sepR s).length := by unfold Dt.fields; rw [List.length_map]
theorem fields_at (s : ByteArray) (j : Nat) (h : j < (Lib.goFieldsP Dt.sepR s).length) : (Dt.fields s).getD j [] = ((Lib.goFieldsP Dt.sepR s)[j]).data.toList := by
  unfold Dt.fields
  rw [List.getD_eq_getElem?_getD, List.getElem?_eq_getElem (by simpa using h)]
  simp
theorem readW_no (s : ByteArray) (h : ¬ (Lib.goFieldsP Dt.sepR s).length = 8) (h' : ¬ (Lib.goFieldsP Dt.sepR s).length = 7) : Dt.readW (Dt.fields s) = (0, false) := by
  unfold Dt.readW
  rw [fields_len, if_neg (by omega)]
theorem part_bad {ws : List (List UInt8)} {k : Nat} (hk : k < 6) (h : (Dt.part ws k).2 = false) : Dt.readW ws = (0, false) := by
  have hr : Dt.readable ws = false := by
    unfold Dt.readable
    have : k = 0 ∨ k = 1 ∨ k = 2 ∨ k = 3 ∨ k = 4 ∨ k = 5 := by omega
    rcases this with rfl | rfl | rfl | rfl | rfl | rfl <;> simp [h]
  unfold Dt.readW
  split
  · rw [hr]; rfl
  · rfl
theorem readW_yes {ws : List (List UInt8)} (hl : ws.length = 8 ∨ ws.length = 7) (h : ∀ j, j < 6 → (Dt.part ws j).2 = true) : Dt.readW ws = (Dt.momW ws, decide (0 ≤ Dt.momW ws) && decide (Dt.momW ws ≤ Dt.last)) := by
  unfold Dt.readW
  rw [if_pos hl, if_pos]
  unfold Dt.readable
  simp [h]
def Read (ws : List (List UInt8)) (P k : Nat) (w : World) : Prop := ∃ C : Array Value, w.heap[P]? = some (.cells C 157) ∧ C.size = 6 ∧ ∀ j, j < k → C[j]? = some (.int .i64 (Dt.part ws j).1)
theorem Read.later {ws : List (List UInt8)} {P k : Nat} {w w' : World} (h : Read ws P k w) (hb : Below w.heap.size w w') : Read ws P k w' := by
  obtain ⟨C, h1, h2, h3⟩ := h
  exact ⟨C, by rw [hb.block P (lt_of_block h1)]; exact h1, h2, h3⟩
theorem Read.room {ws : List (List UInt8)} {P k : Nat} {w : World} (h : Read ws P k w) (j : Nat) (hj : j < 6) : (∃ v, w.cell? ⟨P, j, none⟩ = some v) ∧ w.frozen? ⟨P, j, none⟩ = false := by
  obtain ⟨C, h1, h2, h3⟩ := h
  constructor
  · simp only [World.cell?, h1]; exact ⟨C[j]'(by omega), by simp [h2, hj]⟩
  · simp only [World.frozen?, h1]; simp
theorem Read.cell {ws : List (List UInt8)} {P k : Nat} {w : World} (h : Read ws P k w) (j : Nat) (hj : j < k) : w.cell? ⟨P, j, none⟩ = some (.int .i64 (Dt.part ws j).1) := by
  obtain ⟨C, h1, h2, h3⟩ := h
  simp only [World.cell?, h1]; exact h3 j hj
theorem Read.put {ws : List (List UInt8)} {P k : Nat} {w : World} (h : Read ws P k w) (hk : k < 6) : Read ws P (k + 1) (w.setCell ⟨P, k, none⟩ (.int .i64 (Dt.part ws k).1)) := by
  have hlt : P < w.heap.size := by obtain ⟨C, h1, _⟩ := h; exact lt_of_block h1
  obtain ⟨C, h1, h2, h3⟩ := h
  refine ⟨C.setIfInBounds k (.int .i64 (Dt.part ws k).1), ?_, by simp [h2], fun j hj => ?_⟩
  · show (w.heap.modify P _)[P]? = _
    have h' : w.heap[P] = .cells C 157 := by simpa [Array.getElem?_eq_getElem hlt] using h1
    rw [Array.getElem?_eq_getElem (by simpa using hlt), Array.getElem_modify_self, h']
    rfl
  · by_cases hjk : j = k
    · subst hjk; simp [h2, hk]
    · rw [Array.getElem?_setIfInBounds_ne (by omega)]
      exact h3 j (by omega)
theorem Read.start (ws : List (List UInt8)) (w : World) (C : Array Value) (hC : C.size = 6) : Read ws w.heap.size 0 (w.alloc (.cells C 157)) := ⟨C, heap_alloc_new w _, hC, fun j hj => by omega⟩
theorem part_month (ws : List (List UInt8)) : ∃ m : Nat, (Dt.part ws 1).1 = m ∧ m < 12 := by
  have h := Dt.worthP_bd 1 (ws.getD ((Dt.places ws.length).getD 1 0) [])
  have h2 := Dt.worthP_month (ws.getD ((Dt.places ws.length).getD 1 0) [])
  unfold Dt.part
  exact ⟨(Dt.worthP 1 (ws.getD ((Dt.places ws.length).getD 1 0) [])).1.toNat, by omega, by omega⟩
theorem part_bd (ws : List (List UInt8)) (j : Nat) : 0 ≤ (Dt.part ws j).1 ∧ (Dt.part ws j).1 ≤ 11899 := Dt.worthP_bd _ _
theorem mom_bd (y d h mi se : Int) (m : Nat) (_hm : m < 12) (y0 : 0 ≤ y) (y1 : y ≤ 11899) (d0 : 0 ≤ d) (d1 : d ≤ 11899) (h0 : 0 ≤ h) (h1 : h ≤ 11899) (i0 : 0 ≤ mi) (i1 : mi ≤ 11899) (s0 : 0 ≤ se) (s1 : se ≤ 11899) :
    -1000000000000 ≤ Dt.mom y m d h mi se ∧ Dt.mom y m d h mi se ≤ 1000000000000 := by
  have a := Dt.nyT_bd y y0 y1
  have b := Dt.cum_bd y m
  unfold Dt.mom
  omega
def pl8 (k : Nat) : Nat := ([3, 2, 1, 4, 5, 6] : List Nat).getD k 0
theorem pl8_ix (k : Nat) (h : k < 6) (w : World) : (Instr.index 157 (.agg #[.int .i64 3, .int .i64 2, .int .i64 1, .int .i64 4, .int .i64 5, .int .i64 6]) (.int .i64 k)).run Tryz.prog w = .ok (.int .i64 (pl8 k)) w := by
  have : k = 0 ∨ k = 1 ∨ k = 2 ∨ k = 3 ∨ k = 4 ∨ k = 5 := by omega
  rcases this with rfl | rfl | rfl | rfl | rfl | rfl <;> (show _ = _; kernel_rfl)
theorem pl8_lt (k : Nat) (h : k < 6) : pl8 k < 8 := by
  have : k = 0 ∨ k = 1 ∨ k = 2 ∨ k = 3 ∨ k = 4 ∨ k = 5 := by omega
  rcases this with rfl | rfl | rfl | rfl | rfl | rfl <;> decide
set_option maxHeartbeats 3200000 in
set_option maxRecDepth 100000 in
theorem read_8 (s : ByteArray) (w : World) (hT : DTabs w) (hs : s.size ≤ 33) (hn : (Lib.goFieldsP Dt.sepR s).length = 8) :
    Calls Tryz.prog 114 #[.string s] w fun e w' => e = .returned (.tuple #[.int .i64 (Dt.readW (Dt.fields s)).1, .bool (Dt.readW (Dt.fields s)).2]) ∧ Below w.heap.size w w' := by
  have hF := fields_c s w (by omega)
  have hsz : ∀ j (hj : j < (Lib.goFieldsP Dt.sepR s).length), ((Lib.goFieldsP Dt.sepR s)[j]).size ≤ 1000 := fun j hj => by
    have := field_size s _ (List.getElem_mem hj); omega
  have hpt : ∀ k, k < 6 → Dt.worthP k (((Lib.goFieldsP Dt.sepR s).getD (pl8 k) ⟨#[]⟩).data.toList) = Dt.part (Dt.fields s) k := fun k hk => by
    have h1 := pl8_lt k hk
    unfold Dt.part
    rw [fields_len, hn, show (Dt.places 8).getD k 0 = pl8 k from rfl, fields_at s _ (by omega), List.getD_eq_getElem?_getD, List.getElem?_eq_getElem (by omega)]
    rfl
  have hyes := fun h => readW_yes (ws := Dt.fields s) (by rw [fields_len]; omega) h
  have hbad := fun k hk h => part_bad (ws := Dt.fields s) (k := k) hk h
  obtain ⟨ws, hws⟩ : ∃ ws, Dt.fields s = ws := ⟨_, rfl⟩
  obtain ⟨R, hR⟩ : ∃ R, Dt.readW ws = R := ⟨_, rfl⟩
  rw [hws] at hpt hyes hbad ⊢
  rw [hR] at hyes hbad ⊢
  have hs' : ¬ (33 : Int) < (s.size : Int) := by omega
  have HS := Lib.hid hsz
  have HP := Lib.hid hpt
  have HY := Lib.hid hyes
  have HB := Lib.hid hbad
  have HN := Lib.hid hn
  have HT := Lib.hid hT
  clear hsz hpt hyes hbad hn hT hws hR
  generalize hg : Lib.goFieldsP Dt.sepR s = fs at HS HP HN hF
  clear hg hs
  go_enter Tryz.func114, Tryz.ntmps114
  go_wp2_with fail
  refine hF.mono ?_
  rintro e w1 ⟨A, rfl, hcell, hb1⟩
  have HT1 := Lib.hid (HT.out.later hb1)
  have HC := Lib.hid hcell
  have hlen : fs.length = 8 := HN.out
  clear hF hcell HT
  rw [hlen]
  go_wp2_with fail
  have hb2 : Below w1.heap.size w1 ((w1.alloc (.cells #[.int .i64 3, .int .i64 2, .int .i64 1, .int .i64 4, .int .i64 5, .int .i64 6] 157)).alloc (.cells #[.int .i64 0, .int .i64 0, .int .i64 0, .int .i64 0, .int .i64 0, .int .i64 0] 157)) :=
    ((Below.refl _ _).alloc (Nat.le_refl _) _).alloc (by simp) _
  have hr2 : Read ws (w1.heap.size + 1) 0 ((w1.alloc (.cells #[.int .i64 3, .int .i64 2, .int .i64 1, .int .i64 4, .int .i64 5, .int .i64 6] 157)).alloc (.cells #[.int .i64 0, .int .i64 0, .int .i64 0, .int .i64 0, .int .i64 0, .int .i64 0] 157)) := by
    have := Read.start ws (w1.alloc (.cells #[.int .i64 3, .int .i64 2, .int .i64 1, .int .i64 4, .int .i64 5, .int .i64 6] 157)) #[.int .i64 0, .int .i64 0, .int .i64 0, .int .i64 0, .int .i64 0, .int .i64 0] rfl
    simpa using this
  generalize ((w1.alloc (.cells #[.int .i64 3, .int .i64 2, .int .i64 1, .int .i64 4, .int .i64 5, .int .i64 6] 157)).alloc (.cells #[.int .i64 0, .int .i64 0, .int .i64 0, .int .i64 0, .int .i64 0, .int .i64 0] 157)) = W2 at hb2 hr2 ⊢
  go_loopw [26] (fun i wr => ∃ k : Nat, k ≤ 6 ∧ i = .int .i64 k ∧ Read ws (w1.heap.size + 1) k wr ∧ Below w1.heap.size w1 wr ∧ Hid (∀ j, j < k → (Dt.part ws j).2 = true)) (fun i _ => 6 - (intOf i).toNat)
  case atStart => exact ⟨0, by omega, rfl, hr2, hb2, Lib.hid (fun j hj => by omega)⟩
  case round =>
    clear hr2 hb2
    obtain ⟨k, hk, rfl, hrd, hbr, HOk⟩ := hrel
    by_cases hlt : k < 6
    · have hix := pl8_ix k hlt
      have hpl := pl8_lt k hlt
      have hc := cell_later hbr (HC.out (pl8 k) (by omega))
      have hval := HP.out k hlt
      have hszx : (fs.getD (pl8 k) ⟨#[]⟩).size ≤ 1000 := by
        rw [List.getD_eq_getElem?_getD, List.getElem?_eq_getElem (by omega)]; exact HS.out _ (by omega)
      have hxe : fs[pl8 k]'(by omega) = fs.getD (pl8 k) ⟨#[]⟩ := by
        rw [List.getD_eq_getElem?_getD, List.getElem?_eq_getElem (by omega)]; rfl
      rw [hxe] at hc
      clear hxe
      generalize fs.getD (pl8 k) ⟨#[]⟩ = x at hc hval hszx
      generalize hq : pl8 k = q at hix hpl hc
      clear hq
      have hpl' : (q : Int) < 8 := by omega
      have hk' : (k : Int) < 6 := by omega
      have hW := worth_p k x (Dt.part ws k).1 (Dt.part ws k).2 wr (HT1.out.later hbr) hlt hszx hval
      obtain ⟨a0, a1⟩ := part_bd ws k
      have HX := Lib.hid (And.intro hval hszx)
      clear hval hszx
      by_cases hok : (Dt.part ws k).2 = true
      · rw [hok] at hW
        have HK := Lib.hid hok
        clear hok
        go_wp2_with fail
        refine hW.mono ?_
        rintro e w3 ⟨rfl, hb3⟩
        obtain ⟨⟨old, hold⟩, hfz⟩ := (hrd.later hb3).room k hlt
        have hrd3 := (hrd.later hb3).put hlt
        have hbr3 : Below w1.heap.size w1 w3 := hbr.trans (hb3.mono hbr.size)
        clear hW hc hrd hbr hb3
        go_wp2_with fail
        go_roundw
        case rel => exact ⟨k + 1, by omega, by go_num, hrd3, hbr3.setCell (by show _ ≤ w1.heap.size + 1; omega) _, Lib.hid (fun j hj => by
          by_cases hjk : j = k
          · rw [hjk]; exact HK.out
          · exact HOk.out j (by omega))⟩
        case measure => simp [intOf]; omega
      · have hok' : (Dt.part ws k).2 = false := by simpa using hok
        rw [hok'] at hW
        have HR := Lib.hid (HB.out k hlt hok')
        clear hok hok'
        go_wp2_with fail
        refine hW.mono ?_
        rintro e w3 ⟨rfl, hb3⟩
        have hbr3 : Below w.heap.size w w3 := hb1.trans ((hbr.trans (hb3.mono hbr.size)).mono hb1.size)
        clear hW hc hrd hbr hb3
        go_wp2_with fail
        go_ret2
        exact ⟨by rw [HR.out]; rfl, hbr3⟩
    · obtain rfl : k = 6 := by omega
      have HR := Lib.hid (HY.out HOk.out)
      have c0 := hrd.cell 0 (by omega)
      have c1 := hrd.cell 1 (by omega)
      have c2 := hrd.cell 2 (by omega)
      have c3 := hrd.cell 3 (by omega)
      have c4 := hrd.cell 4 (by omega)
      have c5 := hrd.cell 5 (by omega)
      obtain ⟨m, hm, hm12⟩ := part_month ws
      rw [hm] at c1
      obtain ⟨y0, y1⟩ := part_bd ws 0
      obtain ⟨d0, d1⟩ := part_bd ws 2
      obtain ⟨h0, h1⟩ := part_bd ws 3
      obtain ⟨i0, i1⟩ := part_bd ws 4
      obtain ⟨s0, s1⟩ := part_bd ws 5
      have hM := moment_c (Dt.part ws 0).1 (Dt.part ws 2).1 (Dt.part ws 3).1 (Dt.part ws 4).1 (Dt.part ws 5).1 m wr (HT1.out.later hbr) y0 y1 hm12 d0 d1 h0 h1 i0 i1 s0 s1
      have hmb := mom_bd (Dt.part ws 0).1 (Dt.part ws 2).1 (Dt.part ws 3).1 (Dt.part ws 4).1 (Dt.part ws 5).1 m hm12 y0 y1 d0 d1 h0 h1 i0 i1 s0 s1
      have hme : Dt.mom (Dt.part ws 0).1 m (Dt.part ws 2).1 (Dt.part ws 3).1 (Dt.part ws 4).1 (Dt.part ws 5).1 = Dt.momW ws := by unfold Dt.momW; rw [hm]
      rw [hme] at hM hmb
      obtain ⟨m0, m1⟩ := hmb
      generalize Dt.momW ws = v at hM m0 m1 HR
      clear hrd hm hme y0 y1 d0 d1 h0 h1 i0 i1 s0 s1
      generalize (Dt.part ws 0).1 = q0 at c0 hM
      generalize (Dt.part ws 2).1 = q2 at c2 hM
      generalize (Dt.part ws 3).1 = q3 at c3 hM
      generalize (Dt.part ws 4).1 = q4 at c4 hM
      generalize (Dt.part ws 5).1 = q5 at c5 hM
      have hbr0 : Below w.heap.size w wr := hb1.trans (hbr.mono hb1.size)
      by_cases g0 : 0 ≤ v
      · by_cases g1 : v ≤ 253402300799
        · go_wp2_with fail
          refine hM.mono ?_
          rintro e w3 ⟨rfl, hb3⟩
          clear hM
          go_wp2_with fail
          go_ret2
          exact ⟨by rw [HR.out]; unfold Dt.last; simp [g0, g1], hbr0.trans (hb3.mono hbr0.size)⟩
        · have g1' : decide (v ≤ 253402300799) = false := decide_eq_false g1
          go_wp2_with fail
          refine hM.mono ?_
          rintro e w3 ⟨rfl, hb3⟩
          clear hM
          go_wp2_with fail
          go_ret2
          exact ⟨by rw [HR.out]; unfold Dt.last; simp [g0, g1], hbr0.trans (hb3.mono hbr0.size)⟩
      · have g0' : decide (0 ≤ v) = false := decide_eq_false g0
        go_wp2_with fail
        refine hM.mono ?_
        rintro e w3 ⟨rfl, hb3⟩
        clear hM
        go_wp2_with fail
        go_ret2
        exact ⟨by rw [HR.out, g0']; rfl, hbr0.trans (hb3.mono hbr0.size)⟩
def pl7 (k : Nat) : Nat := ([6, 1, 2, 3, 4, 5] : List Nat).getD k 0
theorem pl7_ix (k : Nat) (h : k < 6) (w : World) : (Instr.index 157 (.agg #[.int .i64 6, .int .i64 1, .int .i64 2, .int .i64 3, .int .i64 4, .int .i64 5]) (.int .i64 k)).run Tryz.prog w = .ok (.int .i64 (pl7 k)) w := by
  have : k = 0 ∨ k = 1 ∨ k = 2 ∨ k = 3 ∨ k = 4 ∨ k = 5 := by omega
  rcases this with rfl | rfl | rfl | rfl | rfl | rfl <;> (show _ = _; kernel_rfl)
theorem pl7_lt (k : Nat) (h : k < 6) : pl7 k < 7 := by
  have : k = 0 ∨ k = 1 ∨ k = 2 ∨ k = 3 ∨ k = 4 ∨ k = 5 := by omega
  rcases this with rfl | rfl | rfl | rfl | rfl | rfl <;> decide
set_option maxHeartbeats 3200000 in
set_option maxRecDepth 100000 in
theorem read_7 (s : ByteArray) (w : World) (hT : DTabs w) (hs : s.size ≤ 33) (hn : (Lib.goFieldsP Dt.sepR s).length = 7) :
    Calls Tryz.prog 114 #[.string s] w fun e w' => e = .returned (.tuple #[.int .i64 (Dt.readW (Dt.fields s)).1, .bool (Dt.readW (Dt.fields s)).2]) ∧ Below w.heap.size w w' := by
  have hF := fields_c s w (by omega)
  have hsz : ∀ j (hj : j < (Lib.goFieldsP Dt.sepR s).length), ((Lib.goFieldsP Dt.sepR s)[j]).size ≤ 1000 := fun j hj => by
    have := field_size s _ (List.getElem_mem hj); omega
  have hpt : ∀ k, k < 6 → Dt.worthP k (((Lib.goFieldsP Dt.sepR s).getD (pl7 k) ⟨#[]⟩).data.toList) = Dt.part (Dt.fields s) k := fun k hk => by
    have h1 := pl7_lt k hk
    unfold Dt.part
    rw [fields_len, hn, show (Dt.places 7).getD k 0 = pl7 k from rfl, fields_at s _ (by omega), List.getD_eq_getElem?_getD, List.getElem?_eq_getElem (by omega)]
    rfl
  have hyes := fun h => readW_yes (ws := Dt.fields s) (by rw [fields_len]; omega) h
  have hbad := fun k hk h => part_bad (ws := Dt.fields s) (k := k) hk h
  obtain ⟨ws, hws⟩ : ∃ ws, Dt.fields s = ws := ⟨_, rfl⟩
  obtain ⟨R, hR⟩ : ∃ R, Dt.readW ws = R := ⟨_, rfl⟩
  rw [hws] at hpt hyes hbad ⊢
  rw [hR] at hyes hbad ⊢
  have hs' : ¬ (33 : Int) < (s.size : Int) := by omega
  have HS := Lib.hid hsz
  have HP := Lib.hid hpt
  have HY := Lib.hid hyes
  have HB := Lib.hid hbad
  have HN := Lib.hid hn
  have HT := Lib.hid hT
  clear hsz hpt hyes hbad hn hT hws hR
  generalize hg : Lib.goFieldsP Dt.sepR s = fs at HS HP HN hF
  clear hg hs
  go_enter Tryz.func114, Tryz.ntmps114
  go_wp2_with fail
  refine hF.mono ?_
  rintro e w1 ⟨A, rfl, hcell, hb1⟩
  have HT1 := Lib.hid (HT.out.later hb1)
  have HC := Lib.hid hcell
  have hlen : fs.length = 7 := HN.out
  clear hF hcell HT
  rw [hlen]
  go_wp2_with fail
  have hb2 : Below w1.heap.size w1 ((w1.alloc (.cells #[.int .i64 6, .int .i64 1, .int .i64 2, .int .i64 3, .int .i64 4, .int .i64 5] 157)).alloc (.cells #[.int .i64 0, .int .i64 0, .int .i64 0, .int .i64 0, .int .i64 0, .int .i64 0] 157)) :=
    ((Below.refl _ _).alloc (Nat.le_refl _) _).alloc (by simp) _
  have hr2 : Read ws (w1.heap.size + 1) 0 ((w1.alloc (.cells #[.int .i64 6, .int .i64 1, .int .i64 2, .int .i64 3, .int .i64 4, .int .i64 5] 157)).alloc (.cells #[.int .i64 0, .int .i64 0, .int .i64 0, .int .i64 0, .int .i64 0, .int .i64 0] 157)) := by
    have := Read.start ws (w1.alloc (.cells #[.int .i64 6, .int .i64 1, .int .i64 2, .int .i64 3, .int .i64 4, .int .i64 5] 157)) #[.int .i64 0, .int .i64 0, .int .i64 0, .int .i64 0, .int .i64 0, .int .i64 0] rfl
    simpa using this
  generalize ((w1.alloc (.cells #[.int .i64 6, .int .i64 1, .int .i64 2, .int .i64 3, .int .i64 4, .int .i64 5] 157)).alloc (.cells #[.int .i64 0, .int .i64 0, .int .i64 0, .int .i64 0, .int .i64 0, .int .i64 0] 157)) = W2 at hb2 hr2 ⊢
  go_loopw [26] (fun i wr => ∃ k : Nat, k ≤ 6 ∧ i = .int .i64 k ∧ Read ws (w1.heap.size + 1) k wr ∧ Below w1.heap.size w1 wr ∧ Hid (∀ j, j < k → (Dt.part ws j).2 = true)) (fun i _ => 6 - (intOf i).toNat)
  case atStart => exact ⟨0, by omega, rfl, hr2, hb2, Lib.hid (fun j hj => by omega)⟩
  case round =>
    clear hr2 hb2
    obtain ⟨k, hk, rfl, hrd, hbr, HOk⟩ := hrel
    by_cases hlt : k < 6
    · have hix := pl7_ix k hlt
      have hpl := pl7_lt k hlt
      have hc := cell_later hbr (HC.out (pl7 k) (by omega))
      have hval := HP.out k hlt
      have hszx : (fs.getD (pl7 k) ⟨#[]⟩).size ≤ 1000 := by
        rw [List.getD_eq_getElem?_getD, List.getElem?_eq_getElem (by omega)]; exact HS.out _ (by omega)
      have hxe : fs[pl7 k]'(by omega) = fs.getD (pl7 k) ⟨#[]⟩ := by
        rw [List.getD_eq_getElem?_getD, List.getElem?_eq_getElem (by omega)]; rfl
      rw [hxe] at hc
      clear hxe
      generalize fs.getD (pl7 k) ⟨#[]⟩ = x at hc hval hszx
      generalize hq : pl7 k = q at hix hpl hc
      clear hq
      have hpl' : (q : Int) < 7 := by omega
      have hk' : (k : Int) < 6 := by omega
      have hW := worth_p k x (Dt.part ws k).1 (Dt.part ws k).2 wr (HT1.out.later hbr) hlt hszx hval
      obtain ⟨a0, a1⟩ := part_bd ws k
      have HX := Lib.hid (And.intro hval hszx)
      clear hval hszx
      by_cases hok : (Dt.part ws k).2 = true
      · rw [hok] at hW
        have HK := Lib.hid hok
        clear hok
        go_wp2_with fail
        refine hW.mono ?_
        rintro e w3 ⟨rfl, hb3⟩
        obtain ⟨⟨old, hold⟩, hfz⟩ := (hrd.later hb3).room k hlt
        have hrd3 := (hrd.later hb3).put hlt
        have hbr3 : Below w1.heap.size w1 w3 := hbr.trans (hb3.mono hbr.size)
        clear hW hc hrd hbr hb3
        go_wp2_with fail
        go_roundw
        case rel => exact ⟨k + 1, by omega, by go_num, hrd3, hbr3.setCell (by show _ ≤ w1.heap.size + 1; omega) _, Lib.hid (fun j hj => by
          by_cases hjk : j = k
          · rw [hjk]; exact HK.out
          · exact HOk.out j (by omega))⟩
        case measure => simp [intOf]; omega
      · have hok' : (Dt.part ws k).2 = false := by simpa using hok
        rw [hok'] at hW
        have HR := Lib.hid (HB.out k hlt hok')
        clear hok hok'
        go_wp2_with fail
        refine hW.mono ?_
        rintro e w3 ⟨rfl, hb3⟩
        have hbr3 : Below w.heap.size w w3 := hb1.trans ((hbr.trans (hb3.mono hbr.size)).mono hb1.size)
        clear hW hc hrd hbr hb3
        go_wp2_with fail
        go_ret2
        exact ⟨by rw [HR.out]; rfl, hbr3⟩
    · obtain rfl : k = 6 := by omega
      have HR := Lib.hid (HY.out HOk.out)
      have c0 := hrd.cell 0 (by omega)
      have c1 := hrd.cell 1 (by omega)
      have c2 := hrd.cell 2 (by omega)
      have c3 := hrd.cell 3 (by omega)
      have c4 := hrd.cell 4 (by omega)
      have c5 := hrd.cell 5 (by omega)
      obtain ⟨m, hm, hm12⟩ := part_month ws
      rw [hm] at c1
      obtain ⟨y0, y1⟩ := part_bd ws 0
      obtain ⟨d0, d1⟩ := part_bd ws 2
      obtain ⟨h0, h1⟩ := part_bd ws 3
      obtain ⟨i0, i1⟩ := part_bd ws 4
      obtain ⟨s0, s1⟩ := part_bd ws 5
      have hM := moment_c (Dt.part ws 0).1 (Dt.part ws 2).1 (Dt.part ws 3).1 (Dt.part ws 4).1 (Dt.part ws 5).1 m wr (HT1.out.later hbr) y0 y1 hm12 d0 d1 h0 h1 i0 i1 s0 s1
      have hmb := mom_bd (Dt.part ws 0).1 (Dt.part ws 2).1 (Dt.part ws 3).1 (Dt.part ws 4).1 (Dt.part ws 5).1 m hm12 y0 y1 d0 d1 h0 h1 i0 i1 s0 s1
      have hme : Dt.mom (Dt.part ws 0).1 m (Dt.part ws 2).1 (Dt.part ws 3).1 (Dt.part ws 4).1 (Dt.part ws 5).1 = Dt.momW ws := by unfold Dt.momW; rw [hm]
      rw [hme] at hM hmb
      obtain ⟨m0, m1⟩ := hmb
      generalize Dt.momW ws = v at hM m0 m1 HR
      clear hrd hm hme y0 y1 d0 d1 h0 h1 i0 i1 s0 s1
      generalize (Dt.part ws 0).1 = q0 at c0 hM
      generalize (Dt.part ws 2).1 = q2 at c2 hM
      generalize (Dt.part ws 3).1 = q3 at c3 hM
      generalize (Dt.part ws 4).1 = q4 at c4 hM
      generalize (Dt.part ws 5).1 = q5 at c5 hM
      have hbr0 : Below w.heap.size w wr := hb1.trans (hbr.mono hb1.size)
      by_cases g0 : 0 ≤ v
      · by_cases g1 : v ≤ 253402300799
        · go_wp2_with fail
          refine hM.mono ?_
          rintro e w3 ⟨rfl, hb3⟩
          clear hM
          go_wp2_with fail
          go_ret2
          exact ⟨by rw [HR.out]; unfold Dt.last; simp [g0, g1], hbr0.trans (hb3.mono hbr0.size)⟩
        · have g1' : decide (v ≤ 253402300799) = false := decide_eq_false g1
          go_wp2_with fail
          refine hM.mono ?_
          rintro e w3 ⟨rfl, hb3⟩
          clear hM
          go_wp2_with fail
          go_ret2
          exact ⟨by rw [HR.out]; unfold Dt.last; simp [g0, g1], hbr0.trans (hb3.mono hbr0.size)⟩
      · have g0' : decide (0 ≤ v) = false := decide_eq_false g0
        go_wp2_with fail
        refine hM.mono ?_
        rintro e w3 ⟨rfl, hb3⟩
        clear hM
        go_wp2_with fail
        go_ret2
        exact ⟨by rw [HR.out, g0']; rfl, hbr0.trans (hb3.mono hbr0.size)⟩
set_option maxHeartbeats 800000 in
theorem read_no (s : ByteArray) (w : World) (hs : s.size ≤ 33) (h8 : ¬ (Lib.goFieldsP Dt.sepR s).length = 8) (h7 : ¬ (Lib.goFieldsP Dt.sepR s).length = 7) :
    Calls Tryz.prog 114 #[.string s] w fun e w' => e = .returned (.tuple #[.int .i64 (Dt.readW (Dt.fields s)).1, .bool (Dt.readW (Dt.fields s)).2]) ∧ Below w.heap.size w w' := by
  have hF := (fields_c s w (by omega)).mono (fun e w' ⟨A, h1, _, h3⟩ => (⟨A, h1, h3⟩ : ∃ A, e = Ending.returned (Value.slice (some ⟨A, 0, none⟩) (Lib.goFieldsP Dt.sepR s).length (Lib.goFieldsP Dt.sepR s).length) ∧ Below w.heap.size w w'))
  have HR := Lib.hid (readW_no s h8 h7)
  have hs' : ¬ (33 : Int) < (s.size : Int) := by omega
  generalize (Lib.goFieldsP Dt.sepR s).length = n at hF h8 h7
  have g8 : ((n : Int) == 8) = false := beq_eq_false_iff_ne.2 (by omega)
  have g7 : ((n : Int) == 7) = false := beq_eq_false_iff_ne.2 (by omega)
  clear h8 h7 hs
  go_enter Tryz.func114, Tryz.ntmps114
  go_wp2_with fail
  refine hF.mono ?_
  rintro e w1 ⟨A, rfl, hb1⟩
  clear hF
  go_wp2_with fail
  go_ret2
  exact ⟨by rw [HR.out]; rfl, hb1.alloc hb1.size _⟩
set_option maxHeartbeats 800000 in
theorem read_long (s : ByteArray) (w : World) (hs : (33 : Int) < (s.size : Int)) :
    Calls Tryz.prog 114 #[.string s] w fun e w' => e = .returned (.tuple #[.int .i64 0, .bool false]) ∧ w = w' := by
  go_enter Tryz.func114, Tryz.ntmps114
  go_wp2_with fail
  go_ret2
  exact ⟨rfl, rfl⟩
theorem read_c (s : ByteArray) (w : World) (hT : DTabs w) (hs : s.size ≤ 33) :
    Calls Tryz.prog 114 #[.string s] w fun e w' => e = .returned (.tuple #[.int .i64 (Dt.readW (Dt.fields s)).1, .bool (Dt.readW (Dt.fields s)).2]) ∧ Below w.heap.size w w' := by
  by_cases h8 : (Lib.goFieldsP Dt.sepR s).length = 8
  · exact read_8 s w hT hs h8
  · by_cases h7 : (Lib.goFieldsP Dt.sepR s).length = 7
    · exact read_7 s w hT hs h7
    · exact read_no s w hs h8 h7
end Go.Proofs.YtoanelobggledaaGreatDoor

namespace Go.Proofs.YtoanelobggledaaGreatDoor
open Go.RowKit

noncomputable def f3 (a : Int) (k : Nat) : ByteArray := str (Dt.form a k)
theorem f3_ix (a : Int) (k : Nat) (h : k < 3) (w : World) : (Instr.index 128 (.agg #[.string (f3 a 0), .string (f3 a 1), .string (f3 a 2)]) (.int .i64 k)).run Tryz.prog w = .ok (.string (f3 a k)) w := by
  have : k = 0 ∨ k = 1 ∨ k = 2 := by omega
  rcases this with rfl | rfl | rfl
  · exact ix3_0 _ _ _ w
  · exact ix3_1 _ _ _ w
  · exact ix3_2 _ _ _ w
theorem readW_bd {ws : List (List UInt8)} {a : Int} (h : Dt.readW ws = (a, true)) : 0 ≤ a ∧ a ≤ 253402300799 := by
  unfold Dt.readW at h
  split at h
  · split at h
    · simp only [Prod.mk.injEq, Bool.and_eq_true, decide_eq_true_eq] at h
      rw [← h.1]; exact h.2
    · simp at h
  · simp at h
theorem parseW_found {l : List UInt8} {ws : List (List UInt8)} {a : Int} {k : Nat} (hl : l.length ≤ 33) (h : Dt.readW ws = (a, true)) (hk : k < 3) (e : l = Dt.form a k) : Dt.parseW l ws = (a, 0) := by
  unfold Dt.parseW
  rw [if_neg (by omega), h, if_pos]
  refine ⟨rfl, ?_⟩
  have : k = 0 ∨ k = 1 ∨ k = 2 := by omega
  rcases this with rfl | rfl | rfl
  · exact .inl e
  · exact .inr (.inl e)
  · exact .inr (.inr e)
theorem parseW_none {l : List UInt8} {ws : List (List UInt8)} {a : Int} (h : Dt.readW ws = (a, true)) (hno : ∀ k : Nat, k < 3 → l ≠ Dt.form a k) : Dt.parseW l ws = (0, 10) := by
  unfold Dt.parseW
  split
  · rfl
  · rw [h, if_neg]
    rintro ⟨_, e | e | e⟩
    · exact hno 0 (by omega) e
    · exact hno 1 (by omega) e
    · exact hno 2 (by omega) e
theorem parseW_bad {l : List UInt8} {ws : List (List UInt8)} (h : (Dt.readW ws).2 = false) : Dt.parseW l ws = (0, 10) := by
  unfold Dt.parseW
  split
  · rfl
  · rw [if_neg]
    rintro ⟨e, _⟩
    rw [h] at e; cases e
theorem parseW_long {l : List UInt8} {ws : List (List UInt8)} (h : 33 < l.length) : Dt.parseW l ws = (0, 10) := by
  unfold Dt.parseW
  rw [if_pos h]
set_option maxHeartbeats 1600000 in
theorem Parse_c (s : ByteArray) (w : World) (hT : DTabs w) :
    Calls Tryz.prog 87 #[.string s] w fun e w' => e = .returned (.tuple #[.int .i64 (Dt.parseW s.data.toList (Dt.fields s)).1, .int .i64 (Dt.parseW s.data.toList (Dt.fields s)).2]) ∧ Below w.heap.size w w' := by
  have hsz : s.data.toList.length = s.size := Oct.length_size s
  by_cases hl : 33 < s.size
  · have HR := Lib.hid (parseW_long (l := s.data.toList) (ws := Dt.fields s) (by omega))
    have hR := read_long s w (by omega)
    clear hsz hl
    go_enter Tryz.func87, Tryz.ntmps87
    go_wp2_with fail
    refine hR.mono ?_
    rintro e w1 ⟨rfl, rfl⟩
    go_wp2_with fail
    go_ret2
    exact ⟨by rw [HR.out]; rfl, Below.refl _ _⟩
  have hR := read_c s w hT (by omega)
  obtain ⟨a, ok, hr⟩ : ∃ a ok, Dt.readW (Dt.fields s) = (a, ok) := ⟨_, _, rfl⟩
  rw [hr] at hR
  cases ok with
  | false =>
    have HR := Lib.hid (parseW_bad (l := s.data.toList) (ws := Dt.fields s) (by rw [hr]))
    clear hsz hl hr
    go_enter Tryz.func87, Tryz.ntmps87
    go_wp2_with fail
    refine hR.mono ?_
    rintro e w1 ⟨rfl, hb⟩
    go_wp2_with fail
    go_ret2
    exact ⟨by rw [HR.out]; rfl, hb⟩
  | true =>
    obtain ⟨a0, a1⟩ := readW_bd hr
    have HY := Lib.hid (fun k hk e => parseW_found (l := s.data.toList) (k := k) (by omega) hr hk e)
    have HN := Lib.hid (parseW_none (l := s.data.toList) hr)
    have hF := fun w hT => forms_a a w hT a0 a1
    have hfv : formsV a = .agg #[.string (f3 a 0), .string (f3 a 1), .string (f3 a 2)] := rfl
    rw [hfv] at hF
    have HT := Lib.hid hT
    clear hsz hl hr hfv hT
    go_enter Tryz.func87, Tryz.ntmps87
    go_wp2_with fail
    refine hR.mono ?_
    rintro e w1 ⟨rfl, hb⟩
    have hT1 := HT.out.later hb
    clear hR
    go_wp2_with fail
    refine (hF w1 hT1).mono ?_
    rintro e w2 ⟨rfl, hb2⟩
    have HB := Lib.hid (hb.trans (hb2.mono hb.size))
    clear hF hT1 hb hb2
    go_wp2_with fail
    go_loop [17] (fun i => ∃ k : Nat, k ≤ 3 ∧ i = .int .i64 k ∧ ∀ j : Nat, j < k → s.data.toList ≠ Dt.form a j) (fun i => 3 - (intOf i).toNat)
    case atStart => exact ⟨0, by omega, rfl, fun j hj => by omega⟩
    case round =>
      obtain ⟨k, hk, rfl, hno⟩ := hrel
      have HNo := Lib.hid hno
      clear hno
      by_cases hlt : k < 3
      · have hix := f3_ix a k hlt
        have hlt' : (k : Int) < 3 := by omega
        by_cases he : s.data.toList = Dt.form a k
        · have hb : ((f3 a k).toList == s.toList) = true := by rw [bytes_eq]; unfold f3; rw [str_list]; simpa using he.symm
          have HR := Lib.hid (HY.out k hlt he)
          clear he
          go_wp2_with fail
          go_ret2
          exact ⟨by rw [HR.out]; rfl, HB.out⟩
        · have hb : ((f3 a k).toList == s.toList) = false := by rw [bytes_eq]; unfold f3; rw [str_list]; simpa using fun e => he e.symm
          have HE := Lib.hid he
          clear he
          go_wp2_with fail
          go_round
          case rel => exact ⟨k + 1, by omega, by go_num, fun j hj => by
            by_cases hjk : j = k
            · rw [hjk]; exact HE.out
            · exact HNo.out j (by omega)⟩
          case measure => simp [intOf]; omega
      · have hlt' : ¬ (k : Int) < 3 := by omega
        have HR := Lib.hid (HN.out (fun j hj => HNo.out j (by omega)))
        go_wp2_with fail
        go_ret2
        exact ⟨by rw [HR.out]; rfl, HB.out⟩
theorem Parse_yes (s : ByteArray) (a : Int) (w : World) (hT : DTabs w) (h : Dt.Says s.data.toList a) :
    Calls Tryz.prog 87 #[.string s] w fun e w' => e = .returned (.tuple #[.int .i64 a, .int .i64 0]) ∧ Below w.heap.size w w' := by
  have := Parse_c s w hT
  rw [h.parse (Dt.fields_words s)] at this
  exact this
theorem Parse_no (s : ByteArray) (w : World) (hT : DTabs w) (h : ∀ a, ¬ Dt.Says s.data.toList a) :
    Calls Tryz.prog 87 #[.string s] w fun e w' => e = .returned (.tuple #[.int .i64 0, .int .i64 10]) ∧ Below w.heap.size w w' := by
  have := Parse_c s w hT
  rw [Dt.silent_parse h (Dt.fields_words s)] at this
  exact this
end Go.Proofs.YtoanelobggledaaGreatDoor

