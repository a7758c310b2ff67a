/- What lies below, out of the texts of the layers under this one: Dt10, Dt11, Dt12, Dt13, Dt14, Dt15, Dt16, Dt17, Dt18, Dt19, DtMath, DtMathB, DtMathC, DtMathD, DtMathE. -/
import Derived.Test.YtoanelobggledaaGreatDoorVDtBase
import Derived.IntWalk
namespace Go.Proofs.YtoanelobggledaaGreatDoor
open Go.RowKit

def lens : List Int := [31, 28, 31, 30, 31, 30, 31, 31, 30, 31, 30, 31]
theorem lens_at (j : Nat) (h : j < 12) (w : World) : (w.alloc (.cells #[.int .i64 31, .int .i64 28, .int .i64 31, .int .i64 30, .int .i64 31, .int .i64 30, .int .i64 31, .int .i64 31, .int .i64 30, .int .i64 31, .int .i64 30, .int .i64 31] 3)).cell? ⟨w.heap.size, j, none⟩ = some (.int .i64 (lens.getD j 0)) := by
  rw [World.cell?_alloc_at _ _ _ _ rfl]
  rcases j with _ | _ | _ | _ | _ | _ | _ | _ | _ | _ | _ | _ | j
  all_goals first | rfl | omega
theorem days_at (j : Nat) (h : j < 7) (w : World) : (w.alloc (.cells #[.string ⟨#[83, 117, 110, 100, 97, 121]⟩, .string ⟨#[77, 111, 110, 100, 97, 121]⟩, .string ⟨#[84, 117, 101, 115, 100, 97, 121]⟩, .string ⟨#[87, 101, 100, 110, 101, 115, 100, 97, 121]⟩, .string ⟨#[84, 104, 117, 114, 115, 100, 97, 121]⟩, .string ⟨#[70, 114, 105, 100, 97, 121]⟩, .string ⟨#[83, 97, 116, 117, 114, 100, 97, 121]⟩] 9)).cell? ⟨w.heap.size, j, none⟩ = some (.string (str (Dt.dayNames.getD j []))) := by
  rw [World.cell?_alloc_at _ _ _ _ rfl]
  rcases j with _ | _ | _ | _ | _ | _ | _ | j
  all_goals first | rfl | omega
theorem mons_at (j : Nat) (h : j < 12) (w : World) : (w.alloc (.cells #[.string ⟨#[74, 97, 110]⟩, .string ⟨#[70, 101, 98]⟩, .string ⟨#[77, 97, 114]⟩, .string ⟨#[65, 112, 114]⟩, .string ⟨#[77, 97, 121]⟩, .string ⟨#[74, 117, 110]⟩, .string ⟨#[74, 117, 108]⟩, .string ⟨#[65, 117, 103]⟩, .string ⟨#[83, 101, 112]⟩, .string ⟨#[79, 99, 116]⟩, .string ⟨#[78, 111, 118]⟩, .string ⟨#[68, 101, 99]⟩] 9)).cell? ⟨w.heap.size, j, none⟩ = some (.string (monS j)) := by
  rw [World.cell?_alloc_at _ _ _ _ rfl]
  rcases j with _ | _ | _ | _ | _ | _ | _ | _ | _ | _ | _ | _ | j
  all_goals first | rfl | omega
set_option maxHeartbeats 1000000 in
theorem long_c (y : Int) (j : Nat) (w : World) (h0 : 0 ≤ y) (h1 : y ≤ 11899) (hj : j < 12) :
    Calls Tryz.prog 157 #[.int .i64 y, .int .i64 j] w fun e w' => e = .returned (.int .i64 (Dt.ml y j)) ∧ Below w.heap.size w w' := by
  have hc := lens_at j hj w
  have hB : Below w.heap.size w (w.alloc (.cells #[.int .i64 31, .int .i64 28, .int .i64 31, .int .i64 30, .int .i64 31, .int .i64 30, .int .i64 31, .int .i64 31, .int .i64 30, .int .i64 31, .int .i64 30, .int .i64 31] 3)) := (Below.refl _ _).alloc (Nat.le_refl _) _
  have hj' : (j : Int) < 12 := by omega
  by_cases hm : j = 1 ∧ Dt.lp y = 1
  · obtain ⟨rfl, hl⟩ := hm
    have hlp : y % 4 = 0 ∧ (¬ y % 100 = 0 ∨ y % 400 = 0) := by
      unfold Dt.lp at hl
      split at hl
      · assumption
      · omega
    have hR : Hid (Dt.ml y ((1 : Nat) : Int) = 29) := by show 28 + Dt.lp y = 29; omega
    clear hl hc
    obtain ⟨h4, h100⟩ := hlp
    by_cases g : y % 400 = 0
    · clear h100
      go_enter Tryz.func157, Tryz.ntmps157
      go_wp2
      go_ret
      exact ⟨ret_int hR.out.symm, hB⟩
    · have g' : (y % 400 == 0) = false := beq_eq_false_iff_ne.2 g
      have g1 : ¬ y % 100 = 0 := by omega
      have g2 : (y % 100 != 0) = true := by rw [bne, beq_eq_false_iff_ne.2 g1]; rfl
      clear h100 g g1
      go_enter Tryz.func157, Tryz.ntmps157
      go_wp2
      go_ret
      exact ⟨ret_int hR.out.symm, hB⟩
  · have hR : Hid (Dt.ml y j = lens.getD j 0) := ml_tab y j hj hm
    obtain ⟨v, hv⟩ : ∃ v, lens.getD j 0 = v := ⟨_, rfl⟩
    rw [hv] at hc hR
    clear hv
    by_cases h1' : j = 1
    · have hl : Dt.lp y = 0 := by have := Dt.lp_01 y; omega
      subst h1'
      clear hm
      have q0 : ¬ y % 400 = 0 := by
        intro e
        unfold Dt.lp at hl
        rw [if_pos (by omega)] at hl; omega
      have q1 : (y % 400 == 0) = false := beq_eq_false_iff_ne.2 q0
      by_cases h4 : y % 4 = 0
      · have q2 : y % 100 = 0 := by
          unfold Dt.lp at hl
          split at hl
          · omega
          · omega
        clear hl q0
        go_enter Tryz.func157, Tryz.ntmps157
        go_wp2
        go_ret
        exact ⟨ret_int hR.out.symm, hB⟩
      · have q3 : (y % 4 == 0) = false := beq_eq_false_iff_ne.2 h4
        clear hl h4 q0
        go_enter Tryz.func157, Tryz.ntmps157
        go_wp2
        go_ret
        exact ⟨ret_int hR.out.symm, hB⟩
    · have hne : ((j : Int) == 1) = false := beq_eq_false_iff_ne.2 (by omega)
      clear hm h1'
      go_enter Tryz.func157, Tryz.ntmps157
      go_wp2
      go_ret
      exact ⟨ret_int hR.out.symm, hB⟩
set_option maxHeartbeats 400000 in
theorem year_c (y : Int) (w : World) (h0 : 0 ≤ y) (h1 : y ≤ 11899) :
    Calls Tryz.prog 158 #[.int .i64 y] w fun e w' => e = .returned (.int .i64 (365 + Dt.lp y)) ∧ Below w.heap.size w w' := by
  have hL := long_c y 1 w h0 h1 (by omega)
  rw [show Dt.ml y ((1 : Nat) : Int) = 28 + Dt.lp y from rfl] at hL
  have hb := Dt.lp_01 y
  obtain ⟨l0, l1⟩ := hb
  go_enter Tryz.func158, Tryz.ntmps158
  go_wp2_with fail
  refine hL.mono ?_
  rintro e w' ⟨rfl, hb⟩
  go_wp2_with fail
  go_ret
  exact ⟨ret_int (by omega), hb⟩
set_option maxHeartbeats 400000 in
theorem Day_c (k : Nat) (w : World) (hk : k < 7) :
    Calls Tryz.prog 120 #[.int .i64 k] w fun e w' => e = .returned (.string (str (Dt.dayNames.getD k []))) ∧ Below w.heap.size w w' := by
  have hc := days_at k hk w
  have hk' : (k : Int) < 7 := by omega
  generalize str (Dt.dayNames.getD k []) = x at hc
  go_enter Tryz.func120, Tryz.ntmps120
  go_wp2
  go_ret
  exact ⟨rfl, (Below.refl _ _).alloc (Nat.le_refl _) _⟩
set_option maxHeartbeats 400000 in
theorem Month_c (k : Nat) (w : World) (hk : k < 12) :
    Calls Tryz.prog 159 #[.int .i64 k] w fun e w' => e = .returned (.string (monS k)) ∧ Below w.heap.size w w' := by
  have hc := mons_at k hk w
  have hk' : (k : Int) < 12 := by omega
  go_enter Tryz.func159, Tryz.ntmps159
  go_wp2
  go_ret
  exact ⟨rfl, (Below.refl _ _).alloc (Nat.le_refl _) _⟩
def digs (n : Nat) : Nat → List UInt8
  | 0 => []
  | k + 1 => Oct.ch (n / 10 ^ k % 10) :: digs n k
theorem digs_step (n k : Nat) : n / 10 ^ k / 10 = n / 10 ^ (k + 1) := by rw [Nat.div_div_eq_div_mul, Nat.pow_succ]
theorem digs2 (n : Nat) (h : n < 100) : digs n 2 = Dt.d2 n := by
  show [Oct.ch (n / 10 ^ 1 % 10), Oct.ch (n / 10 ^ 0 % 10)] = [Dt.dc ((n : Int) / 10), Dt.dc ((n : Int) % 10)]
  unfold Dt.dc
  rw [show ((n : Int) / 10).toNat = n / 10 ^ 1 % 10 by omega, show ((n : Int) % 10).toNat = n / 10 ^ 0 % 10 by omega]
theorem digs4 (n : Nat) (h : n < 10000) : digs n 4 = Dt.d4 n := by
  show [Oct.ch (n / 10 ^ 3 % 10), Oct.ch (n / 10 ^ 2 % 10), Oct.ch (n / 10 ^ 1 % 10), Oct.ch (n / 10 ^ 0 % 10)] = [Dt.dc ((n : Int) / 1000), Dt.dc ((n : Int) / 100 % 10), Dt.dc ((n : Int) / 10 % 10), Dt.dc ((n : Int) % 10)]
  unfold Dt.dc
  rw [show ((n : Int) / 1000).toNat = n / 10 ^ 3 % 10 by omega, show ((n : Int) / 100 % 10).toNat = n / 10 ^ 2 % 10 by omega, show ((n : Int) / 10 % 10).toNat = n / 10 ^ 1 % 10 by omega, show ((n : Int) % 10).toNat = n / 10 ^ 0 % 10 by omega]
set_option maxHeartbeats 1600000 in
set_option maxRecDepth 100000 in
theorem dig_c (n size : Nat) (w : World) (hn : n < 10000) (hs : size ≤ 4) :
    Calls Tryz.prog 161 #[.int .i64 n, .int .i64 size] w fun e w' => e = .returned (.string (str (digs n size))) ∧ Below w.heap.size w w' := by
  go_enter Tryz.func161, Tryz.ntmps161
  go_wp2_with fail
  go_loopw [0, 5, 6] (fun y s i wr => ∃ (k v : Nat) (x : ByteArray), k ≤ size ∧ i = .int .i64 k ∧ y = .int .i64 v ∧ s = .string x ∧ v ≤ n ∧ x.size = k ∧ Hid (v = n / 10 ^ k ∧ x = str (digs n k)) ∧ Below w.heap.size w wr) (fun _ _ i _ => size - (intOf i).toNat)
  case atStart => exact ⟨0, n, ⟨#[]⟩, by omega, rfl, rfl, rfl, Nat.le_refl _, rfl, ⟨by simp, rfl⟩, Below.refl _ _⟩
  case round =>
    obtain ⟨k, v, x, hk, rfl, rfl, rfl, hv, hx, HD, hB⟩ := hrel
    by_cases hlt : k < size
    · have hss : (str [Oct.ch (v % 10)]).size = 1 := str_size _
      have hcv := (Buf.one (Below.refl wr.heap.size wr) (Oct.ch (v % 10)) (48 + (v : Int) % 10) (Oct.ch_is48 10 v (Nat.mod_lt _ (by decide)))).string
      have HF : Hid (v / 10 = n / 10 ^ (k + 1) ∧ str [Oct.ch (v % 10)] ++ x = str (digs n (k + 1))) := by
        refine ⟨by rw [HD.out.1, digs_step], ?_⟩
        rw [HD.out.2, HD.out.1, str_app]; rfl
      have hsz : (str [Oct.ch (v % 10)] ++ x).size = k + 1 := by rw [ByteArray.size_append, hss, hx]; omega
      have HZ := Lib.hid hsz
      clear hsz
      go_wp2_with fail
      go_roundw
      case rel => exact ⟨k + 1, v / 10, _, by omega, by go_num, by go_num, rfl, by omega, HZ.out, HF, hB.alloc hB.size _⟩
      case measure => simp [intOf]; omega
    · obtain rfl : k = size := by omega
      go_wp2_with fail
      go_ret
      exact ⟨ret_str HD.out.2, hB⟩
theorem dig2 (n : Int) (w : World) (h0 : 0 ≤ n) (h1 : n < 100) :
    Calls Tryz.prog 161 #[.int .i64 n, .int .i64 2] w fun e w' => e = .returned (.string (str (Dt.d2 n))) ∧ Below w.heap.size w w' := by
  obtain ⟨n, rfl⟩ : ∃ k : Nat, n = k := ⟨n.toNat, by omega⟩
  have := dig_c n 2 w (by omega) (by omega)
  rw [digs2 n (by omega)] at this
  exact this
theorem dig4 (n : Int) (w : World) (h0 : 0 ≤ n) (h1 : n < 10000) :
    Calls Tryz.prog 161 #[.int .i64 n, .int .i64 4] w fun e w' => e = .returned (.string (str (Dt.d4 n))) ∧ Below w.heap.size w w' := by
  obtain ⟨n, rfl⟩ : ∃ k : Nat, n = k := ⟨n.toNat, by omega⟩
  have := dig_c n 4 w (by omega) (by omega)
  rw [digs4 n (by omega)] at this
  exact this
end Go.Proofs.YtoanelobggledaaGreatDoor

namespace Go.Proofs.YtoanelobggledaaGreatDoor
open Go.RowKit

theorem year_le {y z n : Int} (h : Dt.ny z ≤ n) (h' : n < Dt.ny (y + 1)) : z ≤ y := by
  rcases Int.lt_or_le y z with g | g
  · have := Dt.ny_mono (y + 1) z (by omega); omega
  · exact g
set_option maxHeartbeats 1600000 in
theorem When_c (a y d : Int) (m : Nat) (w : World) (a0 : 0 ≤ a) (a1 : a ≤ 253402300799) (hd : Dt.IsDate (a / 86400) y m d) :
    Calls Tryz.prog 160 #[.int .i64 a] w fun e w' => e = .returned (.tuple #[.int .i64 y, .int .i64 m, .int .i64 d, .int .i64 (Dt.wday (a / 86400))]) ∧ Below w.heap.size w w' := by
  have HY := Lib.hid hd.in_year
  have HM := Lib.hid hd.in_month
  have y0 := hd.y0
  have y1 := hd.y1
  have hm : m < 12 := by have := hd.m1; omega
  have HE := Lib.hid hd.n_
  clear hd
  go_enter Tryz.func160, Tryz.ntmps160
  go_wp2_with fail
  go_loop [6, 8] (fun r t => ∃ z n : Int, 1970 ≤ z ∧ z ≤ y ∧ 0 ≤ n ∧ n ≤ 2932896 ∧ r = .int .i64 n ∧ t = .int .i64 z ∧ Hid (Dt.ny z + n = a / 86400)) (fun r _ => (intOf r).toNat)
  case atStart => exact ⟨1970, a / 86400, by omega, by omega, by omega, by omega, rfl, rfl, Lib.hid (by rw [Dt.ny_1970]; omega)⟩
  case round =>
    obtain ⟨z, n, z0, z1, n0, n1, rfl, rfl, HZ⟩ := hrel
    by_cases hc : 146097 ≤ n
    · have hz : z + 400 ≤ y := by
        have h1 := Dt.ny_400 z
        have h2 := HZ.out
        have h3 := HY.out.2
        exact year_le (n := a / 86400) (by omega) h3
      have HZ' : Hid (Dt.ny (z + 400) + (n - 146097) = a / 86400) := by
        have h1 := Dt.ny_400 z
        have h2 := HZ.out
        show _ = _
        omega
      go_wp2_with fail
      go_round
      case rel => exact ⟨z + 400, n - 146097, by omega, by omega, by omega, by omega, rfl, rfl, HZ'⟩
      case measure => simp [intOf]; omega
    · have hc' : n < 146097 := by omega
      clear hc
      go_wp2_with fail
      go_loopw [6, 8] (fun r t wr => ∃ z n : Int, 1970 ≤ z ∧ z ≤ y ∧ 0 ≤ n ∧ n ≤ 2932896 ∧ r = .int .i64 n ∧ t = .int .i64 z ∧ Hid (Dt.ny z + n = a / 86400) ∧ Below w.heap.size w wr) (fun r _ _ => (intOf r).toNat)
      case atStart => exact ⟨z, n, z0, z1, n0, n1, rfl, rfl, HZ, Below.refl _ _⟩
      case round =>
        clear hc' n0 n1 z0 z1 HZ
        obtain ⟨z, n, z0, z1, n0, n1, rfl, rfl, HZ, hB⟩ := hrel
        have hl := Dt.lp_01 z
        obtain ⟨l0, l1⟩ := hl
        by_cases hc : 365 + Dt.lp z ≤ n
        · have hs := Dt.ny_succ z
          have hz : z + 1 ≤ y := year_le (n := a / 86400) (by have := HZ.out; omega) HY.out.2
          have HZ' : Hid (Dt.ny (z + 1) + (n - (365 + Dt.lp z)) = a / 86400) := by
            have h2 := HZ.out
            show _ = _
            omega
          clear hs
          go_wp2_with fail
          refine (year_c z _ (by omega) (by omega)).mono ?_
          rintro e w1 ⟨rfl, hb1⟩
          go_wp2_with fail
          refine (year_c z _ (by omega) (by omega)).mono ?_
          rintro e w2 ⟨rfl, hb2⟩
          go_wp2_with fail
          go_roundw
          case rel => exact ⟨z + 1, n - (365 + Dt.lp z), by omega, by omega, by omega, by omega, rfl, rfl, HZ', bt (hB.trans (hb1.mono hB.size)) hb2⟩
          case measure => simp [intOf]; omega
        · obtain rfl : z = y := by
            have hs := Dt.ny_succ z
            have h2 := HZ.out
            have h3 := HY.out
            have := year_le (y := z) (z := y) (n := a / 86400) h3.1 (by omega)
            omega
          have hn : n = a / 86400 - Dt.ny z := by have := HZ.out; omega
          have HN := Lib.hid hn
          clear hn
          go_wp2_with fail
          refine (year_c z _ (by omega) (by omega)).mono ?_
          rintro e w1 ⟨rfl, hb1⟩
          have hB1 := hB.trans (hb1.mono hB.size)
          clear hB hb1
          go_wp2_with fail
          go_loopw [6, 9] (fun r k wr => ∃ (j : Nat) (q : Int), j ≤ m ∧ k = .int .i64 j ∧ r = .int .i64 q ∧ 0 ≤ q ∧ q ≤ 400 ∧ Hid (q = a / 86400 - Dt.ny z - Dt.cum z j) ∧ Below w.heap.size w wr) (fun _ k _ => m - (intOf k).toNat)
          case atStart => exact ⟨0, n, by omega, rfl, rfl, n0, by omega, Lib.hid (by rw [show ((0 : Nat) : Int) = 0 by rfl, Dt.cum_zero, Int.sub_zero]; exact HN.out), hB1⟩
          case round =>
            clear hB1 hc
            obtain ⟨j, q, hj, rfl, rfl, q0, q1, HQ, hB⟩ := hrel
            have hlb := Dt.ml_bd z j
            obtain ⟨m0, m1⟩ := hlb
            have HS := Lib.hid (cum_step z j (by omega))
            by_cases hlt : j < m
            · have hge : Dt.ml z j ≤ q := by
                have h1 := HS.out
                have h2 := HM.out.1
                have h3 := Dt.cum_mono z ((j : Int) + 1) m (by omega) (by omega) (by omega)
                have h4 := HQ.out
                omega
              have HQ' : Hid (q - Dt.ml z j = a / 86400 - Dt.ny z - Dt.cum z ((j + 1 : Nat) : Int)) := by
                have h1 := HS.out
                have h4 := HQ.out
                show _ = _
                rw [Int.natCast_add, Int.natCast_one]
                omega
              go_wp2_with fail
              refine (long_c z j _ (by omega) (by omega) (by omega)).mono ?_
              rintro e w1 ⟨rfl, hb1⟩
              go_wp2_with fail
              refine (long_c z j _ (by omega) (by omega) (by omega)).mono ?_
              rintro e w2 ⟨rfl, hb2⟩
              go_wp2_with fail
              go_roundw
              case rel => exact ⟨j + 1, q - Dt.ml z j, by omega, by go_num, rfl, by omega, by omega, HQ', bt (hB.trans (hb1.mono hB.size)) hb2⟩
              case measure => simp [intOf]; omega
            · obtain rfl : j = m := by omega
              have hge : q < Dt.ml z j := by
                have h1 := HS.out
                have h2 := HM.out.2
                have h4 := HQ.out
                omega
              have HD : Hid (q + 1 = d) := by
                have h4 := HQ.out
                have h5 := HE.out
                show _ = _
                omega
              go_wp2_with fail
              refine (long_c z j _ (by omega) (by omega) (by omega)).mono ?_
              rintro e w1 ⟨rfl, hb1⟩
              go_wp2_with fail
              exact bodyPost_ret (v := .tuple #[.int .i64 z, .int .i64 j, .int .i64 (q + 1), .int .i64 ((a / 86400 + 4) % 7)]) (by simp [results, Tryz.results160, go_sem]) rfl ⟨by rw [HD.out]; rfl, hB.trans (hb1.mono hB.size)⟩
end Go.Proofs.YtoanelobggledaaGreatDoor

namespace Go.Proofs.YtoanelobggledaaGreatDoor
open Go.RowKit

theorem cat2' (dn mn yn h i s : List UInt8) (ad : ByteArray) (al : List UInt8) (ha : ad = str al) : (str dn).extract 0 3 ++ (⟨#[32]⟩ : ByteArray) ++ str mn ++ ⟨#[32]⟩ ++ ad ++ ⟨#[32]⟩ ++ (str h ++ (⟨#[58]⟩ : ByteArray) ++ str i ++ ⟨#[58]⟩ ++ str s) ++ ⟨#[32]⟩ ++ str yn =
    str (dn.take 3 ++ 32 :: (mn ++ 32 :: (al ++ 32 :: ((h ++ 58 :: (i ++ 58 :: s)) ++ 32 :: yn)))) := by
  subst ha; exact cat2 _ _ _ _ _ _ _
theorem cat1' (dn ad mn h i s y2 : List UInt8) : str dn ++ (⟨#[44, 32]⟩ : ByteArray) ++ str ad ++ ⟨#[45]⟩ ++ str mn ++ ⟨#[45]⟩ ++ str y2 ++ ⟨#[32]⟩ ++ (str h ++ (⟨#[58]⟩ : ByteArray) ++ str i ++ ⟨#[58]⟩ ++ str s) ++ ⟨#[32, 71, 77, 84]⟩ =
    str (dn ++ 44 :: (32 :: (ad ++ 45 :: (mn ++ 45 :: (y2 ++ 32 :: ((h ++ 58 :: (i ++ 58 :: s)) ++ 32 :: Dt.gmt)))))) := by
  rw [show (⟨#[44, 32]⟩ : ByteArray) = str [44, 32] from rfl, show (⟨#[32]⟩ : ByteArray) = str [32] from rfl, show (⟨#[45]⟩ : ByteArray) = str [45] from rfl, show (⟨#[58]⟩ : ByteArray) = str [58] from rfl, show (⟨#[32, 71, 77, 84]⟩ : ByteArray) = str [32, 71, 77, 84] from rfl]
  simp only [str_app]
  congr 1
  simp [Dt.gmt]
theorem db_cut (d : Int) (h : d < 10) : (⟨#[32]⟩ : ByteArray) ++ (str (Dt.d2 d)).extract 1 2 = str (Dt.db d) := by
  rw [show (⟨#[32]⟩ : ByteArray) = str [32] from rfl, str_ext, str_app]
  unfold Dt.db Dt.d2
  rw [if_pos h]; rfl
theorem db_same (d : Int) (h : ¬ d < 10) : str (Dt.d2 d) = str (Dt.db d) := by
  unfold Dt.db Dt.d2
  rw [if_neg h]
set_option maxHeartbeats 16000000 in
theorem Form_0 (a : Int) (w : World) (a0 : 0 ≤ a) (a1 : a ≤ 253402300799) :
    Calls Tryz.prog 119 #[.int .i64 a, .int .i64 0] w fun e w' => e = .returned (.string (str (Dt.form a 0))) ∧ Below w.heap.size w w' := by
  obtain ⟨y, m', d, hd⟩ := Dt.exDate (a / 86400) (by omega) (by omega)
  obtain ⟨m, rfl⟩ : ∃ k : Nat, m' = k := ⟨m'.toNat, by have := hd.m0; omega⟩
  obtain ⟨s, hs⟩ : ∃ s, a % 86400 = s := ⟨_, rfl⟩
  have s0 : 0 ≤ s := by omega
  have s1 : s < 86400 := by omega
  obtain ⟨k, hk⟩ : ∃ k : Nat, Dt.wday (a / 86400) = k := ⟨(Dt.wday (a / 86400)).toNat, by have := Dt.wday_bd (a / 86400); omega⟩
  have hk7 : k < 7 := by have := Dt.wday_bd (a / 86400); omega
  have HF : Hid (Dt.form a 0 = Dt.f0 y m d k s ∧ Dt.form a 1 = Dt.f1 y m d k s ∧ Dt.form a 2 = Dt.f2 y m d k s) := by
    rw [Dt.form0 hd, Dt.form1 hd, Dt.form2 hd, hk, hs]; exact ⟨rfl, rfl, rfl⟩
  have hW := When_c a y d m w a0 a1 hd
  rw [hk] at hW
  have y0 := hd.y0
  have y1 := hd.y1
  have hm : m < 12 := by have := hd.m1; omega
  have d0 := hd.d0
  have d1 : d ≤ 31 := by have := hd.d1; have := Dt.ml_bd y m; omega
  obtain ⟨DN, hDN⟩ : ∃ x, str (Dt.dayNames.getD k []) = x := ⟨_, rfl⟩
  obtain ⟨MN, hMN⟩ : ∃ x, monS m = x := ⟨_, rfl⟩
  obtain ⟨YN, hYN⟩ : ∃ x, str (Dt.d4 y) = x := ⟨_, rfl⟩
  obtain ⟨ZN, hZN⟩ : ∃ x, str (Dt.d2 (y % 100)) = x := ⟨_, rfl⟩
  obtain ⟨HN, hHN⟩ : ∃ x, str (Dt.d2 (s / 3600)) = x := ⟨_, rfl⟩
  obtain ⟨IN, hIN⟩ : ∃ x, str (Dt.d2 (s / 60 % 60)) = x := ⟨_, rfl⟩
  obtain ⟨SN, hSN⟩ : ∃ x, str (Dt.d2 (s % 60)) = x := ⟨_, rfl⟩
  obtain ⟨AN, hAN⟩ : ∃ x, str (Dt.d2 d) = x := ⟨_, rfl⟩
  have hPD := Day_c k
  have hPM := Month_c m
  have hPY := dig4 y
  have hPZ := dig2 (y % 100)
  have hPH := dig2 (s / 3600)
  have hPI := dig2 (s / 60 % 60)
  have hPS := dig2 (s % 60)
  have hPA := dig2 d
  rw [hDN] at hPD
  rw [hMN] at hPM
  rw [hYN] at hPY
  rw [hZN] at hPZ
  rw [hHN] at hPH
  rw [hIN] at hPI
  rw [hSN] at hPS
  rw [hAN] at hPA
  have zD : 6 ≤ DN.size ∧ DN.size ≤ 9 := by rw [← hDN, str_size]; have := (Dt.dayN_all (w := k) (by omega) (by omega)).2.2; exact this
  have zM : MN.size = 3 := by rw [← hMN]; unfold monS; rw [str_size]; have := (Dt.monN_all (m := m) (by omega) (by omega)).2; exact this
  have zY : YN.size = 4 := by rw [← hYN, str_size]; rfl
  have zZ : ZN.size = 2 := by rw [← hZN, str_size]; rfl
  have zH : HN.size = 2 := by rw [← hHN, str_size]; rfl
  have zI : IN.size = 2 := by rw [← hIN, str_size]; rfl
  have zS : SN.size = 2 := by rw [← hSN, str_size]; rfl
  have zA : AN.size = 2 := by rw [← hAN, str_size]; rfl
  obtain ⟨zD1, zD2⟩ := zD
  have zD3 : (3 : Int) ≤ (DN.size : Int) := by omega
  have zD4 : min 3 DN.size = 3 := by omega
  have zD5 : (DN.extract 0 3).size = 3 := by simp [zD4]
  unfold monS at hMN
  have HE := Lib.hid (And.intro hDN (And.intro hMN (And.intro hYN (And.intro hZN (And.intro hHN (And.intro hIN (And.intro hSN hAN)))))))
  clear hDN hMN hYN hZN hHN hIN hSN hAN hd hk
  go_enter Tryz.func119, Tryz.ntmps119
  go_wp2_with fail
  refine hW.mono ?_
  rintro e w1 ⟨rfl, hb1⟩
  clear hW
  go_wp2_with fail
  with_reducible refine (hPH _ (by omega) (by omega)).mono ?_
  rintro e w2 ⟨rfl, hb2⟩
  have hB2 := bt hb1 hb2
  clear hb1 hb2 hPH
  go_wp2_with fail
  with_reducible refine (hPI _ (by omega) (by omega)).mono ?_
  rintro e w3 ⟨rfl, hb3⟩
  have hB3 := bt hB2 hb3
  clear hB2 hb3 hPI
  go_wp2_with fail
  with_reducible refine (hPS _ (by omega) (by omega)).mono ?_
  rintro e w4 ⟨rfl, hb4⟩
  have hB4 := bt hB3 hb4
  clear hB3 hb4 hPS
  obtain ⟨TN, hTN⟩ : ∃ x, HN ++ (⟨#[58]⟩ : ByteArray) ++ IN ++ ⟨#[58]⟩ ++ SN = x := ⟨_, rfl⟩
  have zT : TN.size = 8 := by rw [← hTN]; simp [zH, zI, zS]; rfl
  go_wp2_with fail
  have HT := Lib.hid hTN
  clear hTN zH zI zS hs
  refine wp_region_late (by kernel_rfl) (by kernel_rfl) ?_
  quiet_step (fail)
  quiet_step ((go_at_call 120; exact late _ (hPD _ hk7)))
  quiet_step (fail)
  refine wpQuiet_step (fun K hK => ?_)
  go_simp
  refine hK _ ?_
  clear hK K
  generalize hA1 : (HAppend.hAppend (DN.extract 0 3) _ : ByteArray) = A1
  have zA1 : A1.size = 5 := by rw [← hA1, ByteArray.size_append, zD5]; try rfl
  have HA1 := Lib.hid hA1
  clear hA1
  quiet_step (fail)
  quiet_step ((go_at_call 161; exact late _ (hPA _ (by omega) (by omega))))
  refine wpQuiet_step (fun K hK => ?_)
  go_simp
  refine hK _ ?_
  clear hK K
  generalize hA2 : (HAppend.hAppend A1 _ : ByteArray) = A2
  have zA2 : A2.size = 7 := by rw [← hA2, ByteArray.size_append, zA1, zA]; try rfl
  have HA2 := Lib.hid hA2
  clear hA2
  refine wpQuiet_step (fun K hK => ?_)
  go_simp
  refine hK _ ?_
  clear hK K
  generalize hA3 : (HAppend.hAppend A2 _ : ByteArray) = A3
  have zA3 : A3.size = 8 := by rw [← hA3, ByteArray.size_append, zA2]; try rfl
  have HA3 := Lib.hid hA3
  clear hA3
  quiet_step (fail)
  quiet_step ((go_at_call 159; exact late _ (hPM _ hm)))
  refine wpQuiet_step (fun K hK => ?_)
  go_simp
  refine hK _ ?_
  clear hK K
  generalize hA4 : (HAppend.hAppend A3 _ : ByteArray) = A4
  have zA4 : A4.size = 11 := by rw [← hA4, ByteArray.size_append, zA3, zM]; try rfl
  have HA4 := Lib.hid hA4
  clear hA4
  refine wpQuiet_step (fun K hK => ?_)
  go_simp
  refine hK _ ?_
  clear hK K
  generalize hA5 : (HAppend.hAppend A4 _ : ByteArray) = A5
  have zA5 : A5.size = 12 := by rw [← hA5, ByteArray.size_append, zA4]; try rfl
  have HA5 := Lib.hid hA5
  clear hA5
  quiet_step (fail)
  quiet_step ((go_at_call 161; exact late _ (hPY _ (by omega) (by omega))))
  refine wpQuiet_step (fun K hK => ?_)
  go_simp
  refine hK _ ?_
  clear hK K
  generalize hA6 : (HAppend.hAppend A5 _ : ByteArray) = A6
  have zA6 : A6.size = 16 := by rw [← hA6, ByteArray.size_append, zA5, zY]; try rfl
  have HA6 := Lib.hid hA6
  clear hA6
  refine wpQuiet_step (fun K hK => ?_)
  go_simp
  refine hK _ ?_
  clear hK K
  generalize hA7 : (HAppend.hAppend A6 _ : ByteArray) = A7
  have zA7 : A7.size = 17 := by rw [← hA7, ByteArray.size_append, zA6]; try rfl
  have HA7 := Lib.hid hA7
  clear hA7
  quiet_step (fail)
  refine wpQuiet_step (fun K hK => ?_)
  go_simp
  refine hK _ ?_
  clear hK K
  generalize hA8 : (HAppend.hAppend A7 _ : ByteArray) = A8
  have zA8 : A8.size = 25 := by rw [← hA8, ByteArray.size_append, zA7, zT]; try rfl
  have HA8 := Lib.hid hA8
  clear hA8
  refine wpQuiet_step (fun K hK => ?_)
  go_simp
  refine hK _ ?_
  clear hK K
  generalize hA9 : (HAppend.hAppend A8 _ : ByteArray) = A9
  have zA9 : A9.size = 29 := by rw [← hA9, ByteArray.size_append, zA8]; try rfl
  have HA9 := Lib.hid hA9
  clear hA9
  quiet_step (fail)
  refine wpQuiet_nil ?_
  intro w5 hw'
  have hb5 : Below w4.heap.size w4 w5 := by obtain ⟨p, rfl⟩ := hw'; exact p.h
  clear hw'
  go_wp2_with fail
  go_ret
  have e0 : A9 = str (Dt.form a 0) := by
    rw [HF.out.1, ← HA9.out, ← HA8.out, ← HA7.out, ← HA6.out, ← HA5.out, ← HA4.out, ← HA3.out, ← HA2.out, ← HA1.out, ← HT.out]
    obtain ⟨e1, e2, e3, e4, e5, e6, e7, e8⟩ := HE.out
    rw [← e1, ← e2, ← e3, ← e5, ← e6, ← e7, ← e8]
    exact cat0 _ _ _ _ _ _ _
  exact ⟨ret_str e0, bt hB4 hb5⟩
set_option maxHeartbeats 16000000 in
theorem Form_1 (a : Int) (w : World) (a0 : 0 ≤ a) (a1 : a ≤ 253402300799) :
    Calls Tryz.prog 119 #[.int .i64 a, .int .i64 1] w fun e w' => e = .returned (.string (str (Dt.form a 1))) ∧ Below w.heap.size w w' := by
  obtain ⟨y, m', d, hd⟩ := Dt.exDate (a / 86400) (by omega) (by omega)
  obtain ⟨m, rfl⟩ : ∃ k : Nat, m' = k := ⟨m'.toNat, by have := hd.m0; omega⟩
  obtain ⟨s, hs⟩ : ∃ s, a % 86400 = s := ⟨_, rfl⟩
  have s0 : 0 ≤ s := by omega
  have s1 : s < 86400 := by omega
  obtain ⟨k, hk⟩ : ∃ k : Nat, Dt.wday (a / 86400) = k := ⟨(Dt.wday (a / 86400)).toNat, by have := Dt.wday_bd (a / 86400); omega⟩
  have hk7 : k < 7 := by have := Dt.wday_bd (a / 86400); omega
  have HF : Hid (Dt.form a 0 = Dt.f0 y m d k s ∧ Dt.form a 1 = Dt.f1 y m d k s ∧ Dt.form a 2 = Dt.f2 y m d k s) := by
    rw [Dt.form0 hd, Dt.form1 hd, Dt.form2 hd, hk, hs]; exact ⟨rfl, rfl, rfl⟩
  have hW := When_c a y d m w a0 a1 hd
  rw [hk] at hW
  have y0 := hd.y0
  have y1 := hd.y1
  have hm : m < 12 := by have := hd.m1; omega
  have d0 := hd.d0
  have d1 : d ≤ 31 := by have := hd.d1; have := Dt.ml_bd y m; omega
  obtain ⟨DN, hDN⟩ : ∃ x, str (Dt.dayNames.getD k []) = x := ⟨_, rfl⟩
  obtain ⟨MN, hMN⟩ : ∃ x, monS m = x := ⟨_, rfl⟩
  obtain ⟨YN, hYN⟩ : ∃ x, str (Dt.d4 y) = x := ⟨_, rfl⟩
  obtain ⟨ZN, hZN⟩ : ∃ x, str (Dt.d2 (y % 100)) = x := ⟨_, rfl⟩
  obtain ⟨HN, hHN⟩ : ∃ x, str (Dt.d2 (s / 3600)) = x := ⟨_, rfl⟩
  obtain ⟨IN, hIN⟩ : ∃ x, str (Dt.d2 (s / 60 % 60)) = x := ⟨_, rfl⟩
  obtain ⟨SN, hSN⟩ : ∃ x, str (Dt.d2 (s % 60)) = x := ⟨_, rfl⟩
  obtain ⟨AN, hAN⟩ : ∃ x, str (Dt.d2 d) = x := ⟨_, rfl⟩
  have hPD := Day_c k
  have hPM := Month_c m
  have hPY := dig4 y
  have hPZ := dig2 (y % 100)
  have hPH := dig2 (s / 3600)
  have hPI := dig2 (s / 60 % 60)
  have hPS := dig2 (s % 60)
  have hPA := dig2 d
  rw [hDN] at hPD
  rw [hMN] at hPM
  rw [hYN] at hPY
  rw [hZN] at hPZ
  rw [hHN] at hPH
  rw [hIN] at hPI
  rw [hSN] at hPS
  rw [hAN] at hPA
  have zD : 6 ≤ DN.size ∧ DN.size ≤ 9 := by rw [← hDN, str_size]; have := (Dt.dayN_all (w := k) (by omega) (by omega)).2.2; exact this
  have zM : MN.size = 3 := by rw [← hMN]; unfold monS; rw [str_size]; have := (Dt.monN_all (m := m) (by omega) (by omega)).2; exact this
  have zY : YN.size = 4 := by rw [← hYN, str_size]; rfl
  have zZ : ZN.size = 2 := by rw [← hZN, str_size]; rfl
  have zH : HN.size = 2 := by rw [← hHN, str_size]; rfl
  have zI : IN.size = 2 := by rw [← hIN, str_size]; rfl
  have zS : SN.size = 2 := by rw [← hSN, str_size]; rfl
  have zA : AN.size = 2 := by rw [← hAN, str_size]; rfl
  obtain ⟨zD1, zD2⟩ := zD
  have zD3 : (3 : Int) ≤ (DN.size : Int) := by omega
  have zD4 : min 3 DN.size = 3 := by omega
  have zD5 : (DN.extract 0 3).size = 3 := by simp [zD4]
  unfold monS at hMN
  have HE := Lib.hid (And.intro hDN (And.intro hMN (And.intro hYN (And.intro hZN (And.intro hHN (And.intro hIN (And.intro hSN hAN)))))))
  clear hDN hMN hYN hZN hHN hIN hSN hAN hd hk
  go_enter Tryz.func119, Tryz.ntmps119
  go_wp2_with fail
  refine hW.mono ?_
  rintro e w1 ⟨rfl, hb1⟩
  clear hW
  go_wp2_with fail
  with_reducible refine (hPH _ (by omega) (by omega)).mono ?_
  rintro e w2 ⟨rfl, hb2⟩
  have hB2 := bt hb1 hb2
  clear hb1 hb2 hPH
  go_wp2_with fail
  with_reducible refine (hPI _ (by omega) (by omega)).mono ?_
  rintro e w3 ⟨rfl, hb3⟩
  have hB3 := bt hB2 hb3
  clear hB2 hb3 hPI
  go_wp2_with fail
  with_reducible refine (hPS _ (by omega) (by omega)).mono ?_
  rintro e w4 ⟨rfl, hb4⟩
  have hB4 := bt hB3 hb4
  clear hB3 hb4 hPS
  obtain ⟨TN, hTN⟩ : ∃ x, HN ++ (⟨#[58]⟩ : ByteArray) ++ IN ++ ⟨#[58]⟩ ++ SN = x := ⟨_, rfl⟩
  have zT : TN.size = 8 := by rw [← hTN]; simp [zH, zI, zS]; rfl
  go_wp2_with fail
  have HT := Lib.hid hTN
  have big (Z : ByteArray) (n : Nat) (h : Z.size ≤ 100) (h' : n ≤ 1000) : ¬ 9223372036854775807 < Z.size + n := by omega
  have qD := fun n h => big DN n (by omega) h
  clear hTN zH zI zS hs
  with_reducible refine (hPD _ hk7).mono ?_
  rintro e w5 ⟨rfl, hb5⟩
  have hB5 := bt hB4 hb5
  clear hB4 hb5
  go_wp2_with fail
  generalize hC1 : (HAppend.hAppend DN _ : ByteArray) = C1
  have zC1 : C1.size ≤ 11 := by rw [← hC1, ByteArray.size_append]; simp only [show ∀ l : Array UInt8, (⟨l⟩ : ByteArray).size = l.size from fun _ => rfl]; simp; omega
  have qC1 := fun n h => big C1 n (by omega) h
  have HC1 := Lib.hid hC1
  clear hC1 qD
  with_reducible refine (hPA _ (by omega) (by omega)).mono ?_
  rintro e w6 ⟨rfl, hb6⟩
  have hB6 := bt hB5 hb6
  clear hB5 hb6
  go_wp2_with fail
  generalize hC2 : (HAppend.hAppend C1 AN : ByteArray) = C2
  generalize hC3 : (HAppend.hAppend C2 _ : ByteArray) = C3
  have zC3 : C3.size ≤ 14 := by rw [← hC3, ByteArray.size_append, ← hC2, ByteArray.size_append, zA]; simp only [show ∀ l : Array UInt8, (⟨l⟩ : ByteArray).size = l.size from fun _ => rfl]; simp; omega
  have qC3 := fun n h => big C3 n (by omega) h
  have HC2 := Lib.hid hC2
  have HC3 := Lib.hid hC3
  clear hC2 hC3 qC1
  with_reducible refine (hPM _ hm).mono ?_
  rintro e w7 ⟨rfl, hb7⟩
  have hB7 := bt hB6 hb7
  clear hB6 hb7
  go_wp2_with fail
  generalize hC4 : (HAppend.hAppend C3 MN : ByteArray) = C4
  generalize hC5 : (HAppend.hAppend C4 _ : ByteArray) = C5
  have zC5 : C5.size ≤ 18 := by rw [← hC5, ByteArray.size_append, ← hC4, ByteArray.size_append, zM]; simp only [show ∀ l : Array UInt8, (⟨l⟩ : ByteArray).size = l.size from fun _ => rfl]; simp; omega
  have qC5 := fun n h => big C5 n (by omega) h
  have HC4 := Lib.hid hC4
  have HC5 := Lib.hid hC5
  clear hC4 hC5 qC3
  with_reducible refine (hPZ _ (by omega) (by omega)).mono ?_
  rintro e w8 ⟨rfl, hb8⟩
  have hB8 := bt hB7 hb8
  clear hB7 hb8
  have r2 : C5.size + 2 + 1 = C5.size + 3 := rfl
  have r3 : C5.size + 3 + 8 = C5.size + 11 := rfl
  have r4 : C5.size + 11 + 4 = C5.size + 15 := rfl
  go_wp2_with fail
  go_ret
  have e0 : C5 ++ ZN ++ (⟨#[32]⟩ : ByteArray) ++ TN ++ ⟨#[32, 71, 77, 84]⟩ = str (Dt.form a 1) := by
    rw [HF.out.2.1, ← HC5.out, ← HC4.out, ← HC3.out, ← HC2.out, ← HC1.out, ← HT.out]
    obtain ⟨e1, e2, e3, e4, e5, e6, e7, e8⟩ := HE.out
    rw [← e1, ← e2, ← e4, ← e5, ← e6, ← e7, ← e8]
    exact cat1' _ _ _ _ _ _ _
  exact ⟨ret_str e0, hB8⟩
set_option maxHeartbeats 16000000 in
theorem Form_2 (a : Int) (w : World) (a0 : 0 ≤ a) (a1 : a ≤ 253402300799) :
    Calls Tryz.prog 119 #[.int .i64 a, .int .i64 2] w fun e w' => e = .returned (.string (str (Dt.form a 2))) ∧ Below w.heap.size w w' := by
  obtain ⟨y, m', d, hd⟩ := Dt.exDate (a / 86400) (by omega) (by omega)
  obtain ⟨m, rfl⟩ : ∃ k : Nat, m' = k := ⟨m'.toNat, by have := hd.m0; omega⟩
  obtain ⟨s, hs⟩ : ∃ s, a % 86400 = s := ⟨_, rfl⟩
  have s0 : 0 ≤ s := by omega
  have s1 : s < 86400 := by omega
  obtain ⟨k, hk⟩ : ∃ k : Nat, Dt.wday (a / 86400) = k := ⟨(Dt.wday (a / 86400)).toNat, by have := Dt.wday_bd (a / 86400); omega⟩
  have hk7 : k < 7 := by have := Dt.wday_bd (a / 86400); omega
  have HF : Hid (Dt.form a 0 = Dt.f0 y m d k s ∧ Dt.form a 1 = Dt.f1 y m d k s ∧ Dt.form a 2 = Dt.f2 y m d k s) := by
    rw [Dt.form0 hd, Dt.form1 hd, Dt.form2 hd, hk, hs]; exact ⟨rfl, rfl, rfl⟩
  have hW := When_c a y d m w a0 a1 hd
  rw [hk] at hW
  have y0 := hd.y0
  have y1 := hd.y1
  have hm : m < 12 := by have := hd.m1; omega
  have d0 := hd.d0
  have d1 : d ≤ 31 := by have := hd.d1; have := Dt.ml_bd y m; omega
  obtain ⟨DN, hDN⟩ : ∃ x, str (Dt.dayNames.getD k []) = x := ⟨_, rfl⟩
  obtain ⟨MN, hMN⟩ : ∃ x, monS m = x := ⟨_, rfl⟩
  obtain ⟨YN, hYN⟩ : ∃ x, str (Dt.d4 y) = x := ⟨_, rfl⟩
  obtain ⟨ZN, hZN⟩ : ∃ x, str (Dt.d2 (y % 100)) = x := ⟨_, rfl⟩
  obtain ⟨HN, hHN⟩ : ∃ x, str (Dt.d2 (s / 3600)) = x := ⟨_, rfl⟩
  obtain ⟨IN, hIN⟩ : ∃ x, str (Dt.d2 (s / 60 % 60)) = x := ⟨_, rfl⟩
  obtain ⟨SN, hSN⟩ : ∃ x, str (Dt.d2 (s % 60)) = x := ⟨_, rfl⟩
  obtain ⟨AN, hAN⟩ : ∃ x, str (Dt.d2 d) = x := ⟨_, rfl⟩
  have hPD := Day_c k
  have hPM := Month_c m
  have hPY := dig4 y
  have hPZ := dig2 (y % 100)
  have hPH := dig2 (s / 3600)
  have hPI := dig2 (s / 60 % 60)
  have hPS := dig2 (s % 60)
  have hPA := dig2 d
  rw [hDN] at hPD
  rw [hMN] at hPM
  rw [hYN] at hPY
  rw [hZN] at hPZ
  rw [hHN] at hPH
  rw [hIN] at hPI
  rw [hSN] at hPS
  rw [hAN] at hPA
  have zD : 6 ≤ DN.size ∧ DN.size ≤ 9 := by rw [← hDN, str_size]; have := (Dt.dayN_all (w := k) (by omega) (by omega)).2.2; exact this
  have zM : MN.size = 3 := by rw [← hMN]; unfold monS; rw [str_size]; have := (Dt.monN_all (m := m) (by omega) (by omega)).2; exact this
  have zY : YN.size = 4 := by rw [← hYN, str_size]; rfl
  have zZ : ZN.size = 2 := by rw [← hZN, str_size]; rfl
  have zH : HN.size = 2 := by rw [← hHN, str_size]; rfl
  have zI : IN.size = 2 := by rw [← hIN, str_size]; rfl
  have zS : SN.size = 2 := by rw [← hSN, str_size]; rfl
  have zA : AN.size = 2 := by rw [← hAN, str_size]; rfl
  obtain ⟨zD1, zD2⟩ := zD
  have zD3 : (3 : Int) ≤ (DN.size : Int) := by omega
  have zD4 : min 3 DN.size = 3 := by omega
  have zD5 : (DN.extract 0 3).size = 3 := by simp [zD4]
  unfold monS at hMN
  have HE := Lib.hid (And.intro hDN (And.intro hMN (And.intro hYN (And.intro hZN (And.intro hHN (And.intro hIN (And.intro hSN hAN)))))))
  clear hDN hMN hYN hZN hHN hIN hSN hAN hd hk
  go_enter Tryz.func119, Tryz.ntmps119
  go_wp2_with fail
  refine hW.mono ?_
  rintro e w1 ⟨rfl, hb1⟩
  clear hW
  go_wp2_with fail
  with_reducible refine (hPH _ (by omega) (by omega)).mono ?_
  rintro e w2 ⟨rfl, hb2⟩
  have hB2 := bt hb1 hb2
  clear hb1 hb2 hPH
  go_wp2_with fail
  with_reducible refine (hPI _ (by omega) (by omega)).mono ?_
  rintro e w3 ⟨rfl, hb3⟩
  have hB3 := bt hB2 hb3
  clear hB2 hb3 hPI
  go_wp2_with fail
  with_reducible refine (hPS _ (by omega) (by omega)).mono ?_
  rintro e w4 ⟨rfl, hb4⟩
  have hB4 := bt hB3 hb4
  clear hB3 hb4 hPS
  obtain ⟨TN, hTN⟩ : ∃ x, HN ++ (⟨#[58]⟩ : ByteArray) ++ IN ++ ⟨#[58]⟩ ++ SN = x := ⟨_, rfl⟩
  have zT : TN.size = 8 := by rw [← hTN]; simp [zH, zI, zS]; rfl
  go_wp2_with fail
  have HT := Lib.hid hTN
  clear hTN zH zI zS hs
  with_reducible refine (hPA _ (by omega) (by omega)).mono ?_
  rintro e w9 ⟨rfl, hb9⟩
  have hB9 := bt hB4 hb9
  clear hB4 hb9
  by_cases hd10 : d < 10
  · have zX0 : (AN.extract 1 2).size = 1 := by simp [zA]
    go_wp2_with fail
    generalize hXN : (HAppend.hAppend (⟨#[32]⟩ : ByteArray) _ : ByteArray) = XN
    have zX : XN.size = 2 := by rw [← hXN, ByteArray.size_append, zX0]; rfl
    have HX : Hid (XN = str (Dt.db d)) := by
      show _ = _
      rw [← hXN, ← HE.out.2.2.2.2.2.2.2]; exact db_cut d hd10
    clear hXN
    refine wp_region_late (by kernel_rfl) (by kernel_rfl) ?_
    quiet_step (fail)
    quiet_step ((go_at_call 120; exact late _ (hPD _ hk7)))
    quiet_step (fail)
    refine wpQuiet_step (fun K hK => ?_)
    go_simp
    refine hK _ ?_
    clear hK K
    generalize hC1 : (HAppend.hAppend (DN.extract 0 3) _ : ByteArray) = C1
    have zC1 : C1.size = 4 := by rw [← hC1, ByteArray.size_append, zD5]; try rfl
    have HC1 := Lib.hid hC1
    clear hC1
    quiet_step (fail)
    quiet_step ((go_at_call 159; exact late _ (hPM _ hm)))
    refine wpQuiet_step (fun K hK => ?_)
    go_simp
    refine hK _ ?_
    clear hK K
    generalize hC2 : (HAppend.hAppend C1 _ : ByteArray) = C2
    have zC2 : C2.size = 7 := by rw [← hC2, ByteArray.size_append, zC1, zM]; try rfl
    have HC2 := Lib.hid hC2
    clear hC2
    refine wpQuiet_step (fun K hK => ?_)
    go_simp
    refine hK _ ?_
    clear hK K
    generalize hC3 : (HAppend.hAppend C2 _ : ByteArray) = C3
    have zC3 : C3.size = 8 := by rw [← hC3, ByteArray.size_append, zC2]; try rfl
    have HC3 := Lib.hid hC3
    clear hC3
    quiet_step (fail)
    refine wpQuiet_step (fun K hK => ?_)
    go_simp
    refine hK _ ?_
    clear hK K
    generalize hC4 : (HAppend.hAppend C3 _ : ByteArray) = C4
    have zC4 : C4.size = 10 := by rw [← hC4, ByteArray.size_append, zC3, zX]; try rfl
    have HC4 := Lib.hid hC4
    clear hC4
    refine wpQuiet_step (fun K hK => ?_)
    go_simp
    refine hK _ ?_
    clear hK K
    generalize hC5 : (HAppend.hAppend C4 _ : ByteArray) = C5
    have zC5 : C5.size = 11 := by rw [← hC5, ByteArray.size_append, zC4]; try rfl
    have HC5 := Lib.hid hC5
    clear hC5
    quiet_step (fail)
    refine wpQuiet_step (fun K hK => ?_)
    go_simp
    refine hK _ ?_
    clear hK K
    generalize hC6 : (HAppend.hAppend C5 _ : ByteArray) = C6
    have zC6 : C6.size = 19 := by rw [← hC6, ByteArray.size_append, zC5, zT]; try rfl
    have HC6 := Lib.hid hC6
    clear hC6
    refine wpQuiet_step (fun K hK => ?_)
    go_simp
    refine hK _ ?_
    clear hK K
    generalize hC7 : (HAppend.hAppend C6 _ : ByteArray) = C7
    have zC7 : C7.size = 20 := by rw [← hC7, ByteArray.size_append, zC6]; try rfl
    have HC7 := Lib.hid hC7
    clear hC7
    quiet_step (fail)
    quiet_step ((go_at_call 161; exact late _ (hPY _ (by omega) (by omega))))
    refine wpQuiet_step (fun K hK => ?_)
    go_simp
    refine hK _ ?_
    clear hK K
    generalize hC8 : (HAppend.hAppend C7 _ : ByteArray) = C8
    have zC8 : C8.size = 24 := by rw [← hC8, ByteArray.size_append, zC7, zY]; try rfl
    have HC8 := Lib.hid hC8
    clear hC8
    quiet_step (fail)
    refine wpQuiet_nil ?_
    intro w5 hw'
    have hb5 : Below w9.heap.size w9 w5 := by obtain ⟨p, rfl⟩ := hw'; exact p.h
    clear hw'
    go_wp2_with fail
    go_ret
    have e0 : C8 = str (Dt.form a 2) := by
      rw [HF.out.2.2, ← HC8.out, ← HC7.out, ← HC6.out, ← HC5.out, ← HC4.out, ← HC3.out, ← HC2.out, ← HC1.out, ← HT.out]
      obtain ⟨e1, e2, e3, e4, e5, e6, e7, e8⟩ := HE.out
      rw [← e1, ← e2, ← e3, ← e5, ← e6, ← e7]
      exact cat2' _ _ _ _ _ _ _ _ HX.out
    exact ⟨ret_str e0, bt hB9 hb5⟩
  · have HX : Hid (AN = str (Dt.db d)) := by
      show _ = _
      rw [← HE.out.2.2.2.2.2.2.2]; exact db_same d hd10
    have zX : AN.size = 2 := zA
    go_wp2_with fail
    refine wp_region_late (by kernel_rfl) (by kernel_rfl) ?_
    quiet_step (fail)
    quiet_step ((go_at_call 120; exact late _ (hPD _ hk7)))
    quiet_step (fail)
    refine wpQuiet_step (fun K hK => ?_)
    go_simp
    refine hK _ ?_
    clear hK K
    generalize hC1 : (HAppend.hAppend (DN.extract 0 3) _ : ByteArray) = C1
    have zC1 : C1.size = 4 := by rw [← hC1, ByteArray.size_append, zD5]; try rfl
    have HC1 := Lib.hid hC1
    clear hC1
    quiet_step (fail)
    quiet_step ((go_at_call 159; exact late _ (hPM _ hm)))
    refine wpQuiet_step (fun K hK => ?_)
    go_simp
    refine hK _ ?_
    clear hK K
    generalize hC2 : (HAppend.hAppend C1 _ : ByteArray) = C2
    have zC2 : C2.size = 7 := by rw [← hC2, ByteArray.size_append, zC1, zM]; try rfl
    have HC2 := Lib.hid hC2
    clear hC2
    refine wpQuiet_step (fun K hK => ?_)
    go_simp
    refine hK _ ?_
    clear hK K
    generalize hC3 : (HAppend.hAppend C2 _ : ByteArray) = C3
    have zC3 : C3.size = 8 := by rw [← hC3, ByteArray.size_append, zC2]; try rfl
    have HC3 := Lib.hid hC3
    clear hC3
    quiet_step (fail)
    refine wpQuiet_step (fun K hK => ?_)
    go_simp
    refine hK _ ?_
    clear hK K
    generalize hC4 : (HAppend.hAppend C3 _ : ByteArray) = C4
    have zC4 : C4.size = 10 := by rw [← hC4, ByteArray.size_append, zC3, zX]; try rfl
    have HC4 := Lib.hid hC4
    clear hC4
    refine wpQuiet_step (fun K hK => ?_)
    go_simp
    refine hK _ ?_
    clear hK K
    generalize hC5 : (HAppend.hAppend C4 _ : ByteArray) = C5
    have zC5 : C5.size = 11 := by rw [← hC5, ByteArray.size_append, zC4]; try rfl
    have HC5 := Lib.hid hC5
    clear hC5
    quiet_step (fail)
    refine wpQuiet_step (fun K hK => ?_)
    go_simp
    refine hK _ ?_
    clear hK K
    generalize hC6 : (HAppend.hAppend C5 _ : ByteArray) = C6
    have zC6 : C6.size = 19 := by rw [← hC6, ByteArray.size_append, zC5, zT]; try rfl
    have HC6 := Lib.hid hC6
    clear hC6
    refine wpQuiet_step (fun K hK => ?_)
    go_simp
    refine hK _ ?_
    clear hK K
    generalize hC7 : (HAppend.hAppend C6 _ : ByteArray) = C7
    have zC7 : C7.size = 20 := by rw [← hC7, ByteArray.size_append, zC6]; try rfl
    have HC7 := Lib.hid hC7
    clear hC7
    quiet_step (fail)
    quiet_step ((go_at_call 161; exact late _ (hPY _ (by omega) (by omega))))
    refine wpQuiet_step (fun K hK => ?_)
    go_simp
    refine hK _ ?_
    clear hK K
    generalize hC8 : (HAppend.hAppend C7 _ : ByteArray) = C8
    have zC8 : C8.size = 24 := by rw [← hC8, ByteArray.size_append, zC7, zY]; try rfl
    have HC8 := Lib.hid hC8
    clear hC8
    quiet_step (fail)
    refine wpQuiet_nil ?_
    intro w5 hw'
    have hb5 : Below w9.heap.size w9 w5 := by obtain ⟨p, rfl⟩ := hw'; exact p.h
    clear hw'
    go_wp2_with fail
    go_ret
    have e0 : C8 = str (Dt.form a 2) := by
      rw [HF.out.2.2, ← HC8.out, ← HC7.out, ← HC6.out, ← HC5.out, ← HC4.out, ← HC3.out, ← HC2.out, ← HC1.out, ← HT.out]
      obtain ⟨e1, e2, e3, e4, e5, e6, e7, e8⟩ := HE.out
      rw [← e1, ← e2, ← e3, ← e5, ← e6, ← e7]
      exact cat2' _ _ _ _ _ _ _ _ HX.out
    exact ⟨ret_str e0, bt hB9 hb5⟩
end Go.Proofs.YtoanelobggledaaGreatDoor

namespace Go.Proofs.YtoanelobggledaaGreatDoor
open Go.RowKit

theorem cut_snoc (s : ByteArray) (f k : Nat) (hf : f ≤ k) (hk : k < s.size) : Dt.cut s.data.toList f (k + 1) = Dt.cut s.data.toList f k ++ [s[k]] := by
  unfold Dt.cut
  have hl : s.data.toList.length = s.size := Oct.length_size s
  rw [List.take_succ_eq_append_getElem (by omega), List.drop_append_of_le_length (by rw [List.length_take]; omega)]
  rfl
theorem cut_same (l : List UInt8) (f : Nat) : Dt.cut l f f = [] := by
  unfold Dt.cut
  rw [List.drop_of_length_le (by rw [List.length_take]; omega)]
theorem numR_bad (s : ByteArray) (f k t : Nat) (hf : f ≤ k) (hk : k < t) (ht : t ≤ s.size) (h : Dt.digit (s[k]'(by omega)) = false) : Dt.numR (Dt.cut s.data.toList f t) = -1 := by
  have hl : s.data.toList.length = s.size := Oct.length_size s
  unfold Dt.numR
  rw [if_neg]
  intro hall
  have hm : s[k]'(by omega) ∈ Dt.cut s.data.toList f t := by
    unfold Dt.cut
    have e : ((s.data.toList.take t).drop f)[k - f]'(by rw [List.length_drop, List.length_take]; omega) = s[k]'(by omega) := by
      rw [List.getElem_drop, List.getElem_take]
      simp only [show f + (k - f) = k by omega]
      rfl
    rw [← e]
    exact List.getElem_mem _
  have := List.all_eq_true.1 hall _ hm
  rw [h] at this; cases this
set_option maxHeartbeats 1600000 in
theorem num_c (s : ByteArray) (f t : Nat) (w : World) (hf : f ≤ t) (ht : t ≤ s.size) (h4 : t ≤ f + 4) (hs : s.size ≤ 1000) :
    Calls Tryz.prog 117 #[.string s, .int .i64 f, .int .i64 t] w fun e w' => e = .returned (.int .i64 (Dt.numR (Dt.cut s.data.toList f t))) ∧ w = w' := by
  go_enter Tryz.func117, Tryz.ntmps117
  go_wp2_with fail
  go_loop [7, 8] (fun x i => ∃ (k : Nat) (n : Int), f ≤ k ∧ k ≤ t ∧ i = .int .i64 k ∧ x = .int .i64 n ∧ 0 ≤ n ∧ n ≤ 9999 ∧ Hid ((Dt.cut s.data.toList f k).all Dt.digit = true ∧ n = Dt.numV (Dt.cut s.data.toList f k))) (fun _ i => t - (intOf i).toNat)
  case atStart => exact ⟨f, 0, by omega, hf, rfl, rfl, by omega, by omega, Lib.hid (by rw [cut_same]; exact ⟨rfl, rfl⟩)⟩
  case round =>
    obtain ⟨k, n, hfk, hkt, rfl, rfl, n0, n1, HD⟩ := hrel
    by_cases hlt : k < t
    · have hks : k < s.size := by omega
      have hc := (s[k]).toNat_lt
      by_cases hdg : Dt.digit s[k] = true
      · obtain ⟨g0, g1⟩ := Dt.digit_bd hdg
        have g0' : ¬ ((s[k].toNat : Int) < 48) := by omega
        have g1' : ¬ (57 < (s[k].toNat : Int)) := by omega
        have HE : Hid ((Dt.cut s.data.toList f (k + 1)).all Dt.digit = true ∧ n * 10 + (s[k].toNat : Int) - 48 = Dt.numV (Dt.cut s.data.toList f (k + 1))) := by
          refine ⟨?_, ?_⟩
          · rw [cut_snoc s f k hfk hks, List.all_append, HD.out.1]; simp [hdg]
          · rw [cut_snoc s f k hfk hks, Dt.numV_snoc, ← HD.out.2]; omega
        have hn3 : n ≤ 999 := by
          have hl : (Dt.cut s.data.toList f k).length ≤ 3 := by have := Dt.cut_len s.data.toList f k; omega
          have := Dt.numV_bd _ HD.out.1
          rw [← HD.out.2] at this
          have hp := Nat.pow_le_pow_right (n := 10) (by omega) hl
          have hp' : (10 : Int) ^ (Dt.cut s.data.toList f k).length ≤ 10 ^ 3 := by exact_mod_cast hp
          omega
        clear hdg g0 g1
        have q0 : 0 ≤ n * 10 + (s[k].toNat : Int) - 48 := by omega
        have q1 : n * 10 + (s[k].toNat : Int) - 48 ≤ 9999 := by omega
        go_wp2_with fail
        go_round
        case rel => exact ⟨k + 1, n * 10 + (s[k].toNat : Int) - 48, by omega, by omega, by go_num, by go_num, q0, q1, HE⟩
        case measure => simp [intOf]; omega
      · have hdg' : Dt.digit s[k] = false := by simpa using hdg
        have HR := Lib.hid (numR_bad s f k t hfk hlt ht hdg')
        have hb : s[k].toNat < 48 ∨ 57 < s[k].toNat := by
          unfold Dt.digit at hdg
          simp at hdg; omega
        clear hdg hdg'
        rcases hb with hb | hb
        · have g0' : ((s[k].toNat : Int) < 48) := by omega
          go_wp2_with fail
          go_ret
          exact ⟨ret_int HR.out.symm, rfl⟩
        · have g0' : ¬ ((s[k].toNat : Int) < 48) := by omega
          have g1' : (57 < (s[k].toNat : Int)) := by omega
          go_wp2_with fail
          go_ret
          exact ⟨ret_int HR.out.symm, rfl⟩
    · obtain rfl : k = t := by omega
      have HR : Hid (Dt.numR (Dt.cut s.data.toList f k) = n) := by
        show _ = _
        unfold Dt.numR
        rw [if_pos HD.out.1, HD.out.2]
      go_wp2_with fail
      go_ret
      exact ⟨ret_int HR.out.symm, rfl⟩
theorem finR_hit {l : List UInt8} {k : Nat} (h : k < 12) (e : Dt.monthNames.getD k [] = l) : Dt.finR l = k := by
  unfold Dt.finR
  rw [Dt.mIdx_some h e]
theorem finR_miss {l : List UInt8} (h : ∀ k, k < 12 → Dt.monthNames.getD k [] ≠ l) : Dt.finR l = -1 := by
  unfold Dt.finR
  rw [Dt.mIdx_none h]
theorem ext_eq (s : ByteArray) (f t : Nat) (x : ByteArray) : ((s.extract f t).toList == x.toList) = decide (Dt.cut s.data.toList f t = x.data.toList) := by
  rw [bytes_eq, Dt.ext_list]; rfl
set_option maxHeartbeats 1600000 in
theorem find_c (s : ByteArray) (f : Nat) (w : World) (hf : f + 3 ≤ s.size) (hs : s.size ≤ 1000) :
    Calls Tryz.prog 118 #[.string s, .int .i64 f] w fun e w' => e = .returned (.int .i64 (Dt.finR (Dt.cut s.data.toList f (f + 3)))) ∧ Below w.heap.size w w' := by
  have hf1 : (0 : Int) ≤ (f : Int) := by omega
  have hf3 : (f : Int) + 3 ≤ (s.size : Int) := by omega
  go_enter Tryz.func118, Tryz.ntmps118
  go_wp2_with fail
  go_loopw [5] (fun i wr => ∃ k : Nat, k ≤ 12 ∧ i = .int .i64 k ∧ Hid (∀ j, j < k → Dt.monthNames.getD j [] ≠ Dt.cut s.data.toList f (f + 3)) ∧ Below w.heap.size w wr) (fun i _ => 12 - (intOf i).toNat)
  case atStart => exact ⟨0, by omega, rfl, Lib.hid (fun j hj => by omega), Below.refl _ _⟩
  case round =>
    obtain ⟨k, hk, rfl, HN, hB⟩ := hrel
    by_cases hlt : k < 12
    · have hM := Month_c k
      have hlt' : (k : Int) < 12 := by omega
      by_cases he : Dt.monthNames.getD k [] = Dt.cut s.data.toList f (f + 3)
      · have HR := Lib.hid (finR_hit hlt he)
        have hb : ((s.extract f (f + 3)).toList == (monS k).toList) = true := by
          rw [ext_eq]; unfold monS; rw [str_list]; simpa using he.symm
        clear he
        go_wp2_with fail
        have j0 : (0 : Int) ≤ (f : Int) + 3 := by omega
        have j3 : (f : Int) ≤ (f : Int) + 3 := by omega
        have j1 : ((f : Int) + 3).toNat = f + 3 := by omega
        have j2 := IntWalk.i64_in ((f : Int) + 3) (by omega)
        refine wp_region_late (by kernel_rfl) (by kernel_rfl) ?_
        repeat (quiet_step ((go_at_call 159; exact late _ (hM _ hlt))))
        refine wpQuiet_nil ?_
        intro w2 hw'
        have hb2 : Below wr.heap.size wr w2 := by obtain ⟨p, rfl⟩ := hw'; exact p.h
        clear hw' j0 j1 j2 j3
        go_wp2_with fail
        go_ret
        exact ⟨ret_int HR.out.symm, hB.trans (hb2.mono hB.size)⟩
      · have hb : ((s.extract f (f + 3)).toList == (monS k).toList) = false := by
          rw [ext_eq]; unfold monS; rw [str_list]; simpa using fun e => he e.symm
        have HE := Lib.hid he
        clear he
        go_wp2_with fail
        have j0 : (0 : Int) ≤ (f : Int) + 3 := by omega
        have j3 : (f : Int) ≤ (f : Int) + 3 := by omega
        have j1 : ((f : Int) + 3).toNat = f + 3 := by omega
        have j2 := IntWalk.i64_in ((f : Int) + 3) (by omega)
        refine wp_region_late (by kernel_rfl) (by kernel_rfl) ?_
        repeat (quiet_step ((go_at_call 159; exact late _ (hM _ hlt))))
        refine wpQuiet_nil ?_
        intro w2 hw'
        have hb2 : Below wr.heap.size wr w2 := by obtain ⟨p, rfl⟩ := hw'; exact p.h
        clear hw' j0 j1 j2 j3
        go_wp2_with fail
        go_roundw
        case rel => exact ⟨k + 1, by omega, by go_num, Lib.hid (fun j hj => by
          by_cases hjk : j = k
          · rw [hjk]; exact HE.out
          · exact HN.out j (by omega)), hB.trans (hb2.mono hB.size)⟩
        case measure => simp [intOf]; omega
    · have hlt' : ¬ (k : Int) < 12 := by omega
      have HR := Lib.hid (finR_miss (l := Dt.cut s.data.toList f (f + 3)) (fun j hj => HN.out j (by omega)))
      go_wp2_with fail
      go_ret
      exact ⟨ret_int HR.out.symm, hB⟩
end Go.Proofs.YtoanelobggledaaGreatDoor

namespace Go.Proofs.YtoanelobggledaaGreatDoor
open Go.RowKit

theorem momR_no {y m d h mi se : Int} (hv : ¬ Dt.valid y m d h mi se) : Dt.momR y m d h mi se = -1 := by unfold Dt.momR; rw [if_neg hv]
set_option maxHeartbeats 800000 in
theorem mom_a (y m d h mi se : Int) (w : World) (hb : y < 1970 ∨ (1970 ≤ y ∧ m < 0) ∨ (1970 ≤ y ∧ 0 ≤ m ∧ d < 1)) :
    Calls Tryz.prog 116 #[.int .i64 y, .int .i64 m, .int .i64 d, .int .i64 h, .int .i64 mi, .int .i64 se] w fun e w' => e = .returned (.int .i64 (-1)) ∧ w = w' := by
  rcases hb with hb | ⟨hy, hb⟩ | ⟨hy, hm, hb⟩
  all_goals
    go_enter Tryz.func116, Tryz.ntmps116
    go_wp2_with fail
    go_ret
    exact ⟨rfl, rfl⟩
set_option maxHeartbeats 1600000 in
theorem mom_b (y d h mi se : Int) (m : Nat) (w : World) (y0 : 1970 ≤ y) (y1 : y ≤ 9999) (hm : m < 12) (d0 : 1 ≤ d) (_d1 : d ≤ 9999) (_h0 : -1 ≤ h) (_h1 : h ≤ 99) (_i0 : -1 ≤ mi) (_i1 : mi ≤ 99) (_s0 : -1 ≤ se) (_s1 : se ≤ 99) (hb : (Dt.ml y m < d) ∨ (d ≤ Dt.ml y m ∧ h < 0) ∨ (d ≤ Dt.ml y m ∧ 0 ≤ h ∧ 23 < h) ∨ (d ≤ Dt.ml y m ∧ 0 ≤ h ∧ h ≤ 23 ∧ mi < 0) ∨ (d ≤ Dt.ml y m ∧ 0 ≤ h ∧ h ≤ 23 ∧ 0 ≤ mi ∧ 59 < mi) ∨ (d ≤ Dt.ml y m ∧ 0 ≤ h ∧ h ≤ 23 ∧ 0 ≤ mi ∧ mi ≤ 59 ∧ se < 0) ∨ (d ≤ Dt.ml y m ∧ 0 ≤ h ∧ h ≤ 23 ∧ 0 ≤ mi ∧ mi ≤ 59 ∧ 0 ≤ se ∧ 59 < se)) :
    Calls Tryz.prog 116 #[.int .i64 y, .int .i64 m, .int .i64 d, .int .i64 h, .int .i64 mi, .int .i64 se] w fun e w' => e = .returned (.int .i64 (-1)) ∧ Below w.heap.size w w' := by
  have hL := long_c y m w (by omega) (by omega) hm
  have hl := Dt.ml_bd y m
  obtain ⟨l0, l1⟩ := hl
  rcases hb with hb | ⟨c0, hb⟩ | ⟨c0, c1, hb⟩ | ⟨c0, c1, c2, hb⟩ | ⟨c0, c1, c2, c3, hb⟩ | ⟨c0, c1, c2, c3, c4, hb⟩ | ⟨c0, c1, c2, c3, c4, c5, hb⟩
  all_goals
    go_enter Tryz.func116, Tryz.ntmps116
    go_wp2_with fail
    refine hL.mono ?_
    rintro e w1 ⟨rfl, hb1⟩
    go_wp2_with fail
    go_ret
    exact ⟨rfl, hb1⟩
set_option maxHeartbeats 1600000 in
theorem mom_y (y d h mi se : Int) (m : Nat) (w : World) (y0 : 1970 ≤ y) (y1 : y ≤ 9999) (hm : m < 12) (d0 : 1 ≤ d) (d1 : d ≤ 9999) (h0 : -1 ≤ h) (h1 : h ≤ 99) (i0 : -1 ≤ mi) (i1 : mi ≤ 99) (s0 : -1 ≤ se) (s1 : se ≤ 99) (c0 : d ≤ Dt.ml y m) (c1 : 0 ≤ h) (c2 : h ≤ 23) (c3 : 0 ≤ mi) (c4 : mi ≤ 59) (c5 : 0 ≤ se) (c6 : se ≤ 59) :
    Calls Tryz.prog 116 #[.int .i64 y, .int .i64 m, .int .i64 d, .int .i64 h, .int .i64 mi, .int .i64 se] w fun e w' => e = .returned (.int .i64 ((d - 1 + Dt.ny y + Dt.cum y m) * 86400 + h * 3600 + mi * 60 + se)) ∧ Below w.heap.size w w' := by
  have hL := long_c y m w (by omega) (by omega) hm
  have hl := Dt.ml_bd y m
  obtain ⟨l0, l1⟩ := hl
  go_enter Tryz.func116, Tryz.ntmps116
  go_wp2_with fail
  refine hL.mono ?_
  rintro e w1 ⟨rfl, hb1⟩
  clear hL
  go_wp2_with fail
  go_loop [13, 14] (fun x k => ∃ z n : Int, 1970 ≤ z ∧ z ≤ y ∧ k = .int .i64 z ∧ x = .int .i64 n ∧ 0 ≤ n ∧ n ≤ 3000000 ∧ Hid (n = d - 1 + Dt.ny z)) (fun _ k => (y - intOf k).toNat)
  case atStart => exact ⟨1970, d - 1, by omega, y0, rfl, rfl, by omega, by omega, Lib.hid (by rw [Dt.ny_1970]; omega)⟩
  case round =>
    obtain ⟨z, n, z0, z1, rfl, rfl, n0, n1, HN⟩ := hrel
    by_cases hc : z + 400 ≤ y
    · have HN' : Hid (n + 146097 = d - 1 + Dt.ny (z + 400)) := by
        have h1 := Dt.ny_400 z
        have h2 := HN.out
        show _ = _
        omega
      have hb := Dt.ny_bd (z + 400) (by omega) (by omega)
      have hn1 : n + 146097 ≤ 3000000 := by have := HN'.out; omega
      clear hb
      go_wp2_with fail
      go_round
      case rel => exact ⟨z + 400, n + 146097, by omega, by omega, rfl, rfl, by omega, hn1, HN'⟩
      case measure => simp [intOf]; omega
    · have hc' : y < z + 400 := by omega
      clear hc
      go_wp2_with fail
      go_loopw [13, 14] (fun x k wr => ∃ z n : Int, 1970 ≤ z ∧ z ≤ y ∧ k = .int .i64 z ∧ x = .int .i64 n ∧ 0 ≤ n ∧ n ≤ 3000000 ∧ Hid (n = d - 1 + Dt.ny z) ∧ Below w.heap.size w wr) (fun _ k _ => (y - intOf k).toNat)
      case atStart => exact ⟨z, n, z0, z1, rfl, rfl, n0, n1, HN, hb1⟩
      case round =>
        clear hc' z0 z1 n0 n1 HN hb1
        obtain ⟨z, n, z0, z1, rfl, rfl, n0, n1, HN, hB⟩ := hrel
        by_cases hc : z < y
        · have hlp := Dt.lp_01 z
          obtain ⟨p0, p1⟩ := hlp
          have HN' : Hid (n + (365 + Dt.lp z) = d - 1 + Dt.ny (z + 1)) := by
            have h1 := Dt.ny_succ z
            have h2 := HN.out
            show _ = _
            omega
          have hb := Dt.ny_bd (z + 1) (by omega) (by omega)
          have hn1 : n + (365 + Dt.lp z) ≤ 3000000 := by have := HN'.out; omega
          clear hb
          go_wp2_with fail
          refine (year_c z _ (by omega) (by omega)).mono ?_
          rintro e w2 ⟨rfl, hb2⟩
          go_wp2_with fail
          go_roundw
          case rel => exact ⟨z + 1, n + (365 + Dt.lp z), by omega, by omega, rfl, rfl, by omega, hn1, HN', hB.trans (hb2.mono hB.size)⟩
          case measure => simp [intOf]; omega
        · obtain rfl : z = y := by omega
          have hny := Dt.ny_bd z z0 (by omega)
          have hn2 : n ≤ 2950000 := by have := HN.out; omega
          clear hc hny
          go_wp2_with fail
          go_loopw [13, 15] (fun x k wr => ∃ (j : Nat) (q : Int), j ≤ m ∧ k = .int .i64 j ∧ x = .int .i64 q ∧ 0 ≤ q ∧ q ≤ 3000000 ∧ Hid (q = d - 1 + Dt.ny z + Dt.cum z j) ∧ Below w.heap.size w wr) (fun _ k _ => m - (intOf k).toNat)
          case atStart => exact ⟨0, n, by omega, rfl, rfl, n0, by omega, Lib.hid (by rw [show ((0 : Nat) : Int) = 0 by rfl, Dt.cum_zero, Int.add_zero]; exact HN.out), hB⟩
          case round =>
            clear hB
            obtain ⟨j, q, hj, rfl, rfl, q0, q1, HQ, hB⟩ := hrel
            by_cases hlt : j < m
            · have hlb := Dt.ml_bd z j
              obtain ⟨m0, m1⟩ := hlb
              have HQ' : Hid (q + Dt.ml z j = d - 1 + Dt.ny z + Dt.cum z ((j + 1 : Nat) : Int)) := by
                have h1 := cum_step z j (by omega)
                have h4 := HQ.out
                show _ = _
                rw [Int.natCast_add, Int.natCast_one]
                omega
              have hq1 : q + Dt.ml z j ≤ 3000000 := by
                have h1 := HQ'.out
                have h2 := Dt.cum_bd z ((j + 1 : Nat) : Int)
                have h3 := HN.out
                omega
              go_wp2_with fail
              refine (long_c z j _ (by omega) (by omega) (by omega)).mono ?_
              rintro e w2 ⟨rfl, hb2⟩
              go_wp2_with fail
              go_roundw
              case rel => exact ⟨j + 1, q + Dt.ml z j, by omega, by go_num, rfl, by omega, hq1, HQ', hB.trans (hb2.mono hB.size)⟩
              case measure => simp [intOf]; omega
            · obtain rfl : j = m := by omega
              go_wp2_with fail
              go_ret
              exact ⟨ret_int (by rw [HQ.out]), hB⟩
theorem mom_c (y m d h mi se : Int) (w : World) (y1 : y ≤ 9999) (m1 : m ≤ 11) (d1 : d ≤ 9999) (h0 : -1 ≤ h) (h1 : h ≤ 99) (i0 : -1 ≤ mi) (i1 : mi ≤ 99) (s0 : -1 ≤ se) (s1 : se ≤ 99) :
    Calls Tryz.prog 116 #[.int .i64 y, .int .i64 m, .int .i64 d, .int .i64 h, .int .i64 mi, .int .i64 se] w fun e w' => e = .returned (.int .i64 (Dt.momR y m d h mi se)) ∧ Below w.heap.size w w' := by
  by_cases ha : y < 1970 ∨ (1970 ≤ y ∧ m < 0) ∨ (1970 ≤ y ∧ 0 ≤ m ∧ d < 1)
  · rw [momR_no (by unfold Dt.valid; omega)]
    exact (mom_a y m d h mi se w ha).mono (by rintro e w' ⟨rfl, rfl⟩; exact ⟨rfl, Below.refl _ _⟩)
  · obtain ⟨j, rfl⟩ : ∃ j : Nat, m = j := ⟨m.toNat, by omega⟩
    by_cases hb : (Dt.ml y j < d) ∨ (d ≤ Dt.ml y j ∧ h < 0) ∨ (d ≤ Dt.ml y j ∧ 0 ≤ h ∧ 23 < h) ∨ (d ≤ Dt.ml y j ∧ 0 ≤ h ∧ h ≤ 23 ∧ mi < 0) ∨ (d ≤ Dt.ml y j ∧ 0 ≤ h ∧ h ≤ 23 ∧ 0 ≤ mi ∧ 59 < mi) ∨ (d ≤ Dt.ml y j ∧ 0 ≤ h ∧ h ≤ 23 ∧ 0 ≤ mi ∧ mi ≤ 59 ∧ se < 0) ∨ (d ≤ Dt.ml y j ∧ 0 ≤ h ∧ h ≤ 23 ∧ 0 ≤ mi ∧ mi ≤ 59 ∧ 0 ≤ se ∧ 59 < se)
    · rw [momR_no (by unfold Dt.valid; omega)]
      exact mom_b y d h mi se j w (by omega) y1 (by omega) (by omega) d1 h0 h1 i0 i1 s0 s1 hb
    · have hv : Dt.valid y j d h mi se := by unfold Dt.valid; omega
      have := mom_y y d h mi se j w (by omega) y1 (by omega) (by omega) d1 h0 h1 i0 i1 s0 s1 (by omega) (by omega) (by omega) (by omega) (by omega) (by omega) (by omega)
      unfold Dt.momR
      rw [if_pos hv]
      exact this
end Go.Proofs.YtoanelobggledaaGreatDoor

namespace Go.Proofs.YtoanelobggledaaGreatDoor
open Go.RowKit

theorem dn_size (k : Nat) (h : k < 7) : 6 ≤ (str (Dt.dayNames.getD k [])).size ∧ (str (Dt.dayNames.getD k [])).size ≤ 9 := by
  rw [str_size]
  have : k = 0 ∨ k = 1 ∨ k = 2 ∨ k = 3 ∨ k = 4 ∨ k = 5 ∨ k = 6 := by omega
  rcases this with rfl | rfl | rfl | rfl | rfl | rfl | rfl <;> decide
theorem asked29_no {l : List UInt8} (hl : l.length = 29) (h : ¬ (0 ≤ Dt.at0 l ∧ l = Dt.form (Dt.at0 l) 0)) : Dt.asked l = (0, 10) :=
  Dt.asked_no fun a ha => by
    have := Dt.says29 hl ha
    exact h ⟨by rw [this.1]; exact ha.1, by rw [this.1]; exact this.2⟩
theorem asked29_yes {l : List UInt8} (h0 : 0 ≤ Dt.at0 l) (h : l = Dt.form (Dt.at0 l) 0) : Dt.asked l = (Dt.at0 l, 0) :=
  Dt.asked_yes ⟨h0, Dt.at0_bd l h0, .inl h⟩
theorem asked24_no {l : List UInt8} (hl : l.length = 24) (h : ¬ (0 ≤ Dt.at2 l ∧ l = Dt.form (Dt.at2 l) 2)) : Dt.asked l = (0, 10) :=
  Dt.asked_no fun a ha => by
    have := Dt.says24 hl ha
    exact h ⟨by rw [this.1]; exact ha.1, by rw [this.1]; exact this.2⟩
theorem asked24_yes {l : List UInt8} (h0 : 0 ≤ Dt.at2 l) (h : l = Dt.form (Dt.at2 l) 2) : Dt.asked l = (Dt.at2 l, 0) :=
  Dt.asked_yes ⟨h0, Dt.at2_bd l h0, .inr (.inr h)⟩
theorem askedX_no {l : List UInt8} (hl : ¬ l.length = 29) (hl' : ¬ l.length = 24) (h : ∀ j, j < 7 → ¬ Dt.Hit l j) : Dt.asked l = (0, 10) :=
  Dt.asked_no fun a ha => by
    obtain ⟨w, hw, hh, _⟩ := Dt.saysX hl hl' ha
    exact h w hw hh
theorem askedX_neg {l : List UInt8} (hl : ¬ l.length = 29) (hl' : ¬ l.length = 24) {k : Nat} (hk : k < 7) (hn : Dt.Named l k) (hy : Dt.y1 l (Dt.dayNames.getD k []).length < 0) : Dt.asked l = (0, 10) :=
  Dt.asked_no fun a ha => by
    obtain ⟨w, hw, hh, h0, _⟩ := Dt.saysX hl hl' ha
    have := Dt.Named.one hw hk hh.1 hn
    subst this
    omega
theorem form_bytes (s : ByteArray) (a i : Int) : ((str (Dt.form a i)).toList == s.toList) = decide (s.data.toList = Dt.form a i) := by
  rw [bytes_eq, str_list, Bool.eq_iff_iff]; simp [eq_comm]
end Go.Proofs.YtoanelobggledaaGreatDoor

namespace Go.Proofs.YtoanelobggledaaGreatDoor
open Go.RowKit

set_option maxHeartbeats 3200000 in
set_option maxRecDepth 100000 in
theorem rParse_29 (s : ByteArray) (w : World) (hs : s.size = 29) :
    Calls Tryz.prog 88 #[.string s] w fun e w' => e = .returned (.tuple #[.int .i64 (Dt.asked s.data.toList).1, .int .i64 (Dt.asked s.data.toList).2]) ∧ Below w.heap.size w w' := by
  have hlen : s.data.toList.length = 29 := by rw [Oct.length_size, hs]
  have HAt : Hid (Dt.at0 s.data.toList = Dt.momR (Dt.numR (Dt.cut s.data.toList 12 16)) (Dt.finR (Dt.cut s.data.toList 8 11)) (Dt.numR (Dt.cut s.data.toList 5 7)) (Dt.numR (Dt.cut s.data.toList 17 19)) (Dt.numR (Dt.cut s.data.toList 20 22)) (Dt.numR (Dt.cut s.data.toList 23 25))) := rfl
  have hNY := fun w => num_c s 12 16 w (by omega) (by omega) (by omega) (by omega)
  have bNY := Dt.numR_4 s.data.toList 12 16 (by omega)
  have hND := fun w => num_c s 5 7 w (by omega) (by omega) (by omega) (by omega)
  have bND := Dt.numR_2 s.data.toList 5 7 (by omega)
  have hNH := fun w => num_c s 17 19 w (by omega) (by omega) (by omega) (by omega)
  have bNH := Dt.numR_2 s.data.toList 17 19 (by omega)
  have hNI := fun w => num_c s 20 22 w (by omega) (by omega) (by omega) (by omega)
  have bNI := Dt.numR_2 s.data.toList 20 22 (by omega)
  have hNS := fun w => num_c s 23 25 w (by omega) (by omega) (by omega) (by omega)
  have bNS := Dt.numR_2 s.data.toList 23 25 (by omega)
  have hNM := fun w => find_c s 8 w (by omega) (by omega)
  have bNM := Dt.finR_bd (Dt.cut s.data.toList 8 11)
  generalize Dt.numR (Dt.cut s.data.toList 12 16) = NY at hNY bNY HAt
  generalize Dt.numR (Dt.cut s.data.toList 5 7) = ND at hND bND HAt
  generalize Dt.numR (Dt.cut s.data.toList 17 19) = NH at hNH bNH HAt
  generalize Dt.numR (Dt.cut s.data.toList 20 22) = NI at hNI bNI HAt
  generalize Dt.numR (Dt.cut s.data.toList 23 25) = NS at hNS bNS HAt
  have hNM' : ∀ w, Calls Tryz.prog 118 #[.string s, .int .i64 8] w fun e w' => e = .returned (.int .i64 (Dt.finR (Dt.cut s.data.toList 8 11))) ∧ Below w.heap.size w w' := hNM
  generalize Dt.finR (Dt.cut s.data.toList 8 11) = NM at hNM' bNM HAt
  clear hNM
  obtain ⟨lNY, uNY⟩ := bNY
  obtain ⟨lNM, uNM⟩ := bNM
  obtain ⟨lND, uND⟩ := bND
  obtain ⟨lNH, uNH⟩ := bNH
  obtain ⟨lNI, uNI⟩ := bNI
  obtain ⟨lNS, uNS⟩ := bNS
  have hMo := fun w => mom_c NY NM ND NH NI NS w (by omega) (by omega) (by omega) (by omega) (by omega) (by omega) (by omega) (by omega) (by omega)
  have HBd := Lib.hid (Dt.at0_bd s.data.toList)
  have HYes := Lib.hid (@asked29_yes s.data.toList)
  have HNo := Lib.hid (@asked29_no s.data.toList hlen)
  have HFb := Lib.hid (form_bytes s)
  rw [← HAt.out] at hMo
  generalize Dt.at0 s.data.toList = A at hMo HBd HYes HNo
  clear HAt hlen
  go_enter Tryz.func88, Tryz.ntmps88
  go_wp2_with fail
  refine (hNY _).mono ?_
  rintro e w' ⟨rfl, rfl⟩
  go_wp2_with fail
  refine (hNM' _).mono ?_
  rintro e w1 ⟨rfl, hb1⟩
  go_wp2_with fail
  refine (hND _).mono ?_
  rintro e w' ⟨rfl, rfl⟩
  go_wp2_with fail
  refine (hNH _).mono ?_
  rintro e w' ⟨rfl, rfl⟩
  go_wp2_with fail
  refine (hNI _).mono ?_
  rintro e w' ⟨rfl, rfl⟩
  go_wp2_with fail
  refine (hNS _).mono ?_
  rintro e w' ⟨rfl, rfl⟩
  go_wp2_with fail
  refine (hMo _).mono ?_
  rintro e w2 ⟨rfl, hb2⟩
  have hB2 := bt hb1 hb2
  clear hb1 hb2 hNY hNM' hND hNH hNI hNS hMo lNY lNM lND lNH lNI lNS uNY uNM uND uNH uNI uNS
  by_cases hA : 0 ≤ A
  · have hAl := HBd.out hA
    have hF := Form_0 A w2 hA hAl
    have hfb := HFb.out A 0
    by_cases he : s.data.toList = Dt.form A 0
    · have HR := Lib.hid (HYes.out hA he)
      rw [decide_eq_true he] at hfb
      clear he hAl
      generalize str (Dt.form A 0) = x at hF hfb
      go_wp2_with fail
      refine hF.mono ?_
      rintro e w3 ⟨rfl, hb3⟩
      have hB3 := bt hB2 hb3
      clear hF hb3
      go_wp2_with fail
      go_ret2
      exact ⟨by rw [HR.out]; rfl, hB3⟩
    · have HR := Lib.hid (HNo.out (fun h => he h.2))
      rw [decide_eq_false he] at hfb
      clear he hAl
      generalize str (Dt.form A 0) = x at hF hfb
      go_wp2_with fail
      refine hF.mono ?_
      rintro e w3 ⟨rfl, hb3⟩
      have hB3 := bt hB2 hb3
      clear hF hb3 hB2 HBd HYes HNo HFb
      go_wp2_with fail
      go_loopw [7] (fun i wr => ∃ k : Nat, k ≤ 7 ∧ i = .int .i64 k ∧ Below w.heap.size w wr) (fun i _ => 7 - (intOf i).toNat)
      case atStart => exact ⟨0, by omega, rfl, hB3⟩
      case round =>
        obtain ⟨k, hk, rfl, hB⟩ := hrel
        by_cases hlt : k < 7
        · have hD := Day_c k
          have hz := dn_size k hlt
          obtain ⟨DN, hDN⟩ : ∃ x, str (Dt.dayNames.getD k []) = x := ⟨_, rfl⟩
          rw [hDN] at hD hz
          clear hDN
          obtain ⟨z0, z1⟩ := hz
          have hlt' : (k : Int) < 7 := by omega
          have hne : ((29 : Int) == (DN.size : Int) + 24) = false := beq_eq_false_iff_ne.2 (by omega)
          have hne2 : ((29 : Int) != (DN.size : Int) + 24) = true := by rw [bne, hne]; rfl
          go_wp2_with fail
          refine (hD _ hlt).mono ?_
          rintro e w8 ⟨rfl, hb8⟩
          have hB8 := hB.trans (hb8.mono hB.size)
          clear hB hb8
          go_wp2_with fail
          have j2 := IntWalk.i64_in ((DN.size : Int) + 24) (by omega)
          refine wp_region_late (by kernel_rfl) (by kernel_rfl) ?_
          repeat (quiet_step (fail))
          refine wpQuiet_nil ?_
          intro w9 hw'
          have hb9 : Below w8.heap.size w8 w9 := by obtain ⟨p, rfl⟩ := hw'; exact p.h
          clear hw' j2
          go_wp2_with fail
          go_roundw
          case rel => exact ⟨k + 1, by omega, by go_num, hB8.trans (hb9.mono hB8.size)⟩
          case measure => simp [intOf]; omega
        · have hlt' : ¬ (k : Int) < 7 := by omega
          go_wp2_with fail
          go_ret2
          exact ⟨by rw [HR.out]; rfl, hB⟩
  · have HR := Lib.hid (HNo.out (fun h => hA h.1))
    have hA' : A < 0 := by omega
    clear HBd HYes HNo HFb hA
    go_wp2_with fail
    go_loopw [7] (fun i wr => ∃ k : Nat, k ≤ 7 ∧ i = .int .i64 k ∧ Below w.heap.size w wr) (fun i _ => 7 - (intOf i).toNat)
    case atStart => exact ⟨0, by omega, rfl, hB2⟩
    case round =>
      obtain ⟨k, hk, rfl, hB⟩ := hrel
      by_cases hlt : k < 7
      · have hD := Day_c k
        have hz := dn_size k hlt
        obtain ⟨DN, hDN⟩ : ∃ x, str (Dt.dayNames.getD k []) = x := ⟨_, rfl⟩
        rw [hDN] at hD hz
        clear hDN
        obtain ⟨z0, z1⟩ := hz
        have hlt' : (k : Int) < 7 := by omega
        have hne : ((29 : Int) == (DN.size : Int) + 24) = false := beq_eq_false_iff_ne.2 (by omega)
        have hne2 : ((29 : Int) != (DN.size : Int) + 24) = true := by rw [bne, hne]; rfl
        go_wp2_with fail
        refine (hD _ hlt).mono ?_
        rintro e w8 ⟨rfl, hb8⟩
        have hB8 := hB.trans (hb8.mono hB.size)
        clear hB hb8
        go_wp2_with fail
        have j2 := IntWalk.i64_in ((DN.size : Int) + 24) (by omega)
        refine wp_region_late (by kernel_rfl) (by kernel_rfl) ?_
        repeat (quiet_step (fail))
        refine wpQuiet_nil ?_
        intro w9 hw'
        have hb9 : Below w8.heap.size w8 w9 := by obtain ⟨p, rfl⟩ := hw'; exact p.h
        clear hw' j2
        go_wp2_with fail
        go_roundw
        case rel => exact ⟨k + 1, by omega, by go_num, hB8.trans (hb9.mono hB8.size)⟩
        case measure => simp [intOf]; omega
      · have hlt' : ¬ (k : Int) < 7 := by omega
        go_wp2_with fail
        go_ret2
        exact ⟨by rw [HR.out]; rfl, hB⟩
end Go.Proofs.YtoanelobggledaaGreatDoor

namespace Go.Proofs.YtoanelobggledaaGreatDoor
open Go.RowKit

set_option maxHeartbeats 3200000 in
set_option maxRecDepth 100000 in
theorem rParse_24 (s : ByteArray) (w : World) (hs : s.size = 24) :
    Calls Tryz.prog 88 #[.string s] w fun e w' => e = .returned (.tuple #[.int .i64 (Dt.asked s.data.toList).1, .int .i64 (Dt.asked s.data.toList).2]) ∧ Below w.heap.size w w' := by
  have hlen : s.data.toList.length = 24 := by rw [Oct.length_size, hs]
  have HAt : Hid (Dt.at2 s.data.toList = Dt.momR (Dt.numR (Dt.cut s.data.toList 20 24)) (Dt.finR (Dt.cut s.data.toList 4 7)) (Dt.numR (Dt.cut s.data.toList (Dt.from2 s.data.toList) 10)) (Dt.numR (Dt.cut s.data.toList 11 13)) (Dt.numR (Dt.cut s.data.toList 14 16)) (Dt.numR (Dt.cut s.data.toList 17 19))) := rfl
  obtain ⟨q, hq⟩ : ∃ q, Dt.from2 s.data.toList = q := ⟨_, rfl⟩
  have hq2 : (s.data.toList.getD 8 0 = 32 ∧ q = 9) ∨ (¬ s.data.toList.getD 8 0 = 32 ∧ q = 8) := by
    unfold Dt.from2 at hq
    split at hq
    · exact .inl ⟨by assumption, hq.symm⟩
    · exact .inr ⟨by assumption, hq.symm⟩
  have hs8 : s.data.toList.getD 8 0 = s[8]'(by omega) := by
    rw [List.getD_eq_getElem?_getD, List.getElem?_eq_getElem (by omega)]; rfl
  rw [hs8] at hq2
  rw [hq] at HAt
  have hNY := fun w => num_c s 20 24 w (by omega) (by omega) (by omega) (by omega)
  have bNY := Dt.numR_4 s.data.toList 20 24 (by omega)
  have hND := fun w => num_c s q 10 w (by omega) (by omega) (by omega) (by omega)
  have bND := Dt.numR_2 s.data.toList q 10 (by omega)
  have hNH := fun w => num_c s 11 13 w (by omega) (by omega) (by omega) (by omega)
  have bNH := Dt.numR_2 s.data.toList 11 13 (by omega)
  have hNI := fun w => num_c s 14 16 w (by omega) (by omega) (by omega) (by omega)
  have bNI := Dt.numR_2 s.data.toList 14 16 (by omega)
  have hNS := fun w => num_c s 17 19 w (by omega) (by omega) (by omega) (by omega)
  have bNS := Dt.numR_2 s.data.toList 17 19 (by omega)
  have hNM := fun w => find_c s 4 w (by omega) (by omega)
  have bNM := Dt.finR_bd (Dt.cut s.data.toList 4 7)
  generalize Dt.numR (Dt.cut s.data.toList 20 24) = NY at hNY bNY HAt
  generalize Dt.numR (Dt.cut s.data.toList q 10) = ND at hND bND HAt
  generalize Dt.numR (Dt.cut s.data.toList 11 13) = NH at hNH bNH HAt
  generalize Dt.numR (Dt.cut s.data.toList 14 16) = NI at hNI bNI HAt
  generalize Dt.numR (Dt.cut s.data.toList 17 19) = NS at hNS bNS HAt
  have hNM' : ∀ w, Calls Tryz.prog 118 #[.string s, .int .i64 4] w fun e w' => e = .returned (.int .i64 (Dt.finR (Dt.cut s.data.toList 4 7))) ∧ Below w.heap.size w w' := hNM
  generalize Dt.finR (Dt.cut s.data.toList 4 7) = NM at hNM' bNM HAt
  clear hNM
  obtain ⟨lNY, uNY⟩ := bNY
  obtain ⟨lNM, uNM⟩ := bNM
  obtain ⟨lND, uND⟩ := bND
  obtain ⟨lNH, uNH⟩ := bNH
  obtain ⟨lNI, uNI⟩ := bNI
  obtain ⟨lNS, uNS⟩ := bNS
  have hMo := fun w => mom_c NY NM ND NH NI NS w (by omega) (by omega) (by omega) (by omega) (by omega) (by omega) (by omega) (by omega) (by omega)
  have HBd := Lib.hid (Dt.at2_bd s.data.toList)
  have HYes := Lib.hid (@asked24_yes s.data.toList)
  have HNo := Lib.hid (@asked24_no s.data.toList hlen)
  have HFb := Lib.hid (form_bytes s)
  rw [← HAt.out] at hMo
  generalize Dt.at2 s.data.toList = A at hMo HBd HYes HNo
  clear HAt hlen
  rcases hq2 with ⟨h8, rfl⟩ | ⟨h8, rfl⟩
  · have h8' : ((s[8]'(by omega)).toNat : Int) = 32 := by rw [h8]; rfl
    have h8b : (((s[8]'(by omega)).toNat : Int) == 32) = true := beq_iff_eq.2 h8'
    clear h8 hs8 h8' hq
    go_enter Tryz.func88, Tryz.ntmps88
    go_wp2_with fail
    refine (hNY _).mono ?_
    rintro e w' ⟨rfl, rfl⟩
    go_wp2_with fail
    refine (hNM' _).mono ?_
    rintro e w1 ⟨rfl, hb1⟩
    go_wp2_with fail
    refine (hND _).mono ?_
    rintro e w' ⟨rfl, rfl⟩
    go_wp2_with fail
    refine (hNH _).mono ?_
    rintro e w' ⟨rfl, rfl⟩
    go_wp2_with fail
    refine (hNI _).mono ?_
    rintro e w' ⟨rfl, rfl⟩
    go_wp2_with fail
    refine (hNS _).mono ?_
    rintro e w' ⟨rfl, rfl⟩
    go_wp2_with fail
    refine (hMo _).mono ?_
    rintro e w2 ⟨rfl, hb2⟩
    have hB2 := bt hb1 hb2
    clear hb1 hb2 hNY hNM' hND hNH hNI hNS hMo lNY lNM lND lNH lNI lNS uNY uNM uND uNH uNI uNS
    by_cases hA : 0 ≤ A
    · have hAl := HBd.out hA
      have hF := Form_2 A w2 hA hAl
      have hfb := HFb.out A 2
      by_cases he : s.data.toList = Dt.form A 2
      · have HR := Lib.hid (HYes.out hA he)
        rw [decide_eq_true he] at hfb
        clear he hAl
        generalize str (Dt.form A 2) = x at hF hfb
        go_wp2_with fail
        refine hF.mono ?_
        rintro e w3 ⟨rfl, hb3⟩
        have hB3 := bt hB2 hb3
        clear hF hb3
        go_wp2_with fail
        go_ret2
        exact ⟨by rw [HR.out]; rfl, hB3⟩
      · have HR := Lib.hid (HNo.out (fun h => he h.2))
        rw [decide_eq_false he] at hfb
        clear he hAl
        generalize str (Dt.form A 2) = x at hF hfb
        go_wp2_with fail
        refine hF.mono ?_
        rintro e w3 ⟨rfl, hb3⟩
        have hB3 := bt hB2 hb3
        clear hF hb3 hB2 HBd HYes HNo HFb
        go_wp2_with fail
        go_loopw [7] (fun i wr => ∃ k : Nat, k ≤ 7 ∧ i = .int .i64 k ∧ Below w.heap.size w wr) (fun i _ => 7 - (intOf i).toNat)
        case atStart => exact ⟨0, by omega, rfl, hB3⟩
        case round =>
          obtain ⟨k, hk, rfl, hB⟩ := hrel
          by_cases hlt : k < 7
          · have hD := Day_c k
            have hz := dn_size k hlt
            obtain ⟨DN, hDN⟩ : ∃ x, str (Dt.dayNames.getD k []) = x := ⟨_, rfl⟩
            rw [hDN] at hD hz
            clear hDN
            obtain ⟨z0, z1⟩ := hz
            have hlt' : (k : Int) < 7 := by omega
            have hne : ((24 : Int) == (DN.size : Int) + 24) = false := beq_eq_false_iff_ne.2 (by omega)
            have hne2 : ((24 : Int) != (DN.size : Int) + 24) = true := by rw [bne, hne]; rfl
            go_wp2_with fail
            refine (hD _ hlt).mono ?_
            rintro e w8 ⟨rfl, hb8⟩
            have hB8 := hB.trans (hb8.mono hB.size)
            clear hB hb8
            go_wp2_with fail
            have j2 := IntWalk.i64_in ((DN.size : Int) + 24) (by omega)
            refine wp_region_late (by kernel_rfl) (by kernel_rfl) ?_
            repeat (quiet_step (fail))
            refine wpQuiet_nil ?_
            intro w9 hw'
            have hb9 : Below w8.heap.size w8 w9 := by obtain ⟨p, rfl⟩ := hw'; exact p.h
            clear hw' j2
            go_wp2_with fail
            go_roundw
            case rel => exact ⟨k + 1, by omega, by go_num, hB8.trans (hb9.mono hB8.size)⟩
            case measure => simp [intOf]; omega
          · have hlt' : ¬ (k : Int) < 7 := by omega
            go_wp2_with fail
            go_ret2
            exact ⟨by rw [HR.out]; rfl, hB⟩
    · have HR := Lib.hid (HNo.out (fun h => hA h.1))
      have hA' : A < 0 := by omega
      clear HBd HYes HNo HFb hA
      go_wp2_with fail
      go_loopw [7] (fun i wr => ∃ k : Nat, k ≤ 7 ∧ i = .int .i64 k ∧ Below w.heap.size w wr) (fun i _ => 7 - (intOf i).toNat)
      case atStart => exact ⟨0, by omega, rfl, hB2⟩
      case round =>
        obtain ⟨k, hk, rfl, hB⟩ := hrel
        by_cases hlt : k < 7
        · have hD := Day_c k
          have hz := dn_size k hlt
          obtain ⟨DN, hDN⟩ : ∃ x, str (Dt.dayNames.getD k []) = x := ⟨_, rfl⟩
          rw [hDN] at hD hz
          clear hDN
          obtain ⟨z0, z1⟩ := hz
          have hlt' : (k : Int) < 7 := by omega
          have hne : ((24 : Int) == (DN.size : Int) + 24) = false := beq_eq_false_iff_ne.2 (by omega)
          have hne2 : ((24 : Int) != (DN.size : Int) + 24) = true := by rw [bne, hne]; rfl
          go_wp2_with fail
          refine (hD _ hlt).mono ?_
          rintro e w8 ⟨rfl, hb8⟩
          have hB8 := hB.trans (hb8.mono hB.size)
          clear hB hb8
          go_wp2_with fail
          have j2 := IntWalk.i64_in ((DN.size : Int) + 24) (by omega)
          refine wp_region_late (by kernel_rfl) (by kernel_rfl) ?_
          repeat (quiet_step (fail))
          refine wpQuiet_nil ?_
          intro w9 hw'
          have hb9 : Below w8.heap.size w8 w9 := by obtain ⟨p, rfl⟩ := hw'; exact p.h
          clear hw' j2
          go_wp2_with fail
          go_roundw
          case rel => exact ⟨k + 1, by omega, by go_num, hB8.trans (hb9.mono hB8.size)⟩
          case measure => simp [intOf]; omega
        · have hlt' : ¬ (k : Int) < 7 := by omega
          go_wp2_with fail
          go_ret2
          exact ⟨by rw [HR.out]; rfl, hB⟩
  · have h8' : ¬ ((s[8]'(by omega)).toNat : Int) = 32 := fun e => h8 (by apply UInt8.toNat_inj.1; show _ = 32; omega)
    have h8b : (((s[8]'(by omega)).toNat : Int) == 32) = false := beq_eq_false_iff_ne.2 h8'
    clear h8 hs8 h8' hq
    go_enter Tryz.func88, Tryz.ntmps88
    go_wp2_with fail
    refine (hNY _).mono ?_
    rintro e w' ⟨rfl, rfl⟩
    go_wp2_with fail
    refine (hNM' _).mono ?_
    rintro e w1 ⟨rfl, hb1⟩
    go_wp2_with fail
    refine (hND _).mono ?_
    rintro e w' ⟨rfl, rfl⟩
    go_wp2_with fail
    refine (hNH _).mono ?_
    rintro e w' ⟨rfl, rfl⟩
    go_wp2_with fail
    refine (hNI _).mono ?_
    rintro e w' ⟨rfl, rfl⟩
    go_wp2_with fail
    refine (hNS _).mono ?_
    rintro e w' ⟨rfl, rfl⟩
    go_wp2_with fail
    refine (hMo _).mono ?_
    rintro e w2 ⟨rfl, hb2⟩
    have hB2 := bt hb1 hb2
    clear hb1 hb2 hNY hNM' hND hNH hNI hNS hMo lNY lNM lND lNH lNI lNS uNY uNM uND uNH uNI uNS
    by_cases hA : 0 ≤ A
    · have hAl := HBd.out hA
      have hF := Form_2 A w2 hA hAl
      have hfb := HFb.out A 2
      by_cases he : s.data.toList = Dt.form A 2
      · have HR := Lib.hid (HYes.out hA he)
        rw [decide_eq_true he] at hfb
        clear he hAl
        generalize str (Dt.form A 2) = x at hF hfb
        go_wp2_with fail
        refine hF.mono ?_
        rintro e w3 ⟨rfl, hb3⟩
        have hB3 := bt hB2 hb3
        clear hF hb3
        go_wp2_with fail
        go_ret2
        exact ⟨by rw [HR.out]; rfl, hB3⟩
      · have HR := Lib.hid (HNo.out (fun h => he h.2))
        rw [decide_eq_false he] at hfb
        clear he hAl
        generalize str (Dt.form A 2) = x at hF hfb
        go_wp2_with fail
        refine hF.mono ?_
        rintro e w3 ⟨rfl, hb3⟩
        have hB3 := bt hB2 hb3
        clear hF hb3 hB2 HBd HYes HNo HFb
        go_wp2_with fail
        go_loopw [7] (fun i wr => ∃ k : Nat, k ≤ 7 ∧ i = .int .i64 k ∧ Below w.heap.size w wr) (fun i _ => 7 - (intOf i).toNat)
        case atStart => exact ⟨0, by omega, rfl, hB3⟩
        case round =>
          obtain ⟨k, hk, rfl, hB⟩ := hrel
          by_cases hlt : k < 7
          · have hD := Day_c k
            have hz := dn_size k hlt
            obtain ⟨DN, hDN⟩ : ∃ x, str (Dt.dayNames.getD k []) = x := ⟨_, rfl⟩
            rw [hDN] at hD hz
            clear hDN
            obtain ⟨z0, z1⟩ := hz
            have hlt' : (k : Int) < 7 := by omega
            have hne : ((24 : Int) == (DN.size : Int) + 24) = false := beq_eq_false_iff_ne.2 (by omega)
            have hne2 : ((24 : Int) != (DN.size : Int) + 24) = true := by rw [bne, hne]; rfl
            go_wp2_with fail
            refine (hD _ hlt).mono ?_
            rintro e w8 ⟨rfl, hb8⟩
            have hB8 := hB.trans (hb8.mono hB.size)
            clear hB hb8
            go_wp2_with fail
            have j2 := IntWalk.i64_in ((DN.size : Int) + 24) (by omega)
            refine wp_region_late (by kernel_rfl) (by kernel_rfl) ?_
            repeat (quiet_step (fail))
            refine wpQuiet_nil ?_
            intro w9 hw'
            have hb9 : Below w8.heap.size w8 w9 := by obtain ⟨p, rfl⟩ := hw'; exact p.h
            clear hw' j2
            go_wp2_with fail
            go_roundw
            case rel => exact ⟨k + 1, by omega, by go_num, hB8.trans (hb9.mono hB8.size)⟩
            case measure => simp [intOf]; omega
          · have hlt' : ¬ (k : Int) < 7 := by omega
            go_wp2_with fail
            go_ret2
            exact ⟨by rw [HR.out]; rfl, hB⟩
    · have HR := Lib.hid (HNo.out (fun h => hA h.1))
      have hA' : A < 0 := by omega
      clear HBd HYes HNo HFb hA
      go_wp2_with fail
      go_loopw [7] (fun i wr => ∃ k : Nat, k ≤ 7 ∧ i = .int .i64 k ∧ Below w.heap.size w wr) (fun i _ => 7 - (intOf i).toNat)
      case atStart => exact ⟨0, by omega, rfl, hB2⟩
      case round =>
        obtain ⟨k, hk, rfl, hB⟩ := hrel
        by_cases hlt : k < 7
        · have hD := Day_c k
          have hz := dn_size k hlt
          obtain ⟨DN, hDN⟩ : ∃ x, str (Dt.dayNames.getD k []) = x := ⟨_, rfl⟩
          rw [hDN] at hD hz
          clear hDN
          obtain ⟨z0, z1⟩ := hz
          have hlt' : (k : Int) < 7 := by omega
          have hne : ((24 : Int) == (DN.size : Int) + 24) = false := beq_eq_false_iff_ne.2 (by omega)
          have hne2 : ((24 : Int) != (DN.size : Int) + 24) = true := by rw [bne, hne]; rfl
          go_wp2_with fail
          refine (hD _ hlt).mono ?_
          rintro e w8 ⟨rfl, hb8⟩
          have hB8 := hB.trans (hb8.mono hB.size)
          clear hB hb8
          go_wp2_with fail
          have j2 := IntWalk.i64_in ((DN.size : Int) + 24) (by omega)
          refine wp_region_late (by kernel_rfl) (by kernel_rfl) ?_
          repeat (quiet_step (fail))
          refine wpQuiet_nil ?_
          intro w9 hw'
          have hb9 : Below w8.heap.size w8 w9 := by obtain ⟨p, rfl⟩ := hw'; exact p.h
          clear hw' j2
          go_wp2_with fail
          go_roundw
          case rel => exact ⟨k + 1, by omega, by go_num, hB8.trans (hb9.mono hB8.size)⟩
          case measure => simp [intOf]; omega
        · have hlt' : ¬ (k : Int) < 7 := by omega
          go_wp2_with fail
          go_ret2
          exact ⟨by rw [HR.out]; rfl, hB⟩
end Go.Proofs.YtoanelobggledaaGreatDoor

namespace Go.Proofs.YtoanelobggledaaGreatDoor
open Go.RowKit

set_option maxHeartbeats 6400000 in
set_option maxRecDepth 100000 in
theorem rParse_X (s : ByteArray) (w : World) (_hs : s.size ≤ 500) (h29 : ¬ s.size = 29) (h24 : ¬ s.size = 24) :
    Calls Tryz.prog 88 #[.string s] w fun e w' => e = .returned (.tuple #[.int .i64 (Dt.asked s.data.toList).1, .int .i64 (Dt.asked s.data.toList).2]) ∧ Below w.heap.size w w' := by
  have hlen : s.data.toList.length = s.size := Oct.length_size s
  have g29 : ((s.size : Int) == 29) = false := beq_eq_false_iff_ne.2 (by omega)
  have g24 : ((s.size : Int) == 24) = false := beq_eq_false_iff_ne.2 (by omega)
  have HNo := Lib.hid (@askedX_no s.data.toList (by omega) (by omega))
  have HNeg := Lib.hid (fun k hk hn hy => @askedX_neg s.data.toList (by omega) (by omega) k hk hn hy)
  have HL := Lib.hid hlen
  have HFb := Lib.hid (form_bytes s)
  clear h29 h24 hlen
  go_enter Tryz.func88, Tryz.ntmps88
  go_wp2_with fail
  go_loopw [7] (fun i wr => ∃ k : Nat, k ≤ 7 ∧ i = .int .i64 k ∧ Hid (∀ j, j < k → ¬ Dt.Hit s.data.toList j) ∧ Below w.heap.size w wr) (fun i _ => 7 - (intOf i).toNat)
  case atStart => exact ⟨0, by omega, rfl, Lib.hid (fun j hj => by omega), Below.refl _ _⟩
  case round =>
    obtain ⟨k, hk, rfl, HN, hB⟩ := hrel
    by_cases hlt : k < 7
    · have hD := Day_c k
      have hz := dn_size k hlt
      obtain ⟨K, hK⟩ : ∃ K, (Dt.dayNames.getD k []).length = K := ⟨_, rfl⟩
      have hzK : (str (Dt.dayNames.getD k [])).size = K := by rw [str_size, hK]
      obtain ⟨DN, hDN⟩ : ∃ x, str (Dt.dayNames.getD k []) = x := ⟨_, rfl⟩
      have HDN := Lib.hid hDN
      rw [hDN] at hD hz hzK
      rw [hzK] at hz
      clear hDN
      obtain ⟨z0, z1⟩ := hz
      have HK := Lib.hid hK
      clear hK
      have hlt' : (k : Int) < 7 := by omega
      have hgo : ¬ Dt.Hit s.data.toList k → ∀ j, j < k + 1 → ¬ Dt.Hit s.data.toList j := fun h j hj => by
        by_cases hjk : j = k
        · rw [hjk]; exact h
        · exact HN.out j (by omega)
      have HGo := Lib.hid hgo
      clear hgo HN
      by_cases hsz : s.size = K + 24
      · by_cases hpre : Dt.cut s.data.toList 0 K = DN.data.toList
        · have hnamed : Dt.Named s.data.toList k := ⟨by rw [HL.out, HK.out, hsz], by
            have h2 := hpre
            unfold Dt.cut at h2
            rw [List.drop_zero] at h2
            rw [HK.out, h2, ← HDN.out, str_list]⟩
          have HNamed := Lib.hid hnamed
          have HBd : Hid (0 ≤ Dt.at1 s.data.toList K → 0 ≤ Dt.y1 s.data.toList K → Dt.at1 s.data.toList K ≤ Dt.last) := fun h h' => Int.le_trans (Dt.at1_bd _ _ h h') Dt.lastForms_last
          have HYes : Hid (0 ≤ Dt.at1 s.data.toList K → 0 ≤ Dt.y1 s.data.toList K → s.data.toList = Dt.form (Dt.at1 s.data.toList K) 1 → Dt.asked s.data.toList = (Dt.at1 s.data.toList K, 0)) := fun h h' h2 => by
            have hs := Dt.hit_says (l := s.data.toList) (w := k) ⟨hnamed, by rw [HK.out]; exact h, by rw [HK.out]; exact h2⟩ (by rw [HK.out]; exact h')
            rw [HK.out] at hs
            exact Dt.asked_yes hs
          have HNegY : Hid (Dt.y1 s.data.toList K < 0 → Dt.asked s.data.toList = (0, 10)) := fun h => HNeg.out k hlt hnamed (by rw [HK.out]; exact h)
          have HGo' : Hid (¬ (0 ≤ Dt.at1 s.data.toList K ∧ s.data.toList = Dt.form (Dt.at1 s.data.toList K) 1) → ∀ j, j < k + 1 → ¬ Dt.Hit s.data.toList j) := fun h => HGo.out (fun hh => h (by
            have h2 := hh.2
            rw [HK.out] at h2
            exact h2))
          have HAt : Hid (Dt.at1 s.data.toList K = Dt.momR ((if Dt.y1 s.data.toList K < 70 then Dt.y1 s.data.toList K + 100 else Dt.y1 s.data.toList K) + 1900) (Dt.finR (Dt.cut s.data.toList (K + 5) (K + 8))) (Dt.numR (Dt.cut s.data.toList (K + 2) (K + 4))) (Dt.numR (Dt.cut s.data.toList (K + 12) (K + 14))) (Dt.numR (Dt.cut s.data.toList (K + 15) (K + 17))) (Dt.numR (Dt.cut s.data.toList (K + 18) (K + 20)))) := rfl
          have HY1 : Hid (Dt.y1 s.data.toList K = Dt.numR (Dt.cut s.data.toList (K + 9) (K + 11))) := rfl
          have hbx : ((s.extract 0 K).toList == DN.toList) = true := by rw [ext_eq, decide_eq_true hpre]
          have hby : ((s.extract 0 K).toList != DN.toList) = false := by rw [bne, hbx]; rfl
          have hq1 : ((s.size : Int) == (K : Int) + 24) = true := beq_iff_eq.2 (by omega)
          have hq2 : ((s.size : Int) != (K : Int) + 24) = false := by rw [bne, hq1]; rfl
          have hj3 : (K : Int) ≤ (s.size : Int) := by omega
          have hNY : ∀ w, Calls Tryz.prog 117 #[.string s, .int .i64 ((K : Int) + 9), .int .i64 ((K : Int) + 11)] w fun e w' => e = .returned (.int .i64 (Dt.numR (Dt.cut s.data.toList (K + 9) (K + 11)))) ∧ w = w' := fun w => num_c s (K + 9) (K + 11) w (by omega) (by omega) (by omega) (by omega)
          have bNY := Dt.numR_2 s.data.toList (K + 9) (K + 11) (by omega)
          have hND : ∀ w, Calls Tryz.prog 117 #[.string s, .int .i64 ((K : Int) + 2), .int .i64 ((K : Int) + 4)] w fun e w' => e = .returned (.int .i64 (Dt.numR (Dt.cut s.data.toList (K + 2) (K + 4)))) ∧ w = w' := fun w => num_c s (K + 2) (K + 4) w (by omega) (by omega) (by omega) (by omega)
          have bND := Dt.numR_2 s.data.toList (K + 2) (K + 4) (by omega)
          have hNH : ∀ w, Calls Tryz.prog 117 #[.string s, .int .i64 ((K : Int) + 12), .int .i64 ((K : Int) + 14)] w fun e w' => e = .returned (.int .i64 (Dt.numR (Dt.cut s.data.toList (K + 12) (K + 14)))) ∧ w = w' := fun w => num_c s (K + 12) (K + 14) w (by omega) (by omega) (by omega) (by omega)
          have bNH := Dt.numR_2 s.data.toList (K + 12) (K + 14) (by omega)
          have hNI : ∀ w, Calls Tryz.prog 117 #[.string s, .int .i64 ((K : Int) + 15), .int .i64 ((K : Int) + 17)] w fun e w' => e = .returned (.int .i64 (Dt.numR (Dt.cut s.data.toList (K + 15) (K + 17)))) ∧ w = w' := fun w => num_c s (K + 15) (K + 17) w (by omega) (by omega) (by omega) (by omega)
          have bNI := Dt.numR_2 s.data.toList (K + 15) (K + 17) (by omega)
          have hNS : ∀ w, Calls Tryz.prog 117 #[.string s, .int .i64 ((K : Int) + 18), .int .i64 ((K : Int) + 20)] w fun e w' => e = .returned (.int .i64 (Dt.numR (Dt.cut s.data.toList (K + 18) (K + 20)))) ∧ w = w' := fun w => num_c s (K + 18) (K + 20) w (by omega) (by omega) (by omega) (by omega)
          have bNS := Dt.numR_2 s.data.toList (K + 18) (K + 20) (by omega)
          have hNM : ∀ w, Calls Tryz.prog 118 #[.string s, .int .i64 ((K : Int) + 5)] w fun e w' => e = .returned (.int .i64 (Dt.finR (Dt.cut s.data.toList (K + 5) (K + 8)))) ∧ Below w.heap.size w w' := fun w => find_c s (K + 5) w (by omega) (by omega)
          have bNM := Dt.finR_bd (Dt.cut s.data.toList (K + 5) (K + 8))
          generalize Dt.numR (Dt.cut s.data.toList (K + 9) (K + 11)) = NY at hNY bNY HAt HY1
          generalize Dt.numR (Dt.cut s.data.toList (K + 2) (K + 4)) = ND at hND bND HAt HY1
          generalize Dt.numR (Dt.cut s.data.toList (K + 12) (K + 14)) = NH at hNH bNH HAt HY1
          generalize Dt.numR (Dt.cut s.data.toList (K + 15) (K + 17)) = NI at hNI bNI HAt HY1
          generalize Dt.numR (Dt.cut s.data.toList (K + 18) (K + 20)) = NS at hNS bNS HAt HY1
          generalize Dt.finR (Dt.cut s.data.toList (K + 5) (K + 8)) = NM at hNM bNM HAt
          obtain ⟨lNY, uNY⟩ := bNY
          obtain ⟨lNM, uNM⟩ := bNM
          obtain ⟨lND, uND⟩ := bND
          obtain ⟨lNH, uNH⟩ := bNH
          obtain ⟨lNI, uNI⟩ := bNI
          obtain ⟨lNS, uNS⟩ := bNS
          rw [HY1.out] at HAt HBd HYes HNegY
          clear hpre hnamed HY1 HGo HNo HNeg hsz
          go_wp2_with fail
          refine (hD _ hlt).mono ?_
          rintro e w8 ⟨rfl, hb8⟩
          have hB8 := hB.trans (hb8.mono hB.size)
          clear hB hb8
          go_wp2_with fail
          have j0 : (K : Int) ≤ (K : Int) + 24 := by omega
          have j1 : ((K : Int) + 24).toNat = K + 24 := by omega
          have j2 := IntWalk.i64_in ((K : Int) + 24) (by omega)
          refine wp_region_late (by kernel_rfl) (by kernel_rfl) ?_
          repeat (quiet_step ((go_at_call 120; exact late _ (hD _ hlt))))
          refine wpQuiet_nil ?_
          intro w9 hw'
          have hb9 : Below w8.heap.size w8 w9 := by obtain ⟨p, rfl⟩ := hw'; exact p.h
          have hB9 := bt hB8 hb9
          clear hw' j0 j1 j2 hB8 hb9
          go_wp2_with fail
          refine (hNY _).mono ?_
          rintro e w' ⟨rfl, rfl⟩
          clear hNY
          by_cases hy0 : NY < 0
          · have HR := Lib.hid (HNegY.out hy0)
            go_wp2_with fail
            go_ret2
            exact ⟨by rw [HR.out]; rfl, hB9⟩
          · have hy0' : 0 ≤ NY := by omega
            have HBd := Lib.hid (fun h => HBd.out h hy0')
            have HYes := Lib.hid (fun h h2 => HYes.out h hy0' h2)
            clear hy0 HNegY
            by_cases hy70 : NY < 70
            · have HAt' := Lib.hid HAt.out
              rw [if_pos hy70] at HAt'
              clear HAt
              have hMo := fun w => mom_c (NY + 100 + 1900) NM ND NH NI NS w (by omega) (by omega) (by omega) (by omega) (by omega) (by omega) (by omega) (by omega) (by omega)
              rw [← HAt'.out] at hMo
              generalize Dt.at1 s.data.toList K = A at hMo HBd HYes HGo'
              clear HAt'
              go_wp2_with fail
              refine (hNM _).mono ?_
              rintro e w11 ⟨rfl, hb11⟩
              have hB11 := bt hB9 hb11
              clear hB9 hb11
              go_wp2_with fail
              refine (hND _).mono ?_
              rintro e w' ⟨rfl, rfl⟩
              go_wp2_with fail
              refine (hNH _).mono ?_
              rintro e w' ⟨rfl, rfl⟩
              go_wp2_with fail
              refine (hNI _).mono ?_
              rintro e w' ⟨rfl, rfl⟩
              go_wp2_with fail
              refine (hNS _).mono ?_
              rintro e w' ⟨rfl, rfl⟩
              go_wp2_with fail
              refine (hMo _).mono ?_
              rintro e w12 ⟨rfl, hb12⟩
              have hB12 := bt hB11 hb12
              clear hB11 hb12 hNM hND hNH hNI hNS hMo lNY lNM lND lNH lNI lNS uNY uNM uND uNH uNI uNS
              by_cases hA : 0 ≤ A
              · have hAl := HBd.out hA
                have hF := Form_1 A w12 hA hAl
                have hfb := HFb.out A 1
                by_cases he : s.data.toList = Dt.form A 1
                · have HR := Lib.hid (HYes.out hA he)
                  rw [decide_eq_true he] at hfb
                  clear he hAl
                  generalize str (Dt.form A 1) = x at hF hfb
                  go_wp2_with fail
                  refine hF.mono ?_
                  rintro e w13 ⟨rfl, hb13⟩
                  have hB13 := bt hB12 hb13
                  clear hF hb13
                  go_wp2_with fail
                  go_ret2
                  exact ⟨by rw [HR.out]; rfl, hB13⟩
                · have HNext := Lib.hid (HGo'.out (fun h => he h.2))
                  rw [decide_eq_false he] at hfb
                  clear he hAl
                  generalize str (Dt.form A 1) = x at hF hfb
                  go_wp2_with fail
                  refine hF.mono ?_
                  rintro e w13 ⟨rfl, hb13⟩
                  have hB13 := bt hB12 hb13
                  clear hF hb13 hB12 HBd HYes HFb HGo'
                  go_wp2_with fail
                  go_roundw
                  case rel => exact ⟨k + 1, by omega, by go_num, HNext, hB13⟩
                  case measure => simp [intOf]; omega
              · have HNext := Lib.hid (HGo'.out (fun h => hA h.1))
                have hA' : A < 0 := by omega
                clear HBd HYes HFb HGo' hA
                go_wp2_with fail
                go_roundw
                case rel => exact ⟨k + 1, by omega, by go_num, HNext, hB12⟩
                case measure => simp [intOf]; omega
            · have HAt' := Lib.hid HAt.out
              rw [if_neg hy70] at HAt'
              clear HAt
              have hMo := fun w => mom_c (NY + 1900) NM ND NH NI NS w (by omega) (by omega) (by omega) (by omega) (by omega) (by omega) (by omega) (by omega) (by omega)
              rw [← HAt'.out] at hMo
              generalize Dt.at1 s.data.toList K = A at hMo HBd HYes HGo'
              clear HAt'
              go_wp2_with fail
              refine (hNM _).mono ?_
              rintro e w11 ⟨rfl, hb11⟩
              have hB11 := bt hB9 hb11
              clear hB9 hb11
              go_wp2_with fail
              refine (hND _).mono ?_
              rintro e w' ⟨rfl, rfl⟩
              go_wp2_with fail
              refine (hNH _).mono ?_
              rintro e w' ⟨rfl, rfl⟩
              go_wp2_with fail
              refine (hNI _).mono ?_
              rintro e w' ⟨rfl, rfl⟩
              go_wp2_with fail
              refine (hNS _).mono ?_
              rintro e w' ⟨rfl, rfl⟩
              go_wp2_with fail
              refine (hMo _).mono ?_
              rintro e w12 ⟨rfl, hb12⟩
              have hB12 := bt hB11 hb12
              clear hB11 hb12 hNM hND hNH hNI hNS hMo lNY lNM lND lNH lNI lNS uNY uNM uND uNH uNI uNS
              by_cases hA : 0 ≤ A
              · have hAl := HBd.out hA
                have hF := Form_1 A w12 hA hAl
                have hfb := HFb.out A 1
                by_cases he : s.data.toList = Dt.form A 1
                · have HR := Lib.hid (HYes.out hA he)
                  rw [decide_eq_true he] at hfb
                  clear he hAl
                  generalize str (Dt.form A 1) = x at hF hfb
                  go_wp2_with fail
                  refine hF.mono ?_
                  rintro e w13 ⟨rfl, hb13⟩
                  have hB13 := bt hB12 hb13
                  clear hF hb13
                  go_wp2_with fail
                  go_ret2
                  exact ⟨by rw [HR.out]; rfl, hB13⟩
                · have HNext := Lib.hid (HGo'.out (fun h => he h.2))
                  rw [decide_eq_false he] at hfb
                  clear he hAl
                  generalize str (Dt.form A 1) = x at hF hfb
                  go_wp2_with fail
                  refine hF.mono ?_
                  rintro e w13 ⟨rfl, hb13⟩
                  have hB13 := bt hB12 hb13
                  clear hF hb13 hB12 HBd HYes HFb HGo'
                  go_wp2_with fail
                  go_roundw
                  case rel => exact ⟨k + 1, by omega, by go_num, HNext, hB13⟩
                  case measure => simp [intOf]; omega
              · have HNext := Lib.hid (HGo'.out (fun h => hA h.1))
                have hA' : A < 0 := by omega
                clear HBd HYes HFb HGo' hA
                go_wp2_with fail
                go_roundw
                case rel => exact ⟨k + 1, by omega, by go_num, HNext, hB12⟩
                case measure => simp [intOf]; omega
        · have HNext : Hid (∀ j, j < k + 1 → ¬ Dt.Hit s.data.toList j) := HGo.out (fun h => hpre (by
            have h2 := h.1.2
            rw [HK.out] at h2
            unfold Dt.cut
            rw [List.drop_zero, h2, ← HDN.out, str_list]))
          have hbx : ((s.extract 0 K).toList == DN.toList) = false := by rw [ext_eq, decide_eq_false hpre]
          have hby : ((s.extract 0 K).toList != DN.toList) = true := by rw [bne, hbx]; rfl
          have hq1 : ((s.size : Int) == (K : Int) + 24) = true := beq_iff_eq.2 (by omega)
          have hq2 : ((s.size : Int) != (K : Int) + 24) = false := by rw [bne, hq1]; rfl
          have hj3 : (K : Int) ≤ (s.size : Int) := by omega
          clear hpre HGo HNo HNeg HFb hsz
          go_wp2_with fail
          refine (hD _ hlt).mono ?_
          rintro e w8 ⟨rfl, hb8⟩
          have hB8 := hB.trans (hb8.mono hB.size)
          clear hB hb8
          go_wp2_with fail
          have j0 : (K : Int) ≤ (K : Int) + 24 := by omega
          have j1 : ((K : Int) + 24).toNat = K + 24 := by omega
          have j2 := IntWalk.i64_in ((K : Int) + 24) (by omega)
          refine wp_region_late (by kernel_rfl) (by kernel_rfl) ?_
          repeat (quiet_step ((go_at_call 120; exact late _ (hD _ hlt))))
          refine wpQuiet_nil ?_
          intro w9 hw'
          have hb9 : Below w8.heap.size w8 w9 := by obtain ⟨p, rfl⟩ := hw'; exact p.h
          clear hw' j0 j1 j2
          go_wp2_with fail
          go_roundw
          case rel => exact ⟨k + 1, by omega, by go_num, HNext, hB8.trans (hb9.mono hB8.size)⟩
          case measure => simp [intOf]; omega
      · have HNext : Hid (∀ j, j < k + 1 → ¬ Dt.Hit s.data.toList j) := HGo.out (fun h => hsz (by have h2 := h.1.1; rw [HK.out, HL.out] at h2; exact h2))
        have hne : ((s.size : Int) == (K : Int) + 24) = false := beq_eq_false_iff_ne.2 (by omega)
        have hne2 : ((s.size : Int) != (K : Int) + 24) = true := by rw [bne, hne]; rfl
        clear hsz HGo HNo HNeg HFb
        go_wp2_with fail
        refine (hD _ hlt).mono ?_
        rintro e w8 ⟨rfl, hb8⟩
        have hB8 := hB.trans (hb8.mono hB.size)
        clear hB hb8
        go_wp2_with fail
        have j2 := IntWalk.i64_in ((K : Int) + 24) (by omega)
        refine wp_region_late (by kernel_rfl) (by kernel_rfl) ?_
        repeat (quiet_step (fail))
        refine wpQuiet_nil ?_
        intro w9 hw'
        have hb9 : Below w8.heap.size w8 w9 := by obtain ⟨p, rfl⟩ := hw'; exact p.h
        clear hw' j2
        go_wp2_with fail
        go_roundw
        case rel => exact ⟨k + 1, by omega, by go_num, HNext, hB8.trans (hb9.mono hB8.size)⟩
        case measure => simp [intOf]; omega
    · have hlt' : ¬ (k : Int) < 7 := by omega
      have HR := Lib.hid (HNo.out (fun j hj => HN.out j (by omega)))
      go_wp2_with fail
      go_ret2
      exact ⟨by rw [HR.out]; rfl, hB⟩
end Go.Proofs.YtoanelobggledaaGreatDoor

namespace Go.Proofs.YtoanelobggledaaGreatDoor
open Go.RowKit

theorem rParse_c (s : ByteArray) (w : World) (hs : s.size ≤ 500) :
    Calls Tryz.prog 88 #[.string s] w fun e w' => e = .returned (.tuple #[.int .i64 (Dt.asked s.data.toList).1, .int .i64 (Dt.asked s.data.toList).2]) ∧ Below w.heap.size w w' := by
  by_cases h29 : s.size = 29
  · exact rParse_29 s w h29
  · by_cases h24 : s.size = 24
    · exact rParse_24 s w h24
    · exact rParse_X s w hs h29 h24
end Go.Proofs.YtoanelobggledaaGreatDoor

