/- The statements of layer 4: ControlNumbers. -/
import Derived.Test.YtolhhejhjjiefaaDoorCt9
import Derived.Test.YtolhhejhjjiefaaDoorCt7
import Derived.Deep.DeepCutAuto
namespace Go.Proofs.YtolhhejhjjiefaaDoor
open Go.RowKit

theorem noughts_snoc (k : Nat) : str (List.replicate k 48) ++ ⟨#[48]⟩ = str (List.replicate (k + 1) 48) := by
  refine str_same ?_
  rw [app_list, str_list, List.replicate_succ']

theorem field_ms (w : World) : (Instr.field 25 (.agg #[.bool false, .bool false, .bool false, .bool false, .bool false, .bool false, .bool false, .int .i64 (-1), .int .i64 (-1), .int .i64 2147483647, .int .i64 (-1)]) 9).run Tryd.prog w = .ok (.int .i64 2147483647) w := by kernel_rfl
theorem field_mf (w : World) : (Instr.field 25 (.agg #[.bool false, .bool false, .bool false, .bool false, .bool false, .bool false, .bool false, .int .i64 (-1), .int .i64 (-1), .int .i64 (-1), .int .i64 0]) 10).run Tryd.prog w = .ok (.int .i64 0) w := by kernel_rfl

set_option maxHeartbeats 3200000 in
set_option maxRecDepth 100000 in
theorem cnumbers_w (n m : Int) (j : ByteArray) (w : World) (hn : -9223372036854775808 ≤ n ∧ n ≤ 9223372036854775807) (hmm : -9223372036854775808 ≤ m ∧ m ≤ 9223372036854775807) (hj : j.size ≤ 9223372036854775807) (hm : MaxOk w) :
    Calls Tryd.prog 6 #[.int .i64 n, .int .i64 m, .string j] w fun e w' => e = .returned (.bool true) ∧ Below w.heap.size w w' := by
  have cA := fun (w1 : World) (hb : Below w.heap.size w w1) => cawake_w w1 (hm.later hb)
  have HM := Lib.hid hm
  have hwb : Below w.heap.size w w := Below.refl _ _
  obtain ⟨hn1, hn2⟩ := hn
  obtain ⟨hm1, hm2⟩ := hmm
  clear hm
  by_cases h100 : (100 : Int) < j.size
  · go_enter Tryd.func6, Tryd.ntmps6
    go_wp2_with fail
    refine (cA w hwb).mono ?_
    rintro e w1 ⟨rfl, hb1⟩
    go_wp2_with fail
    refine (cA w1 hb1).mono ?_
    rintro e w2 ⟨rfl, hb2⟩
    go_wp2_with fail
    go_ret
    exact ⟨rfl, bt hb1 hb2⟩
  have hj1 : j.size ≤ 100 := by omega
  have hjj : (j.size : Int) ≤ 100 := by omega
  obtain ⟨t, ht, ht1, ht2⟩ : ∃ t, m.tmod 20 = t ∧ -20 < t ∧ t < 20 := ⟨_, rfl, by have := Int.tmod_lt_of_pos (-m) (b := 20) (by decide); rw [Int.neg_tmod] at this; omega, Int.tmod_lt_of_pos m (by decide)⟩
  obtain ⟨K, hK, hK19⟩ : ∃ K : Nat, (t + 20).tmod 20 = (K : Int) ∧ K ≤ 19 := ⟨((t + 20).tmod 20).toNat, by have := Int.tmod_nonneg 20 (a := t + 20) (by omega); omega, by have := Int.tmod_lt_of_pos (t + 20) (b := 20) (by decide); omega⟩
  have cR := fun w1 => rPrint_is n 10 _ w1 hn2 rfl
  have hpl : (str (Oct.print n 10)).size ≤ 100 := by rw [str_size]; exact Oct.dgs_len10 n.toNat (by omega)
  have HD : Hid (str (List.replicate K 48) ++ str (Oct.print n 10) = str (Ctl.ndig K n.toNat)) := Lib.hid (str_same (by rw [app_list, str_list, str_list]; rfl))
  have HZL : Hid (∀ k, k ≤ K → (str (List.replicate k 48)).size ≤ 100) := fun k hk => by rw [str_size, List.length_replicate]; omega
  generalize str (Oct.print n 10) = P at *
  go_enter Tryd.func6, Tryd.ntmps6
  go_wp2_with fail
  refine (cA w hwb).mono ?_
  rintro e w1 ⟨rfl, hb1⟩
  go_wp2_with fail
  go_loop [7, 8] (fun z i => ∃ k : Nat, k ≤ K ∧ i = .int .i64 k ∧ z = .string (str (List.replicate k 48))) (fun _ i => K - (intOf i).toNat)
  case atStart => exact ⟨0, by omega, rfl, rfl⟩
  case round =>
    obtain ⟨k, hk, rfl, rfl⟩ := hrel
    by_cases hlt : k < K
    · have hz := HZL.out k hk
      have HS := Lib.hid (noughts_snoc k)
      generalize str (List.replicate k 48) = z at *
      go_wp2_with fail
      go_round
      case rel => exact ⟨k + 1, by omega, by go_num, by rw [HS.out]⟩
      case measure => simp [intOf]; omega
    · obtain rfl : k = K := by omega
      have hz := HZL.out k hk
      generalize str (List.replicate k 48) = z at *
      clear HZL
      go_wp2_with fail
      refine (cR _).mono ?_
      rintro e w2 ⟨rfl, hb2⟩
      have hb2 := bt hb1 hb2
      have HDL : Hid ((str (Ctl.ndig k n.toNat)).size ≤ 200) := by rw [← HD.out]; show (z ++ P).size ≤ 200; rw [ByteArray.size_append]; omega
      go_upto_region 10 with fail
      have HU : Hid (min (max n 0) 2147483647 = min (n.toNat : Int) 2147483647) := Lib.hid (by omega)
      have e1 : (⟨#[109, 97, 120, 45, 97, 103, 101, 61]⟩ : ByteArray) ++ (z ++ P) = str (Ctl.kMA ++ 61 :: Ctl.ndig k n.toNat) := str_same (by rw [HD.out, app_list, str_list]; rfl)
      have e2 : (⟨#[115, 45, 109, 97, 120, 97, 103, 101, 61, 34]⟩ : ByteArray) ++ (z ++ P) ++ ⟨#[34]⟩ = str (Ctl.kSA ++ 61 :: (34 :: Ctl.ndig k n.toNat ++ [34])) := str_same (by rw [HD.out, app_list, app_list, str_list]; simp [Ctl.kSA])
      have l0 : (Ctl.ndig k n.toNat).length ≤ 200 := by have := HDL.out; rwa [str_size] at this
      have cP1 := fun (W : World) (hb : Below w.heap.size w W) => parse1 W _ _ e1 (by simp [Ctl.kMA]; omega) (HM.out.later hb)
      have cP2 := fun (W : World) (hb : Below w.heap.size w W) => parse1 W _ _ e2 (by simp [Ctl.kSA]; omega) (HM.out.later hb)
      have cP3 := fun (W : World) (hb : Below w.heap.size w W) => parse1 W ⟨#[109, 97, 120, 45, 115, 116, 97, 108, 101]⟩ Ctl.kMS rfl (by decide) (HM.out.later hb)
      have cP4 := fun (W : World) (hb : Below w.heap.size w W) => parse1 W ⟨#[109, 105, 110, 45, 102, 114, 101, 115, 104]⟩ Ctl.kMF rfl (by decide) (HM.out.later hb)
      rw [show cval (Ctl.parse [Ctl.kMS]) = .agg #[.bool false, .bool false, .bool false, .bool false, .bool false, .bool false, .bool false, .int .i64 (-1), .int .i64 (-1), .int .i64 2147483647, .int .i64 (-1)] by rw [show Ctl.parse [Ctl.kMS] = ⟨false, false, false, false, false, false, false, -1, -1, 2147483647, -1⟩ by decide +kernel]; rfl] at cP3
      rw [show cval (Ctl.parse [Ctl.kMF]) = .agg #[.bool false, .bool false, .bool false, .bool false, .bool false, .bool false, .bool false, .int .i64 (-1), .int .i64 (-1), .int .i64 (-1), .int .i64 0] by rw [show Ctl.parse [Ctl.kMF] = ⟨false, false, false, false, false, false, false, -1, -1, -1, 0⟩ by decide +kernel]; rfl] at cP4
      have e5 : (⟨#[109, 105, 110, 45, 102, 114, 101, 115, 104, 61]⟩ : ByteArray) ++ j = str (Ctl.kMF ++ 61 :: j.data.toList) := str_same (by rw [app_list]; rfl)
      have cP5 := fun (W : World) (hb : Below w.heap.size w W) => parse1 W _ _ e5 (by simp [Ctl.kMF]; omega) (HM.out.later hb)
      obtain ⟨nv, ne, hne⟩ : ∃ a b, Oct.number 10 2147483647 j.data.toList = (a, b) := ⟨_, _, rfl⟩
      have cN := fun (W : World) => rNumber_is j 2147483647 nv ne W (by omega) (by decide) (by decide) hne
      have cT := fun (W : World) => rToken_s j W (by omega)
      have HJ : Hid (Oct.token j.data.toList = true → (Oct.number 10 2147483647 j.data.toList).2 = 10 → (Ctl.parse [Ctl.kMF ++ 61 :: j.data.toList]).mf = 0) := Lib.hid Ctl.numbers_junk
      generalize Ctl.parse [Ctl.kMF ++ 61 :: j.data.toList] = x5 at *
      rw [hne] at HJ
      generalize Oct.token j.data.toList = tk at *
      clear hne e5
      obtain ⟨d0, d1, d2, d3, d4, d5, d6, d7, d8, d9, d10⟩ := x5
      unfold cval ccells at cP5
      simp only [] at cP5 HJ
      have M1 : Hid ((Ctl.parse [Ctl.kMA ++ 61 :: Ctl.ndig k n.toNat]).ma = min (n.toNat : Int) 2147483647) := Lib.hid (Ctl.numbers_ma k n.toNat)
      have M2 : Hid ((Ctl.parse [Ctl.kSA ++ 61 :: (34 :: Ctl.ndig k n.toNat ++ [34])]).sa = min (n.toNat : Int) 2147483647) := Lib.hid (Ctl.numbers_sa k n.toNat)
      generalize Ctl.parse [Ctl.kMA ++ 61 :: Ctl.ndig k n.toNat] = x1 at *
      generalize Ctl.parse [Ctl.kSA ++ 61 :: (34 :: Ctl.ndig k n.toNat ++ [34])] = x2 at *
      obtain ⟨a0, a1, a2, a3, a4, a5, a6, a7, a8, a9, a10⟩ := x1
      obtain ⟨b0, b1, b2, b3, b4, b5, b6, b7, b8, b9, b10⟩ := x2
      unfold cval ccells at cP1 cP2
      simp only [] at cP1 cP2 M1 M2
      have HZP : (z ++ P).size ≤ 200 := by rw [ByteArray.size_append]; omega
      generalize z ++ P = d at *
      clear e1 e2 l0 HDL HD hz hpl ht hK cR
      obtain ⟨X, hX⟩ : ∃ X, X = min (n.toNat : Int) 2147483647 := ⟨_, rfl⟩
      rw [← hX] at M1 M2 HU
      obtain rfl : a7 = X := M1.out
      obtain rfl : b8 = a7 := M2.out
      rw [HU.out]
      clear hX HU M1 M2
      go_wp2_with fail
      refine (cP1 w2 hb2).mono ?_
      rintro e w3 ⟨rfl, hb3⟩
      have hb3 := bt hb2 hb3
      go_wp2_with fail
      refine (cP2 w3 hb3).mono ?_
      rintro e w4 ⟨rfl, hb4⟩
      have hb4 := bt hb3 hb4
      clear cP1 cP2
      go_upto_region 11 with fail
      have hbx := hb4.alloc hb4.size (.cells #[.bool a0, .bool a1, .bool a2, .bool a3, .bool a4, .bool a5, .bool a6, .int .i64 b8, .int .i64 a8, .int .i64 a9, .int .i64 a10] 25)
      have hby := hbx.alloc hbx.size (.cells #[.bool b0, .bool b1, .bool b2, .bool b3, .bool b4, .bool b5, .bool b6, .int .i64 b7, .int .i64 b8, .int .i64 b9, .int .i64 b10] 25)
      have q1 : ((w4.alloc (.cells #[.bool a0, .bool a1, .bool a2, .bool a3, .bool a4, .bool a5, .bool a6, .int .i64 b8, .int .i64 a8, .int .i64 a9, .int .i64 a10] 25)).alloc (.cells #[.bool b0, .bool b1, .bool b2, .bool b3, .bool b4, .bool b5, .bool b6, .int .i64 b7, .int .i64 b8, .int .i64 b9, .int .i64 b10] 25)).cell? ⟨w4.heap.size, 7, none⟩ = some (.int .i64 b8) := by
        rw [cell_of_row _ _ _ _ _ _ (heap_alloc2_old w4 _ _)]; rfl
      have q2 : ((w4.alloc (.cells #[.bool a0, .bool a1, .bool a2, .bool a3, .bool a4, .bool a5, .bool a6, .int .i64 b8, .int .i64 a8, .int .i64 a9, .int .i64 a10] 25)).alloc (.cells #[.bool b0, .bool b1, .bool b2, .bool b3, .bool b4, .bool b5, .bool b6, .int .i64 b7, .int .i64 b8, .int .i64 b9, .int .i64 b10] 25)).cell? ⟨w4.heap.size + 1, 8, none⟩ = some (.int .i64 b8) := by
        rw [cell_of_row _ _ _ _ _ _ (heap_alloc2_new w4 _ _)]; rfl
      generalize ((w4.alloc (.cells #[.bool a0, .bool a1, .bool a2, .bool a3, .bool a4, .bool a5, .bool a6, .int .i64 b8, .int .i64 a8, .int .i64 a9, .int .i64 a10] 25)).alloc (.cells #[.bool b0, .bool b1, .bool b2, .bool b3, .bool b4, .bool b5, .bool b6, .int .i64 b7, .int .i64 b8, .int .i64 b9, .int .i64 b10] 25)) = w5 at *
      clear hbx hb4
      have F1 := field_ms
      have F2 := field_mf
      go_wp2_with fail
      refine (cP3 _ hby).mono ?_
      rintro e w6 ⟨rfl, hb6⟩
      have hb6 := bt hby hb6
      clear q1 q2 cP3
      go_wp2_with fail
      refine (cP4 _ hb6).mono ?_
      rintro e w7 ⟨rfl, hb7⟩
      have hb7 := bt hb6 hb7
      clear cP4
      go_wp2_with fail
      refine (cN _).mono ?_
      rintro e w7' ⟨rfl, rfl⟩
      go_wp2_with fail
      refine (cP5 _ hb7).mono ?_
      rintro e w8 ⟨rfl, hb8⟩
      have hb8 := bt hb7 hb8
      have hb9 := hb8.alloc hb8.size (.cells #[.bool d0, .bool d1, .bool d2, .bool d3, .bool d4, .bool d5, .bool d6, .int .i64 d7, .int .i64 d8, .int .i64 d9, .int .i64 d10] 25)
      have q3 : (w8.alloc (.cells #[.bool d0, .bool d1, .bool d2, .bool d3, .bool d4, .bool d5, .bool d6, .int .i64 d7, .int .i64 d8, .int .i64 d9, .int .i64 d10] 25)).cell? ⟨w8.heap.size, 10, none⟩ = some (.int .i64 d10) := by
        rw [cell_of_row _ _ _ _ _ _ (heap_alloc_new w8 _)]; rfl
      clear cP5 cN
      go_upto_region 15 with fail
      generalize hG : w8.heap.size = G at *
      generalize (w8.alloc (.cells #[.bool d0, .bool d1, .bool d2, .bool d3, .bool d4, .bool d5, .bool d6, .int .i64 d7, .int .i64 d8, .int .i64 d9, .int .i64 d10] 25)) = w9 at *
      have HGL : Hid (G < w9.heap.size) := Lib.hid (World.block_lt_of_cell? w9 _ q3)
      go_wp2_with fail
      refine (cT _).mono ?_
      rintro e w10 ⟨rfl, hb10⟩
      have q4 := (hb10.cell (p := ⟨G, 10, none⟩) HGL.out).trans q3
      have hb10 := bt hb9 hb10
      clear q3 hG
      cases tk with
      | false =>
        go_wp2_with fail
        go_ret
        exact ⟨rfl, hb10⟩
      | true =>
        by_cases hne10 : ne = 10
        · have hd : d10 = 0 := HJ.out rfl hne10
          subst hd
          have b1 : (ne == 10) = true := beq_iff_eq.2 hne10
          have b2 : (ne != 10) = false := by rw [bne, b1]; rfl
          clear hne10 HJ
          go_wp2_with fail
          go_ret
          exact ⟨rfl, hb10⟩
        · have b1 : (ne == 10) = false := beq_eq_false_iff_ne.2 hne10
          have b2 : (ne != 10) = true := by rw [bne, b1]; rfl
          clear hne10 HJ
          go_wp2_with fail
          go_ret
          exact ⟨rfl, hb10⟩
end Go.Proofs.YtolhhejhjjiefaaDoor
