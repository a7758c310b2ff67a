/- The statements of layer 5: TargetBack. -/
import Derived.Test.YtlikjfemkadciaaDoorTg14
namespace Go.Proofs.YtlikjfemkadciaaDoor
open Go.RowKit

theorem print_bounds (u : Tg.U) : u.host.length ≤ (Tg.print u).length ∧ u.path.length ≤ (Tg.print u).length := by
  unfold Tg.print
  constructor <;> (simp; omega)
theorem ures_mk (u : Tg.U) (e : Int) : ures (u, e) = .tuple #[.agg #[.string (str u.host), .int .i64 u.port, .string (str u.path)], .int .i64 e] := rfl
theorem zero_parts : str Tg.zero.host = ⟨#[]⟩ ∧ Tg.zero.port = 0 ∧ str Tg.zero.path = ⟨#[]⟩ := ⟨rfl, rfl, rfl⟩

set_option maxHeartbeats 3200000 in
set_option maxRecDepth 100000 in
theorem back_a0 (l m : List UInt8) (w : World) (hl : l.length ≤ 4000) (hml : m.length ≤ 300) (hm : MaxOk w) (hT : Tabs w) (he : (Tg.parse l).2 = 0) (hf : (Tg.ofT l m).2 ≠ 0) :
    Calls Tryd.prog 3 #[.string (str l), .string (str m)] w fun e w' => e = .returned (.bool true) ∧ Below w.heap.size w w' := by
  have cA := fun (W : World) (hb : Below w.heap.size w W) => tawake_w W (hm.later hb) (hT.later hb)
  have cP := fun (W : World) (hb : Below w.heap.size w W) => Parse_s l W (by omega) (hm.later hb) (hT.later hb)
  have cO := fun (W : World) (hb : Below w.heap.size w W) => Of_s l m W (by omega) (by omega) (hm.later hb) (hT.later hb)
  have hls : ((str l).size : Int) ≤ 4000 := by rw [str_size]; omega
  have hms : ((str m).size : Int) ≤ 300 := by rw [str_size]; omega
  have hok := Tg.parse_ok he
  obtain ⟨U, hU⟩ : ∃ U, (Tg.parse l).1 = U := ⟨_, rfl⟩
  rw [hU] at hok
  have hpe : Tg.parse l = (U, 0) := Prod.ext hU he
  rw [hpe, ures_mk] at cP
  have hpb := print_bounds U
  have hkU := hok.1.site.hi
  have cPr := fun (W : World) (hb : Below w.heap.size w W) => Print_u U W (by omega) (by omega) (by omega) (hT.later hb)
  have cPQ := fun (W : World) (hb : Below w.heap.size w W) => Parse_s (Tg.print U) W (by omega) (hm.later hb) (hT.later hb)
  rw [Tg.parse_print hok.1 (by omega), ures_mk] at cPQ
  have cRi := fun (W : World) (hb : Below w.heap.size w W) => Right_u U W (by omega) (by omega) (by omega) (hm.later hb) (hT.later hb)
  rw [Tg.right_of hok.1 (by omega), uval_u] at cRi
  rw [uval_u] at cPr
  generalize str (Tg.print U) = tU at *
  have hz := Tg.ofT_no hf
  obtain ⟨f, hoe⟩ : ∃ f, Tg.ofT l m = (Tg.zero, f) := ⟨_, Prod.ext hz rfl⟩
  rw [hoe] at hf
  have bf : (f == 0) = false := beq_eq_false_iff_ne.2 hf
  rw [hoe, ures_mk] at cO
  generalize hV : Tg.zero = V at *
  have z0 := zero_parts
  rw [hV] at z0
  rw [z0.1, z0.2.1, z0.2.2] at cO
  generalize str l = s at *
  clear hz hoe hf z0 hV
  clear hpe hok hpb hkU hU he hl hml hm hT
  generalize str m = t at *
  generalize str U.host = HU at *
  generalize U.port = KU at *
  generalize str U.path = PU at *
  go_enter Tryd.func3, Tryd.ntmps3
  go_wp2_with fail
  refine (cA _ (Below.refl _ _)).mono ?_
  rintro e1 w1 ⟨rfl, hb1⟩
  go_wp2_with fail
  refine (cP _ hb1).mono ?_
  rintro e2 w2 ⟨rfl, hb2⟩
  have hU3 := Res.fresh (bt' hb1 hb2) (.string HU) (.int .i64 KU) (.string PU)
  clear cA cP hb1 hb2
  go_upto_region 4 with fail
  generalize w2.alloc (.cells #[.string HU, .int .i64 KU, .string PU] 24) = w3 at hU3 ⊢
  generalize w2.heap.size = gU at hU3 ⊢
  go_wp2_with fail
  refine (cO _ hU3.below).mono ?_
  rintro e3 w4 ⟨rfl, hb4⟩
  have hU4 := hU3.later hb4
  have hV5 := Res.fresh hU4.below (.string ⟨#[]⟩) (.int .i64 0) (.string ⟨#[]⟩)
  have hU5 := hU4.alloc (.cells #[.string ⟨#[]⟩, .int .i64 0, .string ⟨#[]⟩] 24)
  clear cO hU3 hU4 hb4
  go_upto_region 5 with fail
  generalize w4.alloc (.cells #[.string ⟨#[]⟩, .int .i64 0, .string ⟨#[]⟩] 24) = w5 at hU5 hV5 ⊢
  generalize w4.heap.size = gV at hV5 ⊢
  go_wp2_with (refine ldU hU5.cell rfl (.tmp 5) rfl rfl ?_)
  refine (cPr _ hU5.below).mono ?_
  rintro e4 w6 ⟨rfl, hb6⟩
  have hU6 := hU5.later hb6
  have hV6 := hV5.later hb6
  clear hU5 hV5 hb6 cPr
  go_wp2_with fail
  refine (cPQ _ hU6.below).mono ?_
  rintro e5 w7 ⟨rfl, hb7⟩
  have hU7 := hU6.later hb7
  have hX8 := Res.fresh hU7.below (.string HU) (.int .i64 KU) (.string PU)
  have hU8 := hU7.alloc (.cells #[.string HU, .int .i64 KU, .string PU] 24)
  have hV8 := (hV6.later hb7).alloc (.cells #[.string HU, .int .i64 KU, .string PU] 24)
  clear hU6 hU7 hV6 hb7 cPQ
  go_upto_region 7 with fail
  generalize w7.alloc (.cells #[.string HU, .int .i64 KU, .string PU] 24) = w8 at hX8 hU8 hV8 ⊢
  generalize w7.heap.size = gX at hX8 ⊢
  obtain ⟨x0, x1, x2⟩ := box_cell hX8.cell
  obtain ⟨u0, u1, u2⟩ := box_cell hU8.cell
  go_wp2_with fail
  refine (cRi _ hU8.below).mono ?_
  rintro e6 w9 ⟨rfl, hb9⟩
  have hVn := hV8.later hb9
  clear x0 x1 x2 u0 u1 u2 hX8 hU8 hV8 hb9 cRi
  go_upto_region 11 with fail
  obtain ⟨v0, v1, v2⟩ := box_cell hVn.cell
  have hB := hVn.below
  clear hVn
  go_wp2_with fail
  go_ret
  exact ⟨rfl, hB⟩

set_option maxHeartbeats 3200000 in
set_option maxRecDepth 100000 in
theorem back_a1 (l m : List UInt8) (w : World) (hl : l.length ≤ 4000) (hml : m.length ≤ 300) (hm : MaxOk w) (hT : Tabs w) (he : (Tg.parse l).2 = 0) (hf : (Tg.ofT l m).2 = 0) (h47 : l.head? = some 47) :
    Calls Tryd.prog 3 #[.string (str l), .string (str m)] w fun e w' => e = .returned (.bool true) ∧ Below w.heap.size w w' := by
  have cA := fun (W : World) (hb : Below w.heap.size w W) => tawake_w W (hm.later hb) (hT.later hb)
  have cP := fun (W : World) (hb : Below w.heap.size w W) => Parse_s l W (by omega) (hm.later hb) (hT.later hb)
  have cO := fun (W : World) (hb : Below w.heap.size w W) => Of_s l m W (by omega) (by omega) (hm.later hb) (hT.later hb)
  have hls : ((str l).size : Int) ≤ 4000 := by rw [str_size]; omega
  have hms : ((str m).size : Int) ≤ 300 := by rw [str_size]; omega
  have hok := Tg.parse_ok he
  obtain ⟨U, hU⟩ : ∃ U, (Tg.parse l).1 = U := ⟨_, rfl⟩
  rw [hU] at hok
  have hpe : Tg.parse l = (U, 0) := Prod.ext hU he
  rw [hpe, ures_mk] at cP
  have hpb := print_bounds U
  have hkU := hok.1.site.hi
  have cPr := fun (W : World) (hb : Below w.heap.size w W) => Print_u U W (by omega) (by omega) (by omega) (hT.later hb)
  have cPQ := fun (W : World) (hb : Below w.heap.size w W) => Parse_s (Tg.print U) W (by omega) (hm.later hb) (hT.later hb)
  rw [Tg.parse_print hok.1 (by omega), ures_mk] at cPQ
  have cRi := fun (W : World) (hb : Below w.heap.size w W) => Right_u U W (by omega) (by omega) (by omega) (hm.later hb) (hT.later hb)
  rw [Tg.right_of hok.1 (by omega), uval_u] at cRi
  rw [uval_u] at cPr
  generalize str (Tg.print U) = tU at *
  have hov := Tg.ofT_ok hf
  obtain ⟨V, hV⟩ : ∃ V, (Tg.ofT l m).1 = V := ⟨_, rfl⟩
  rw [hV] at hov
  have hoe : Tg.ofT l m = (V, 0) := Prod.ext hV hf
  rw [hoe, ures_mk] at cO
  have hvb := print_bounds V
  have hkV := hov.1.site.hi
  obtain ⟨hv1, hv2, hv3, hv4, hv5⟩ := hov
  have cPr2 := fun (W : World) (hb : Below w.heap.size w W) => Print_u V W (by omega) (by omega) (by omega) (hT.later hb)
  have cPQ2 := fun (W : World) (hb : Below w.heap.size w W) => Parse_s (Tg.print V) W (by omega) (hm.later hb) (hT.later hb)
  rw [Tg.parse_print hv1 (by omega), ures_mk] at cPQ2
  rw [uval_u] at cPr2
  generalize str (Tg.print V) = tV at *
  have cO2 := fun (W : World) (hb : Below w.heap.size w W) => Of_s V.path m W (by omega) (by omega) (hm.later hb) (hT.later hb)
  obtain ⟨c, lt, rfl⟩ : ∃ c lt, l = c :: lt := by
    cases l with
    | nil => exact absurd rfl hv4
    | cons c lt => exact ⟨c, lt, rfl⟩
  have h0s : 0 < (str (c :: lt)).size := by rw [str_size]; simp
  have hix : (str (c :: lt))[0]'h0s = c := rfl
  obtain rfl : c = 47 := by simpa using h47
  have i47 : (((str (47 :: lt))[0]'h0s).toNat : Int) = 47 := by rw [hix]; rfl
  rw [hv5 h47, hoe, ures_mk] at cO2
  generalize str (47 :: lt) = s at *
  clear hv1 hv2 hv3 hv4 hv5 hvb hkV hf hV hoe h47 hix
  clear hpe hok hpb hkU hU he hl hml hm hT
  generalize str m = t at *
  generalize str U.host = HU at *
  generalize U.port = KU at *
  generalize str U.path = PU at *
  generalize str V.host = HV at *
  generalize V.port = KV at *
  generalize str V.path = PV at *
  go_enter Tryd.func3, Tryd.ntmps3
  go_wp2_with fail
  refine (cA _ (Below.refl _ _)).mono ?_
  rintro e1 w1 ⟨rfl, hb1⟩
  go_wp2_with fail
  refine (cP _ hb1).mono ?_
  rintro e2 w2 ⟨rfl, hb2⟩
  have hU3 := Res.fresh (bt' hb1 hb2) (.string HU) (.int .i64 KU) (.string PU)
  clear cA cP hb1 hb2
  go_upto_region 4 with fail
  generalize w2.alloc (.cells #[.string HU, .int .i64 KU, .string PU] 24) = w3 at hU3 ⊢
  generalize w2.heap.size = gU at hU3 ⊢
  go_wp2_with fail
  refine (cO _ hU3.below).mono ?_
  rintro e3 w4 ⟨rfl, hb4⟩
  have hU4 := hU3.later hb4
  have hV5 := Res.fresh hU4.below (.string HV) (.int .i64 KV) (.string PV)
  have hU5 := hU4.alloc (.cells #[.string HV, .int .i64 KV, .string PV] 24)
  clear cO hU3 hU4 hb4
  go_upto_region 5 with fail
  generalize w4.alloc (.cells #[.string HV, .int .i64 KV, .string PV] 24) = w5 at hU5 hV5 ⊢
  generalize w4.heap.size = gV at hV5 ⊢
  go_wp2_with (refine ldU hU5.cell rfl (.tmp 5) rfl rfl ?_)
  refine (cPr _ hU5.below).mono ?_
  rintro e4 w6 ⟨rfl, hb6⟩
  have hU6 := hU5.later hb6
  have hV6 := hV5.later hb6
  clear hU5 hV5 hb6 cPr
  go_wp2_with fail
  refine (cPQ _ hU6.below).mono ?_
  rintro e5 w7 ⟨rfl, hb7⟩
  have hU7 := hU6.later hb7
  have hX8 := Res.fresh hU7.below (.string HU) (.int .i64 KU) (.string PU)
  have hU8 := hU7.alloc (.cells #[.string HU, .int .i64 KU, .string PU] 24)
  have hV8 := (hV6.later hb7).alloc (.cells #[.string HU, .int .i64 KU, .string PU] 24)
  clear hU6 hU7 hV6 hb7 cPQ
  go_upto_region 7 with fail
  generalize w7.alloc (.cells #[.string HU, .int .i64 KU, .string PU] 24) = w8 at hX8 hU8 hV8 ⊢
  generalize w7.heap.size = gX at hX8 ⊢
  obtain ⟨x0, x1, x2⟩ := box_cell hX8.cell
  obtain ⟨u0, u1, u2⟩ := box_cell hU8.cell
  go_wp2_with fail
  refine (cRi _ hU8.below).mono ?_
  rintro e6 w9 ⟨rfl, hb9⟩
  have hVn := hV8.later hb9
  clear x0 x1 x2 u0 u1 u2 hX8 hU8 hV8 hb9 cRi
  go_upto_region 11 with fail
  obtain ⟨v0, v1, v2⟩ := box_cell hVn.cell
  go_wp2_with fail
  refine (cO2 _ hVn.below).mono ?_
  rintro e7 wa ⟨rfl, hba⟩
  have hVa := hVn.later hba
  have hYb := Res.fresh hVa.below (.string HV) (.int .i64 KV) (.string PV)
  have hVb := hVa.alloc (.cells #[.string HV, .int .i64 KV, .string PV] 24)
  clear v0 v1 v2 hVn hVa hba cO2
  go_upto_region 14 with fail
  generalize wa.alloc (.cells #[.string HV, .int .i64 KV, .string PV] 24) = wb at hYb hVb ⊢
  generalize wa.heap.size = gY at hYb ⊢
  go_wp2_with (refine ldU hVb.cell rfl (.tmp 7) rfl rfl ?_)
  refine (cPr2 _ hVb.below).mono ?_
  rintro e8 wc ⟨rfl, hbc⟩
  have hVc := hVb.later hbc
  have hYc := hYb.later hbc
  clear hVb hYb hbc cPr2
  go_wp2_with fail
  refine (cPQ2 _ hVc.below).mono ?_
  rintro e9 wd ⟨rfl, hbd⟩
  have hVd := hVc.later hbd
  have hWe := Res.fresh hVd.below (.string HV) (.int .i64 KV) (.string PV)
  have hVe := hVd.alloc (.cells #[.string HV, .int .i64 KV, .string PV] 24)
  have hYe := (hYc.later hbd).alloc (.cells #[.string HV, .int .i64 KV, .string PV] 24)
  clear hVc hYc hVd hbd cPQ2
  go_upto_region 15 with fail
  generalize wd.alloc (.cells #[.string HV, .int .i64 KV, .string PV] 24) = we at hWe hVe hYe ⊢
  generalize wd.heap.size = gW at hWe ⊢
  obtain ⟨v0, v1, v2⟩ := box_cell hVe.cell
  obtain ⟨y0, y1, y2⟩ := box_cell hYe.cell
  obtain ⟨z0, z1, z2⟩ := box_cell hWe.cell
  have hB := hVe.below
  clear hVe hYe hWe
  go_wp2_with fail
  go_ret
  exact ⟨rfl, hB⟩

set_option maxHeartbeats 3200000 in
set_option maxRecDepth 100000 in
theorem back_a2 (l m : List UInt8) (w : World) (hl : l.length ≤ 4000) (hml : m.length ≤ 300) (hm : MaxOk w) (hT : Tabs w) (he : (Tg.parse l).2 = 0) (hf : (Tg.ofT l m).2 = 0) (h47 : ¬ l.head? = some 47) :
    Calls Tryd.prog 3 #[.string (str l), .string (str m)] w fun e w' => e = .returned (.bool true) ∧ Below w.heap.size w w' := by
  have cA := fun (W : World) (hb : Below w.heap.size w W) => tawake_w W (hm.later hb) (hT.later hb)
  have cP := fun (W : World) (hb : Below w.heap.size w W) => Parse_s l W (by omega) (hm.later hb) (hT.later hb)
  have cO := fun (W : World) (hb : Below w.heap.size w W) => Of_s l m W (by omega) (by omega) (hm.later hb) (hT.later hb)
  have hls : ((str l).size : Int) ≤ 4000 := by rw [str_size]; omega
  have hms : ((str m).size : Int) ≤ 300 := by rw [str_size]; omega
  have hok := Tg.parse_ok he
  obtain ⟨U, hU⟩ : ∃ U, (Tg.parse l).1 = U := ⟨_, rfl⟩
  rw [hU] at hok
  have hpe : Tg.parse l = (U, 0) := Prod.ext hU he
  rw [hpe, ures_mk] at cP
  have hpb := print_bounds U
  have hkU := hok.1.site.hi
  have cPr := fun (W : World) (hb : Below w.heap.size w W) => Print_u U W (by omega) (by omega) (by omega) (hT.later hb)
  have cPQ := fun (W : World) (hb : Below w.heap.size w W) => Parse_s (Tg.print U) W (by omega) (hm.later hb) (hT.later hb)
  rw [Tg.parse_print hok.1 (by omega), ures_mk] at cPQ
  have cRi := fun (W : World) (hb : Below w.heap.size w W) => Right_u U W (by omega) (by omega) (by omega) (hm.later hb) (hT.later hb)
  rw [Tg.right_of hok.1 (by omega), uval_u] at cRi
  rw [uval_u] at cPr
  generalize str (Tg.print U) = tU at *
  have hov := Tg.ofT_ok hf
  obtain ⟨V, hV⟩ : ∃ V, (Tg.ofT l m).1 = V := ⟨_, rfl⟩
  rw [hV] at hov
  have hoe : Tg.ofT l m = (V, 0) := Prod.ext hV hf
  rw [hoe, ures_mk] at cO
  have hvb := print_bounds V
  have hkV := hov.1.site.hi
  obtain ⟨hv1, hv2, hv3, hv4, hv5⟩ := hov
  have cPr2 := fun (W : World) (hb : Below w.heap.size w W) => Print_u V W (by omega) (by omega) (by omega) (hT.later hb)
  have cPQ2 := fun (W : World) (hb : Below w.heap.size w W) => Parse_s (Tg.print V) W (by omega) (hm.later hb) (hT.later hb)
  rw [Tg.parse_print hv1 (by omega), ures_mk] at cPQ2
  rw [uval_u] at cPr2
  generalize str (Tg.print V) = tV at *
  have cO2 := fun (W : World) (hb : Below w.heap.size w W) => Of_s V.path m W (by omega) (by omega) (hm.later hb) (hT.later hb)
  obtain ⟨c, lt, rfl⟩ : ∃ c lt, l = c :: lt := by
    cases l with
    | nil => exact absurd rfl hv4
    | cons c lt => exact ⟨c, lt, rfl⟩
  have h0s : 0 < (str (c :: lt)).size := by rw [str_size]; simp
  have hix : (str (c :: lt))[0]'h0s = c := rfl
  have n47 : ¬ ((((str (c :: lt))[0]'h0s).toNat : Int) = 47) := by
    rw [hix]
    intro e2; apply h47
    have : c = 47 := UInt8.toNat_inj.1 (by have : (47 : UInt8).toNat = 47 := rfl; omega)
    rw [this]; rfl
  have b47 : ((((str (c :: lt))[0]'h0s).toNat : Int) != 47) = true := by
    rw [bne, beq_eq_false_iff_ne.2 n47]; rfl
  obtain ⟨Y, g, hY⟩ : ∃ Y g, Tg.ofT V.path m = (Y, g) := ⟨_, _, rfl⟩
  rw [hY, ures_mk] at cO2
  generalize str (c :: lt) = s at *
  generalize str Y.host = HY at *
  generalize Y.port = KY at *
  generalize str Y.path = PY at *
  clear hv1 hv2 hv3 hv4 hv5 hvb hkV hf hV hoe h47 hix
  clear hpe hok hpb hkU hU he hl hml hm hT
  generalize str m = t at *
  generalize str U.host = HU at *
  generalize U.port = KU at *
  generalize str U.path = PU at *
  generalize str V.host = HV at *
  generalize V.port = KV at *
  generalize str V.path = PV at *
  go_enter Tryd.func3, Tryd.ntmps3
  go_wp2_with fail
  refine (cA _ (Below.refl _ _)).mono ?_
  rintro e1 w1 ⟨rfl, hb1⟩
  go_wp2_with fail
  refine (cP _ hb1).mono ?_
  rintro e2 w2 ⟨rfl, hb2⟩
  have hU3 := Res.fresh (bt' hb1 hb2) (.string HU) (.int .i64 KU) (.string PU)
  clear cA cP hb1 hb2
  go_upto_region 4 with fail
  generalize w2.alloc (.cells #[.string HU, .int .i64 KU, .string PU] 24) = w3 at hU3 ⊢
  generalize w2.heap.size = gU at hU3 ⊢
  go_wp2_with fail
  refine (cO _ hU3.below).mono ?_
  rintro e3 w4 ⟨rfl, hb4⟩
  have hU4 := hU3.later hb4
  have hV5 := Res.fresh hU4.below (.string HV) (.int .i64 KV) (.string PV)
  have hU5 := hU4.alloc (.cells #[.string HV, .int .i64 KV, .string PV] 24)
  clear cO hU3 hU4 hb4
  go_upto_region 5 with fail
  generalize w4.alloc (.cells #[.string HV, .int .i64 KV, .string PV] 24) = w5 at hU5 hV5 ⊢
  generalize w4.heap.size = gV at hV5 ⊢
  go_wp2_with (refine ldU hU5.cell rfl (.tmp 5) rfl rfl ?_)
  refine (cPr _ hU5.below).mono ?_
  rintro e4 w6 ⟨rfl, hb6⟩
  have hU6 := hU5.later hb6
  have hV6 := hV5.later hb6
  clear hU5 hV5 hb6 cPr
  go_wp2_with fail
  refine (cPQ _ hU6.below).mono ?_
  rintro e5 w7 ⟨rfl, hb7⟩
  have hU7 := hU6.later hb7
  have hX8 := Res.fresh hU7.below (.string HU) (.int .i64 KU) (.string PU)
  have hU8 := hU7.alloc (.cells #[.string HU, .int .i64 KU, .string PU] 24)
  have hV8 := (hV6.later hb7).alloc (.cells #[.string HU, .int .i64 KU, .string PU] 24)
  clear hU6 hU7 hV6 hb7 cPQ
  go_upto_region 7 with fail
  generalize w7.alloc (.cells #[.string HU, .int .i64 KU, .string PU] 24) = w8 at hX8 hU8 hV8 ⊢
  generalize w7.heap.size = gX at hX8 ⊢
  obtain ⟨x0, x1, x2⟩ := box_cell hX8.cell
  obtain ⟨u0, u1, u2⟩ := box_cell hU8.cell
  go_wp2_with fail
  refine (cRi _ hU8.below).mono ?_
  rintro e6 w9 ⟨rfl, hb9⟩
  have hVn := hV8.later hb9
  clear x0 x1 x2 u0 u1 u2 hX8 hU8 hV8 hb9 cRi
  go_upto_region 11 with fail
  obtain ⟨v0, v1, v2⟩ := box_cell hVn.cell
  go_wp2_with fail
  refine (cO2 _ hVn.below).mono ?_
  rintro e7 wa ⟨rfl, hba⟩
  have hVa := hVn.later hba
  have hYb := Res.fresh hVa.below (.string HY) (.int .i64 KY) (.string PY)
  have hVb := hVa.alloc (.cells #[.string HY, .int .i64 KY, .string PY] 24)
  clear v0 v1 v2 hVn hVa hba cO2
  go_upto_region 14 with fail
  generalize wa.alloc (.cells #[.string HY, .int .i64 KY, .string PY] 24) = wb at hYb hVb ⊢
  generalize wa.heap.size = gY at hYb ⊢
  go_wp2_with (refine ldU hVb.cell rfl (.tmp 7) rfl rfl ?_)
  refine (cPr2 _ hVb.below).mono ?_
  rintro e8 wc ⟨rfl, hbc⟩
  have hVc := hVb.later hbc
  have hYc := hYb.later hbc
  clear hVb hYb hbc cPr2
  go_wp2_with fail
  refine (cPQ2 _ hVc.below).mono ?_
  rintro e9 wd ⟨rfl, hbd⟩
  have hVd := hVc.later hbd
  have hWe := Res.fresh hVd.below (.string HV) (.int .i64 KV) (.string PV)
  have hVe := hVd.alloc (.cells #[.string HV, .int .i64 KV, .string PV] 24)
  have hYe := (hYc.later hbd).alloc (.cells #[.string HV, .int .i64 KV, .string PV] 24)
  clear hVc hYc hVd hbd cPQ2
  go_upto_region 15 with fail
  generalize wd.alloc (.cells #[.string HV, .int .i64 KV, .string PV] 24) = we at hWe hVe hYe ⊢
  generalize wd.heap.size = gW at hWe ⊢
  obtain ⟨v0, v1, v2⟩ := box_cell hVe.cell
  obtain ⟨y0, y1, y2⟩ := box_cell hYe.cell
  obtain ⟨z0, z1, z2⟩ := box_cell hWe.cell
  have hB := hVe.below
  clear hVe hYe hWe
  go_wp2_with fail
  go_ret
  exact ⟨rfl, hB⟩

set_option maxHeartbeats 3200000 in
set_option maxRecDepth 100000 in
theorem back_b0 (l m : List UInt8) (w : World) (hl : l.length ≤ 4000) (hml : m.length ≤ 300) (hm : MaxOk w) (hT : Tabs w) (he : (Tg.parse l).2 ≠ 0) (hf : (Tg.ofT l m).2 ≠ 0) :
    Calls Tryd.prog 3 #[.string (str l), .string (str m)] w fun e w' => e = .returned (.bool true) ∧ Below w.heap.size w w' := by
  have cA := fun (W : World) (hb : Below w.heap.size w W) => tawake_w W (hm.later hb) (hT.later hb)
  have cP := fun (W : World) (hb : Below w.heap.size w W) => Parse_s l W (by omega) (hm.later hb) (hT.later hb)
  have cO := fun (W : World) (hb : Below w.heap.size w W) => Of_s l m W (by omega) (by omega) (hm.later hb) (hT.later hb)
  have hls : ((str l).size : Int) ≤ 4000 := by rw [str_size]; omega
  have hms : ((str m).size : Int) ≤ 300 := by rw [str_size]; omega
  obtain ⟨U, e, hpe⟩ : ∃ U e, Tg.parse l = (U, e) := ⟨_, _, rfl⟩
  rw [hpe] at he
  have be : (e == 0) = false := beq_eq_false_iff_ne.2 he
  rw [hpe, ures_mk] at cP
  have hz := Tg.ofT_no hf
  obtain ⟨f, hoe⟩ : ∃ f, Tg.ofT l m = (Tg.zero, f) := ⟨_, Prod.ext hz rfl⟩
  rw [hoe] at hf
  have bf : (f == 0) = false := beq_eq_false_iff_ne.2 hf
  rw [hoe, ures_mk] at cO
  generalize hV : Tg.zero = V at *
  have z0 := zero_parts
  rw [hV] at z0
  rw [z0.1, z0.2.1, z0.2.2] at cO
  generalize str l = s at *
  clear hz hoe hf z0 hV
  clear hpe he hl hml hm hT
  generalize str m = t at *
  generalize str U.host = HU at *
  generalize U.port = KU at *
  generalize str U.path = PU at *
  go_enter Tryd.func3, Tryd.ntmps3
  go_wp2_with fail
  refine (cA _ (Below.refl _ _)).mono ?_
  rintro e1 w1 ⟨rfl, hb1⟩
  go_wp2_with fail
  refine (cP _ hb1).mono ?_
  rintro e2 w2 ⟨rfl, hb2⟩
  have hU3 := Res.fresh (bt' hb1 hb2) (.string HU) (.int .i64 KU) (.string PU)
  clear cA cP hb1 hb2
  go_upto_region 4 with fail
  generalize w2.alloc (.cells #[.string HU, .int .i64 KU, .string PU] 24) = w3 at hU3 ⊢
  generalize w2.heap.size = gU at hU3 ⊢
  go_wp2_with fail
  refine (cO _ hU3.below).mono ?_
  rintro e3 w4 ⟨rfl, hb4⟩
  have hU4 := hU3.later hb4
  have hV5 := Res.fresh hU4.below (.string ⟨#[]⟩) (.int .i64 0) (.string ⟨#[]⟩)
  have hU5 := hU4.alloc (.cells #[.string ⟨#[]⟩, .int .i64 0, .string ⟨#[]⟩] 24)
  clear cO hU3 hU4 hb4
  go_upto_region 5 with fail
  generalize w4.alloc (.cells #[.string ⟨#[]⟩, .int .i64 0, .string ⟨#[]⟩] 24) = w5 at hU5 hV5 ⊢
  generalize w4.heap.size = gV at hV5 ⊢
  have hVn := hV5
  clear hU5 hV5
  go_upto_region 11 with fail
  obtain ⟨v0, v1, v2⟩ := box_cell hVn.cell
  have hB := hVn.below
  clear hVn
  go_wp2_with fail
  go_ret
  exact ⟨rfl, hB⟩

set_option maxHeartbeats 3200000 in
set_option maxRecDepth 100000 in
theorem back_b1 (l m : List UInt8) (w : World) (hl : l.length ≤ 4000) (hml : m.length ≤ 300) (hm : MaxOk w) (hT : Tabs w) (he : (Tg.parse l).2 ≠ 0) (hf : (Tg.ofT l m).2 = 0) (h47 : l.head? = some 47) :
    Calls Tryd.prog 3 #[.string (str l), .string (str m)] w fun e w' => e = .returned (.bool true) ∧ Below w.heap.size w w' := by
  have cA := fun (W : World) (hb : Below w.heap.size w W) => tawake_w W (hm.later hb) (hT.later hb)
  have cP := fun (W : World) (hb : Below w.heap.size w W) => Parse_s l W (by omega) (hm.later hb) (hT.later hb)
  have cO := fun (W : World) (hb : Below w.heap.size w W) => Of_s l m W (by omega) (by omega) (hm.later hb) (hT.later hb)
  have hls : ((str l).size : Int) ≤ 4000 := by rw [str_size]; omega
  have hms : ((str m).size : Int) ≤ 300 := by rw [str_size]; omega
  obtain ⟨U, e, hpe⟩ : ∃ U e, Tg.parse l = (U, e) := ⟨_, _, rfl⟩
  rw [hpe] at he
  have be : (e == 0) = false := beq_eq_false_iff_ne.2 he
  rw [hpe, ures_mk] at cP
  have hov := Tg.ofT_ok hf
  obtain ⟨V, hV⟩ : ∃ V, (Tg.ofT l m).1 = V := ⟨_, rfl⟩
  rw [hV] at hov
  have hoe : Tg.ofT l m = (V, 0) := Prod.ext hV hf
  rw [hoe, ures_mk] at cO
  have hvb := print_bounds V
  have hkV := hov.1.site.hi
  obtain ⟨hv1, hv2, hv3, hv4, hv5⟩ := hov
  have cPr2 := fun (W : World) (hb : Below w.heap.size w W) => Print_u V W (by omega) (by omega) (by omega) (hT.later hb)
  have cPQ2 := fun (W : World) (hb : Below w.heap.size w W) => Parse_s (Tg.print V) W (by omega) (hm.later hb) (hT.later hb)
  rw [Tg.parse_print hv1 (by omega), ures_mk] at cPQ2
  rw [uval_u] at cPr2
  generalize str (Tg.print V) = tV at *
  have cO2 := fun (W : World) (hb : Below w.heap.size w W) => Of_s V.path m W (by omega) (by omega) (hm.later hb) (hT.later hb)
  obtain ⟨c, lt, rfl⟩ : ∃ c lt, l = c :: lt := by
    cases l with
    | nil => exact absurd rfl hv4
    | cons c lt => exact ⟨c, lt, rfl⟩
  have h0s : 0 < (str (c :: lt)).size := by rw [str_size]; simp
  have hix : (str (c :: lt))[0]'h0s = c := rfl
  obtain rfl : c = 47 := by simpa using h47
  have i47 : (((str (47 :: lt))[0]'h0s).toNat : Int) = 47 := by rw [hix]; rfl
  rw [hv5 h47, hoe, ures_mk] at cO2
  generalize str (47 :: lt) = s at *
  clear hv1 hv2 hv3 hv4 hv5 hvb hkV hf hV hoe h47 hix
  clear hpe he hl hml hm hT
  generalize str m = t at *
  generalize str U.host = HU at *
  generalize U.port = KU at *
  generalize str U.path = PU at *
  generalize str V.host = HV at *
  generalize V.port = KV at *
  generalize str V.path = PV at *
  go_enter Tryd.func3, Tryd.ntmps3
  go_wp2_with fail
  refine (cA _ (Below.refl _ _)).mono ?_
  rintro e1 w1 ⟨rfl, hb1⟩
  go_wp2_with fail
  refine (cP _ hb1).mono ?_
  rintro e2 w2 ⟨rfl, hb2⟩
  have hU3 := Res.fresh (bt' hb1 hb2) (.string HU) (.int .i64 KU) (.string PU)
  clear cA cP hb1 hb2
  go_upto_region 4 with fail
  generalize w2.alloc (.cells #[.string HU, .int .i64 KU, .string PU] 24) = w3 at hU3 ⊢
  generalize w2.heap.size = gU at hU3 ⊢
  go_wp2_with fail
  refine (cO _ hU3.below).mono ?_
  rintro e3 w4 ⟨rfl, hb4⟩
  have hU4 := hU3.later hb4
  have hV5 := Res.fresh hU4.below (.string HV) (.int .i64 KV) (.string PV)
  have hU5 := hU4.alloc (.cells #[.string HV, .int .i64 KV, .string PV] 24)
  clear cO hU3 hU4 hb4
  go_upto_region 5 with fail
  generalize w4.alloc (.cells #[.string HV, .int .i64 KV, .string PV] 24) = w5 at hU5 hV5 ⊢
  generalize w4.heap.size = gV at hV5 ⊢
  have hVn := hV5
  clear hU5 hV5
  go_upto_region 11 with fail
  obtain ⟨v0, v1, v2⟩ := box_cell hVn.cell
  go_wp2_with fail
  refine (cO2 _ hVn.below).mono ?_
  rintro e7 wa ⟨rfl, hba⟩
  have hVa := hVn.later hba
  have hYb := Res.fresh hVa.below (.string HV) (.int .i64 KV) (.string PV)
  have hVb := hVa.alloc (.cells #[.string HV, .int .i64 KV, .string PV] 24)
  clear v0 v1 v2 hVn hVa hba cO2
  go_upto_region 14 with fail
  generalize wa.alloc (.cells #[.string HV, .int .i64 KV, .string PV] 24) = wb at hYb hVb ⊢
  generalize wa.heap.size = gY at hYb ⊢
  go_wp2_with (refine ldU hVb.cell rfl (.tmp 7) rfl rfl ?_)
  refine (cPr2 _ hVb.below).mono ?_
  rintro e8 wc ⟨rfl, hbc⟩
  have hVc := hVb.later hbc
  have hYc := hYb.later hbc
  clear hVb hYb hbc cPr2
  go_wp2_with fail
  refine (cPQ2 _ hVc.below).mono ?_
  rintro e9 wd ⟨rfl, hbd⟩
  have hVd := hVc.later hbd
  have hWe := Res.fresh hVd.below (.string HV) (.int .i64 KV) (.string PV)
  have hVe := hVd.alloc (.cells #[.string HV, .int .i64 KV, .string PV] 24)
  have hYe := (hYc.later hbd).alloc (.cells #[.string HV, .int .i64 KV, .string PV] 24)
  clear hVc hYc hVd hbd cPQ2
  go_upto_region 15 with fail
  generalize wd.alloc (.cells #[.string HV, .int .i64 KV, .string PV] 24) = we at hWe hVe hYe ⊢
  generalize wd.heap.size = gW at hWe ⊢
  obtain ⟨v0, v1, v2⟩ := box_cell hVe.cell
  obtain ⟨y0, y1, y2⟩ := box_cell hYe.cell
  obtain ⟨z0, z1, z2⟩ := box_cell hWe.cell
  have hB := hVe.below
  clear hVe hYe hWe
  go_wp2_with fail
  go_ret
  exact ⟨rfl, hB⟩

set_option maxHeartbeats 3200000 in
set_option maxRecDepth 100000 in
theorem back_b2 (l m : List UInt8) (w : World) (hl : l.length ≤ 4000) (hml : m.length ≤ 300) (hm : MaxOk w) (hT : Tabs w) (he : (Tg.parse l).2 ≠ 0) (hf : (Tg.ofT l m).2 = 0) (h47 : ¬ l.head? = some 47) :
    Calls Tryd.prog 3 #[.string (str l), .string (str m)] w fun e w' => e = .returned (.bool true) ∧ Below w.heap.size w w' := by
  have cA := fun (W : World) (hb : Below w.heap.size w W) => tawake_w W (hm.later hb) (hT.later hb)
  have cP := fun (W : World) (hb : Below w.heap.size w W) => Parse_s l W (by omega) (hm.later hb) (hT.later hb)
  have cO := fun (W : World) (hb : Below w.heap.size w W) => Of_s l m W (by omega) (by omega) (hm.later hb) (hT.later hb)
  have hls : ((str l).size : Int) ≤ 4000 := by rw [str_size]; omega
  have hms : ((str m).size : Int) ≤ 300 := by rw [str_size]; omega
  obtain ⟨U, e, hpe⟩ : ∃ U e, Tg.parse l = (U, e) := ⟨_, _, rfl⟩
  rw [hpe] at he
  have be : (e == 0) = false := beq_eq_false_iff_ne.2 he
  rw [hpe, ures_mk] at cP
  have hov := Tg.ofT_ok hf
  obtain ⟨V, hV⟩ : ∃ V, (Tg.ofT l m).1 = V := ⟨_, rfl⟩
  rw [hV] at hov
  have hoe : Tg.ofT l m = (V, 0) := Prod.ext hV hf
  rw [hoe, ures_mk] at cO
  have hvb := print_bounds V
  have hkV := hov.1.site.hi
  obtain ⟨hv1, hv2, hv3, hv4, hv5⟩ := hov
  have cPr2 := fun (W : World) (hb : Below w.heap.size w W) => Print_u V W (by omega) (by omega) (by omega) (hT.later hb)
  have cPQ2 := fun (W : World) (hb : Below w.heap.size w W) => Parse_s (Tg.print V) W (by omega) (hm.later hb) (hT.later hb)
  rw [Tg.parse_print hv1 (by omega), ures_mk] at cPQ2
  rw [uval_u] at cPr2
  generalize str (Tg.print V) = tV at *
  have cO2 := fun (W : World) (hb : Below w.heap.size w W) => Of_s V.path m W (by omega) (by omega) (hm.later hb) (hT.later hb)
  obtain ⟨c, lt, rfl⟩ : ∃ c lt, l = c :: lt := by
    cases l with
    | nil => exact absurd rfl hv4
    | cons c lt => exact ⟨c, lt, rfl⟩
  have h0s : 0 < (str (c :: lt)).size := by rw [str_size]; simp
  have hix : (str (c :: lt))[0]'h0s = c := rfl
  have n47 : ¬ ((((str (c :: lt))[0]'h0s).toNat : Int) = 47) := by
    rw [hix]
    intro e2; apply h47
    have : c = 47 := UInt8.toNat_inj.1 (by have : (47 : UInt8).toNat = 47 := rfl; omega)
    rw [this]; rfl
  have b47 : ((((str (c :: lt))[0]'h0s).toNat : Int) != 47) = true := by
    rw [bne, beq_eq_false_iff_ne.2 n47]; rfl
  obtain ⟨Y, g, hY⟩ : ∃ Y g, Tg.ofT V.path m = (Y, g) := ⟨_, _, rfl⟩
  rw [hY, ures_mk] at cO2
  generalize str (c :: lt) = s at *
  generalize str Y.host = HY at *
  generalize Y.port = KY at *
  generalize str Y.path = PY at *
  clear hv1 hv2 hv3 hv4 hv5 hvb hkV hf hV hoe h47 hix
  clear hpe he hl hml hm hT
  generalize str m = t at *
  generalize str U.host = HU at *
  generalize U.port = KU at *
  generalize str U.path = PU at *
  generalize str V.host = HV at *
  generalize V.port = KV at *
  generalize str V.path = PV at *
  go_enter Tryd.func3, Tryd.ntmps3
  go_wp2_with fail
  refine (cA _ (Below.refl _ _)).mono ?_
  rintro e1 w1 ⟨rfl, hb1⟩
  go_wp2_with fail
  refine (cP _ hb1).mono ?_
  rintro e2 w2 ⟨rfl, hb2⟩
  have hU3 := Res.fresh (bt' hb1 hb2) (.string HU) (.int .i64 KU) (.string PU)
  clear cA cP hb1 hb2
  go_upto_region 4 with fail
  generalize w2.alloc (.cells #[.string HU, .int .i64 KU, .string PU] 24) = w3 at hU3 ⊢
  generalize w2.heap.size = gU at hU3 ⊢
  go_wp2_with fail
  refine (cO _ hU3.below).mono ?_
  rintro e3 w4 ⟨rfl, hb4⟩
  have hU4 := hU3.later hb4
  have hV5 := Res.fresh hU4.below (.string HV) (.int .i64 KV) (.string PV)
  have hU5 := hU4.alloc (.cells #[.string HV, .int .i64 KV, .string PV] 24)
  clear cO hU3 hU4 hb4
  go_upto_region 5 with fail
  generalize w4.alloc (.cells #[.string HV, .int .i64 KV, .string PV] 24) = w5 at hU5 hV5 ⊢
  generalize w4.heap.size = gV at hV5 ⊢
  have hVn := hV5
  clear hU5 hV5
  go_upto_region 11 with fail
  obtain ⟨v0, v1, v2⟩ := box_cell hVn.cell
  go_wp2_with fail
  refine (cO2 _ hVn.below).mono ?_
  rintro e7 wa ⟨rfl, hba⟩
  have hVa := hVn.later hba
  have hYb := Res.fresh hVa.below (.string HY) (.int .i64 KY) (.string PY)
  have hVb := hVa.alloc (.cells #[.string HY, .int .i64 KY, .string PY] 24)
  clear v0 v1 v2 hVn hVa hba cO2
  go_upto_region 14 with fail
  generalize wa.alloc (.cells #[.string HY, .int .i64 KY, .string PY] 24) = wb at hYb hVb ⊢
  generalize wa.heap.size = gY at hYb ⊢
  go_wp2_with (refine ldU hVb.cell rfl (.tmp 7) rfl rfl ?_)
  refine (cPr2 _ hVb.below).mono ?_
  rintro e8 wc ⟨rfl, hbc⟩
  have hVc := hVb.later hbc
  have hYc := hYb.later hbc
  clear hVb hYb hbc cPr2
  go_wp2_with fail
  refine (cPQ2 _ hVc.below).mono ?_
  rintro e9 wd ⟨rfl, hbd⟩
  have hVd := hVc.later hbd
  have hWe := Res.fresh hVd.below (.string HV) (.int .i64 KV) (.string PV)
  have hVe := hVd.alloc (.cells #[.string HV, .int .i64 KV, .string PV] 24)
  have hYe := (hYc.later hbd).alloc (.cells #[.string HV, .int .i64 KV, .string PV] 24)
  clear hVc hYc hVd hbd cPQ2
  go_upto_region 15 with fail
  generalize wd.alloc (.cells #[.string HV, .int .i64 KV, .string PV] 24) = we at hWe hVe hYe ⊢
  generalize wd.heap.size = gW at hWe ⊢
  obtain ⟨v0, v1, v2⟩ := box_cell hVe.cell
  obtain ⟨y0, y1, y2⟩ := box_cell hYe.cell
  obtain ⟨z0, z1, z2⟩ := box_cell hWe.cell
  have hB := hVe.below
  clear hVe hYe hWe
  go_wp2_with fail
  go_ret
  exact ⟨rfl, hB⟩

set_option maxHeartbeats 1600000 in
set_option maxRecDepth 100000 in
theorem tback_w (s t : ByteArray) (w : World) (hs : s.size ≤ 9223372036854775807) (ht : t.size ≤ 9223372036854775807) (hm : MaxOk w) (hT : Tabs w) :
    Calls Tryd.prog 3 #[.string s, .string t] w fun e w' => e = .returned (.bool true) ∧ Below w.heap.size w w' := by
  have cA := fun (W : World) (hb : Below w.heap.size w W) => tawake_w W (hm.later hb) (hT.later hb)
  by_cases h1 : (4000 : Int) < s.size
  · clear hm hT hs ht
    go_enter Tryd.func3, Tryd.ntmps3
    go_wp2_with fail
    refine (cA _ (Below.refl _ _)).mono ?_
    rintro e1 w1 ⟨rfl, hb1⟩
    go_wp2_with fail
    refine (cA _ hb1).mono ?_
    rintro e2 w2 ⟨rfl, hb2⟩
    go_wp2_with fail
    go_ret
    exact ⟨rfl, bt' hb1 hb2⟩
  by_cases h2 : (300 : Int) < t.size
  · clear hm hT hs ht
    go_enter Tryd.func3, Tryd.ntmps3
    go_wp2_with fail
    refine (cA _ (Below.refl _ _)).mono ?_
    rintro e1 w1 ⟨rfl, hb1⟩
    go_wp2_with fail
    refine (cA _ hb1).mono ?_
    rintro e2 w2 ⟨rfl, hb2⟩
    go_wp2_with fail
    go_ret
    exact ⟨rfl, bt' hb1 hb2⟩
  obtain ⟨l, rfl⟩ : ∃ l, s = str l := ⟨s.data.toList, (str_of s).symm⟩
  obtain ⟨m, rfl⟩ : ∃ m, t = str m := ⟨t.data.toList, (str_of t).symm⟩
  rw [str_size] at h1 h2
  have hl : l.length ≤ 4000 := by omega
  have hml : m.length ≤ 300 := by omega
  by_cases he : (Tg.parse l).2 = 0
  · by_cases hf : (Tg.ofT l m).2 = 0
    · by_cases h47 : l.head? = some 47
      · exact back_a1 l m w hl hml hm hT he hf h47
      · exact back_a2 l m w hl hml hm hT he hf h47
    · exact back_a0 l m w hl hml hm hT he hf
  · by_cases hf : (Tg.ofT l m).2 = 0
    · by_cases h47 : l.head? = some 47
      · exact back_b1 l m w hl hml hm hT he hf h47
      · exact back_b2 l m w hl hml hm hT he hf h47
    · exact back_b0 l m w hl hml hm hT he hf
end Go.Proofs.YtlikjfemkadciaaDoor
