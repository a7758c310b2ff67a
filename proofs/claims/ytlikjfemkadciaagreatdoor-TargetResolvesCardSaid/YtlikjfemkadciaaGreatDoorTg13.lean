/- Package target: where references lead: paths. -/
import Derived.Test.YtlikjfemkadciaaGreatDoorTg12
namespace Go.Proofs.YtlikjfemkadciaaGreatDoor
open Go.RowKit

set_option maxHeartbeats 3200000 in
set_option maxRecDepth 100000 in
theorem res_slash (u : Tg.U) (r : List UInt8) (w : World) (hh : u.host.length ≤ 90000) (hp : u.path.length ≤ 80000) (hk : u.port ≤ 9223372036854775807) (hr : r.length ≤ 90000) (hm : MaxOk w) (hT : Tabs w) (hri : Tg.right u = true) (h8 : ¬ 8000 < r.length) (h0 : r ≠ []) (hht : Tg.http r = false) (h2 : ¬ r.take 2 = [47, 47]) (h47 : r.head? = some 47) :
    Calls Tryz.prog 16 #[uval u, .string (str r)] w fun e w' => e = .returned (ures (Tg.atU u.host u.port r)) ∧ Below w.heap.size w w' := by
  have cRi := fun (W : World) (hb : Below w.heap.size w W) => Right_u u W (by omega) (by omega) hk (hm.later hb) (hT.later hb)
  rw [uval_u] at cRi
  have cLo := fun w => long_one (str r) r w rfl
  have hU00 := Res.start w (.string (str u.host)) (.int .i64 u.port) (.string (str u.path))
  rw [hri] at cRi
  rw [decide_eq_false h8] at cLo
  have hok := Tg.ok_of hri
  have hok2 : Hid (Tg.Ok u) := hok
  obtain ⟨pt, hpt⟩ := hok.head
  have hps := str_size u.path
  have cQm := fun (W : World) => ahead_qm (str u.path) W (by omega)
  rw [str_list] at cQm
  have hNl := Tg.ahead_le Tg.qm u.path
  obtain ⟨N, hN⟩ : ∃ N, N = Tg.ahead Tg.qm u.path := ⟨_, rfl⟩
  rw [← hN] at cQm hNl
  have hNs : (N : Int) ≤ (str u.path).size := by omega
  have eP : (str u.path).extract 0 N = str (u.path.take N) := by
    refine str_same ?_
    rw [Lib.extract_data, str_list]; simp
  have HP0 := Lib.hid hpt
  have HPN := Lib.hid hN
  have HPL := Lib.hid hp
  have HM := Lib.hid hm
  have HT := Lib.hid hT
  have HHL := Lib.hid hh
  have b0 : (str r).toList.isEmpty = false := by
    rw [str_toList]
    cases r with
    | nil => exact absurd rfl h0
    | cons _ _ => rfl
  have cAb := fun W => absolute_s (str r) W (by rw [str_size]; omega)
  rw [str_list, hht] at cAb
  have cPt := fun (W : World) => pre_two (str r) r rfl W
  rw [decide_eq_false h2] at cPt
  obtain ⟨c, rt, rfl⟩ : ∃ c rt, r = c :: rt := by
    cases r with
    | nil => exact absurd rfl h0
    | cons c rt => exact ⟨c, rt, rfl⟩
  have h0s : 0 < (str (c :: rt)).size := by rw [str_size]; simp
  have hix : (str (c :: rt))[0]'h0s = c := rfl
  obtain rfl : c = 47 := by simpa using h47
  have i47 : (((str (47 :: rt))[0]'h0s).toNat : Int) = 47 := by rw [hix]; rfl
  have cAt := fun (W : World) (hb : Below w.heap.size w W) => at_s u rt W (by omega) (by simp at hr; omega) (hm.later hb) (hT.later hb)
  obtain ⟨⟨⟨ra, rb, rc⟩, rd⟩, hres⟩ : ∃ x, Tg.atU u.host u.port (47 :: rt) = x := ⟨_, rfl⟩
  have e1 : ures (⟨ra, rb, rc⟩, rd) = .tuple #[.agg #[.string (str ra), .int .i64 rb, .string (str rc)], .int .i64 rd] := rfl
  rw [hres, e1] at cAt ⊢
  clear hres e1 eP h2 h47 hix h0
  rw [uval_u] at cAt ⊢
  clear hm hT hri hh hp hk hr h8 hok hpt hN hNl hps
  generalize str u.host = H at *
  generalize str u.path = P at *
  generalize u.port = K at *
  generalize str (47 :: rt) = s at *
  go_enter Tryz.func16, Tryz.ntmps16
  go_upto_region 1 with fail
  have hU0 := hU00.alloc (.cells #[.string ⟨#[]⟩, .int .i64 0, .string ⟨#[]⟩] 24)
  have hR0 : Res w (w.heap.size + 1) ((w.alloc (.cells #[.string H, .int .i64 K, .string P] 24)).alloc (.cells #[.string ⟨#[]⟩, .int .i64 0, .string ⟨#[]⟩] 24)) (.string ⟨#[]⟩) (.int .i64 0) (.string ⟨#[]⟩) :=
    ⟨heap_alloc2_new w _ _, hU0.below, by omega⟩
  generalize (w.alloc (.cells #[.string H, .int .i64 K, .string P] 24)).alloc (.cells #[.string ⟨#[]⟩, .int .i64 0, .string ⟨#[]⟩] 24) = W0 at hU0 hR0 ⊢
  generalize w.heap.size + 1 = G at hR0 ⊢
  go_wp2_with (refine ldU hU0.cell rfl (.tmp 2) rfl rfl ?_)
  refine (cRi _ hU0.below).mono ?_
  rintro e W1 ⟨rfl, hb1⟩
  have hU1 := hU0.later hb1
  have hR1 := hR0.later hb1
  clear hU00 hU0 hR0 hb1 cRi
  go_wp2_with fail
  refine (cLo _).mono ?_
  rintro e W2 ⟨rfl, hb2⟩
  have hU2 := hU1.later hb2
  have hR2 := hR1.later hb2
  clear hU1 hR1 hb2 cLo
  go_upto_region 5 with fail
  have k2 := fun p : LateOf W2 => p.cell (box_cell hU2.cell).2.2
  have GQ := fun p : LateOf W2 => late p (cQm p.w)
  refine wp_region_late (by kernel_rfl) (by kernel_rfl) ?_
  quiet_step (fail)
  quiet_step (fail)
  quiet_step (fail)
  quiet_step (fail)
  quiet_step ((go_at_call 21; exact GQ _))
  quiet_step (fail)
  quiet_step (fail)
  refine wpQuiet_nil ?_
  rintro W3 ⟨p, rfl⟩
  have hU3 := hU2.later p.h
  have hR3 := hR2.later p.h
  generalize p.w = W3 at hU3 hR3 ⊢
  clear k2 GQ hU2 hR2 cQm
  go_wp2_with fail
  refine (cAb _).mono ?_
  rintro e W4 ⟨rfl, hb4⟩
  have hU4 := hU3.later hb4
  have hR4 := hR3.later hb4
  clear hU3 hR3 hb4 cAb
  go_wp2_with fail
  refine (cPt _).mono ?_
  rintro e W5 ⟨rfl, rfl⟩
  go_wp2_with (refine ldU hU4.cell rfl (.tmp 2) rfl rfl ?_)
  refine (cAt _ hU4.below).mono ?_
  rintro e W6 ⟨rfl, hb6⟩
  have hR6 := hR4.later hb6
  go_wp2_with (refine stU hR6 rfl (.tmp 4) (.tmp 52) rfl _ _ _ rfl rfl ?_; intro W9 hR9 _)
  (try simp only [Exit.inBlock, Exit.then])
  refine ret_uri rfl G _ _ _ rfl hR9.cell rfl ?_
  exact ⟨by rfl, hR9.below⟩

set_option maxHeartbeats 3200000 in
set_option maxRecDepth 100000 in
theorem res_query (u : Tg.U) (r : List UInt8) (w : World) (hh : u.host.length ≤ 90000) (hp : u.path.length ≤ 80000) (hk : u.port ≤ 9223372036854775807) (hr : r.length ≤ 90000) (hm : MaxOk w) (hT : Tabs w) (hri : Tg.right u = true) (h8 : ¬ 8000 < r.length) (h0 : r ≠ []) (hht : Tg.http r = false) (h2 : ¬ r.take 2 = [47, 47]) (h47 : ¬ r.head? = some 47) (h63 : r.head? = some 63) :
    Calls Tryz.prog 16 #[uval u, .string (str r)] w fun e w' => e = .returned (ures (Tg.atU u.host u.port (u.path.take (Tg.ahead Tg.qm u.path) ++ r))) ∧ Below w.heap.size w w' := by
  have cRi := fun (W : World) (hb : Below w.heap.size w W) => Right_u u W (by omega) (by omega) hk (hm.later hb) (hT.later hb)
  rw [uval_u] at cRi
  have cLo := fun w => long_one (str r) r w rfl
  have hU00 := Res.start w (.string (str u.host)) (.int .i64 u.port) (.string (str u.path))
  rw [hri] at cRi
  rw [decide_eq_false h8] at cLo
  have hok := Tg.ok_of hri
  have hok2 : Hid (Tg.Ok u) := hok
  obtain ⟨pt, hpt⟩ := hok.head
  have hps := str_size u.path
  have cQm := fun (W : World) => ahead_qm (str u.path) W (by omega)
  rw [str_list] at cQm
  have hNl := Tg.ahead_le Tg.qm u.path
  obtain ⟨N, hN⟩ : ∃ N, N = Tg.ahead Tg.qm u.path := ⟨_, rfl⟩
  rw [← hN] at cQm hNl
  have hNs : (N : Int) ≤ (str u.path).size := by omega
  have eP : (str u.path).extract 0 N = str (u.path.take N) := by
    refine str_same ?_
    rw [Lib.extract_data, str_list]; simp
  have HP0 := Lib.hid hpt
  have HPN := Lib.hid hN
  have HPL := Lib.hid hp
  have HM := Lib.hid hm
  have HT := Lib.hid hT
  have HHL := Lib.hid hh
  have b0 : (str r).toList.isEmpty = false := by
    rw [str_toList]
    cases r with
    | nil => exact absurd rfl h0
    | cons _ _ => rfl
  have cAb := fun W => absolute_s (str r) W (by rw [str_size]; omega)
  rw [str_list, hht] at cAb
  have cPt := fun (W : World) => pre_two (str r) r rfl W
  rw [decide_eq_false h2] at cPt
  obtain ⟨c, rt, rfl⟩ : ∃ c rt, r = c :: rt := by
    cases r with
    | nil => exact absurd rfl h0
    | cons c rt => exact ⟨c, rt, rfl⟩
  have h0s : 0 < (str (c :: rt)).size := by rw [str_size]; simp
  have hix : (str (c :: rt))[0]'h0s = c := rfl
  have hN1 : ∃ n, N = n + 1 := by
    rw [hpt] at hN
    rw [Tg.ahead, if_neg (by decide)] at hN
    exact ⟨_, hN⟩
  obtain ⟨n, hNn⟩ := hN1
  have htk : u.path.take N = 47 :: pt.take n := by rw [hpt, hNn]; rfl
  obtain rfl : c = 63 := by simpa using h63
  have i47 : (((str (63 :: rt))[0]'h0s).toNat : Int) = 63 := by rw [hix]; rfl
  have cAt := fun (W : World) (hb : Below w.heap.size w W) => at_s u (pt.take n ++ 63 :: rt) W (by omega) (by rw [hpt] at hp; simp at hr hp h8 ⊢; omega) (hm.later hb) (hT.later hb)
  have es : (str u.path).extract 0 N ++ str (63 :: rt) = str (47 :: (pt.take n ++ 63 :: rt)) := str_same (by rw [eP, app_data, str_list, str_list, htk]; rfl)
  rw [← es] at cAt
  rw [← hN, htk]
  have hzz : (str (63 :: rt)).size ≤ 90000 := by rw [str_size]; exact hr
  have hzy : ((str u.path).extract 0 N).size ≤ 90000 := by rw [eP, str_size, List.length_take]; omega
  obtain ⟨⟨⟨ra, rb, rc⟩, rd⟩, hres⟩ : ∃ x, Tg.atU u.host u.port (47 :: (pt.take n ++ 63 :: rt)) = x := ⟨_, rfl⟩
  have e1 : ures (⟨ra, rb, rc⟩, rd) = .tuple #[.agg #[.string (str ra), .int .i64 rb, .string (str rc)], .int .i64 rd] := rfl
  rw [hres, e1] at cAt
  rw [List.cons_append, hres, e1]
  clear hres e1 eP h2 h47 hix h0 h63 htk es hNn
  rw [uval_u] at cAt ⊢
  clear hm hT hri hh hp hk hr h8 hok hpt hN hNl hps
  generalize str u.host = H at *
  generalize str u.path = P at *
  generalize u.port = K at *
  generalize str (63 :: rt) = s at *
  go_enter Tryz.func16, Tryz.ntmps16
  go_upto_region 1 with fail
  have hU0 := hU00.alloc (.cells #[.string ⟨#[]⟩, .int .i64 0, .string ⟨#[]⟩] 24)
  have hR0 : Res w (w.heap.size + 1) ((w.alloc (.cells #[.string H, .int .i64 K, .string P] 24)).alloc (.cells #[.string ⟨#[]⟩, .int .i64 0, .string ⟨#[]⟩] 24)) (.string ⟨#[]⟩) (.int .i64 0) (.string ⟨#[]⟩) :=
    ⟨heap_alloc2_new w _ _, hU0.below, by omega⟩
  generalize (w.alloc (.cells #[.string H, .int .i64 K, .string P] 24)).alloc (.cells #[.string ⟨#[]⟩, .int .i64 0, .string ⟨#[]⟩] 24) = W0 at hU0 hR0 ⊢
  generalize w.heap.size + 1 = G at hR0 ⊢
  go_wp2_with (refine ldU hU0.cell rfl (.tmp 2) rfl rfl ?_)
  refine (cRi _ hU0.below).mono ?_
  rintro e W1 ⟨rfl, hb1⟩
  have hU1 := hU0.later hb1
  have hR1 := hR0.later hb1
  clear hU00 hU0 hR0 hb1 cRi
  go_wp2_with fail
  refine (cLo _).mono ?_
  rintro e W2 ⟨rfl, hb2⟩
  have hU2 := hU1.later hb2
  have hR2 := hR1.later hb2
  clear hU1 hR1 hb2 cLo
  go_upto_region 5 with fail
  have k2 := fun p : LateOf W2 => p.cell (box_cell hU2.cell).2.2
  have GQ := fun p : LateOf W2 => late p (cQm p.w)
  refine wp_region_late (by kernel_rfl) (by kernel_rfl) ?_
  quiet_step (fail)
  quiet_step (fail)
  quiet_step (fail)
  quiet_step (fail)
  quiet_step ((go_at_call 21; exact GQ _))
  quiet_step (fail)
  quiet_step (fail)
  refine wpQuiet_nil ?_
  rintro W3 ⟨p, rfl⟩
  have hU3 := hU2.later p.h
  have hR3 := hR2.later p.h
  generalize p.w = W3 at hU3 hR3 ⊢
  clear k2 GQ hU2 hR2 cQm
  generalize P.extract 0 N = PP at *
  go_wp2_with fail
  refine (cAb _).mono ?_
  rintro e W4 ⟨rfl, hb4⟩
  have hU4 := hU3.later hb4
  have hR4 := hR3.later hb4
  clear hU3 hR3 hb4 cAb
  go_wp2_with fail
  refine (cPt _).mono ?_
  rintro e W5 ⟨rfl, rfl⟩
  go_wp2_with (refine ldU hU4.cell rfl (.tmp 2) rfl rfl ?_)
  refine (cAt _ hU4.below).mono ?_
  rintro e W6 ⟨rfl, hb6⟩
  have hR6 := hR4.later hb6
  go_wp2_with (refine stU hR6 rfl (.tmp 4) (.tmp 63) rfl _ _ _ rfl rfl ?_; intro W9 hR9 _)
  (try simp only [Exit.inBlock, Exit.then])
  refine ret_uri rfl G _ _ _ rfl hR9.cell rfl ?_
  exact ⟨by rfl, hR9.below⟩

set_option maxHeartbeats 3200000 in
set_option maxRecDepth 100000 in
theorem res_colon (u : Tg.U) (r : List UInt8) (w : World) (hh : u.host.length ≤ 90000) (hp : u.path.length ≤ 80000) (hk : u.port ≤ 9223372036854775807) (hr : r.length ≤ 90000) (hm : MaxOk w) (hT : Tabs w) (hri : Tg.right u = true) (h8 : ¬ 8000 < r.length) (h0 : r ≠ []) (hht : Tg.http r = false) (h2 : ¬ r.take 2 = [47, 47]) (h47 : ¬ r.head? = some 47) (h63 : ¬ r.head? = some 63) (h58 : (r.take (Tg.ahead Tg.sq r)).contains 58 = true) :
    Calls Tryz.prog 16 #[uval u, .string (str r)] w fun e w' => e = .returned (ures (Tg.zero, 10)) ∧ Below w.heap.size w w' := by
  have cRi := fun (W : World) (hb : Below w.heap.size w W) => Right_u u W (by omega) (by omega) hk (hm.later hb) (hT.later hb)
  rw [uval_u] at cRi
  have cLo := fun w => long_one (str r) r w rfl
  have hU00 := Res.start w (.string (str u.host)) (.int .i64 u.port) (.string (str u.path))
  rw [hri] at cRi
  rw [decide_eq_false h8] at cLo
  have hok := Tg.ok_of hri
  have hok2 : Hid (Tg.Ok u) := hok
  obtain ⟨pt, hpt⟩ := hok.head
  have hps := str_size u.path
  have cQm := fun (W : World) => ahead_qm (str u.path) W (by omega)
  rw [str_list] at cQm
  have hNl := Tg.ahead_le Tg.qm u.path
  obtain ⟨N, hN⟩ : ∃ N, N = Tg.ahead Tg.qm u.path := ⟨_, rfl⟩
  rw [← hN] at cQm hNl
  have hNs : (N : Int) ≤ (str u.path).size := by omega
  have eP : (str u.path).extract 0 N = str (u.path.take N) := by
    refine str_same ?_
    rw [Lib.extract_data, str_list]; simp
  have HP0 := Lib.hid hpt
  have HPN := Lib.hid hN
  have HPL := Lib.hid hp
  have HM := Lib.hid hm
  have HT := Lib.hid hT
  have HHL := Lib.hid hh
  have b0 : (str r).toList.isEmpty = false := by
    rw [str_toList]
    cases r with
    | nil => exact absurd rfl h0
    | cons _ _ => rfl
  have cAb := fun W => absolute_s (str r) W (by rw [str_size]; omega)
  rw [str_list, hht] at cAb
  have cPt := fun (W : World) => pre_two (str r) r rfl W
  rw [decide_eq_false h2] at cPt
  obtain ⟨c, rt, rfl⟩ : ∃ c rt, r = c :: rt := by
    cases r with
    | nil => exact absurd rfl h0
    | cons c rt => exact ⟨c, rt, rfl⟩
  have h0s : 0 < (str (c :: rt)).size := by rw [str_size]; simp
  have hix : (str (c :: rt))[0]'h0s = c := rfl
  have b47 : ((((str (c :: rt))[0]'h0s).toNat : Int) == 47) = false := by
    rw [hix, beq_eq_false_iff_ne]
    intro e; apply h47
    have : c = 47 := UInt8.toNat_inj.1 (by have : (47 : UInt8).toNat = 47 := rfl; omega)
    rw [this]; rfl
  have b63 : ((((str (c :: rt))[0]'h0s).toNat : Int) == 63) = false := by
    rw [hix, beq_eq_false_iff_ne]
    intro e; apply h63
    have : c = 63 := UInt8.toNat_inj.1 (by have : (63 : UInt8).toNat = 63 := rfl; omega)
    rw [this]; rfl
  have cSq := fun (W : World) => ahead_sq (str (c :: rt)) W (by rw [str_size]; omega)
  rw [str_list] at cSq
  have hAl := Tg.ahead_le Tg.sq (c :: rt)
  have hrz := str_size (c :: rt)
  generalize Tg.ahead Tg.sq (c :: rt) = A at *
  have hAs : (A : Int) ≤ (str (c :: rt)).size := by omega
  have cCo := fun (W : World) => Tryz.strings_Contains_one ((str (c :: rt)).extract 0 A) 58 W
  have exA : ((str (c :: rt)).extract 0 A).data.toList = (c :: rt).take A := by rw [Lib.extract_data, str_list]; simp
  rw [exA, ← Lib.contains_iff_indexByte, h58] at cCo
  clear eP h2 h47 hix h0 h63 exA h58 hAl hrz
  rw [uval_u]
  clear hm hT hri hh hp hk hr h8 hok hpt hN hNl hps
  generalize str u.host = H at *
  generalize str u.path = P at *
  generalize u.port = K at *
  generalize str (c :: rt) = s at *
  go_enter Tryz.func16, Tryz.ntmps16
  go_upto_region 1 with fail
  have hU0 := hU00.alloc (.cells #[.string ⟨#[]⟩, .int .i64 0, .string ⟨#[]⟩] 24)
  have hR0 : Res w (w.heap.size + 1) ((w.alloc (.cells #[.string H, .int .i64 K, .string P] 24)).alloc (.cells #[.string ⟨#[]⟩, .int .i64 0, .string ⟨#[]⟩] 24)) (.string ⟨#[]⟩) (.int .i64 0) (.string ⟨#[]⟩) :=
    ⟨heap_alloc2_new w _ _, hU0.below, by omega⟩
  generalize (w.alloc (.cells #[.string H, .int .i64 K, .string P] 24)).alloc (.cells #[.string ⟨#[]⟩, .int .i64 0, .string ⟨#[]⟩] 24) = W0 at hU0 hR0 ⊢
  generalize w.heap.size + 1 = G at hR0 ⊢
  go_wp2_with (refine ldU hU0.cell rfl (.tmp 2) rfl rfl ?_)
  refine (cRi _ hU0.below).mono ?_
  rintro e W1 ⟨rfl, hb1⟩
  have hU1 := hU0.later hb1
  have hR1 := hR0.later hb1
  clear hU00 hU0 hR0 hb1 cRi
  go_wp2_with fail
  refine (cLo _).mono ?_
  rintro e W2 ⟨rfl, hb2⟩
  have hU2 := hU1.later hb2
  have hR2 := hR1.later hb2
  clear hU1 hR1 hb2 cLo
  go_upto_region 5 with fail
  have k2 := fun p : LateOf W2 => p.cell (box_cell hU2.cell).2.2
  have GQ := fun p : LateOf W2 => late p (cQm p.w)
  refine wp_region_late (by kernel_rfl) (by kernel_rfl) ?_
  quiet_step (fail)
  quiet_step (fail)
  quiet_step (fail)
  quiet_step (fail)
  quiet_step ((go_at_call 21; exact GQ _))
  quiet_step (fail)
  quiet_step (fail)
  refine wpQuiet_nil ?_
  rintro W3 ⟨p, rfl⟩
  have hU3 := hU2.later p.h
  have hR3 := hR2.later p.h
  generalize p.w = W3 at hU3 hR3 ⊢
  clear k2 GQ hU2 hR2 cQm
  go_wp2_with fail
  refine (cAb _).mono ?_
  rintro e W4 ⟨rfl, hb4⟩
  have hU4 := hU3.later hb4
  have hR4 := hR3.later hb4
  clear hU3 hR3 hb4 cAb
  go_wp2_with fail
  refine (cPt _).mono ?_
  rintro e W5 ⟨rfl, rfl⟩
  go_wp2_with fail
  refine (cSq _).mono ?_
  rintro e W7 ⟨rfl, hb7⟩
  have hU7 := hU4.later hb7
  have hR7 := hR4.later hb7
  go_wp2_with fail
  refine (cCo _).mono ?_
  rintro e W8 ⟨rfl, rfl⟩
  clear hU4 hR4 hb7 cSq cCo
  go_wp2_with (refine stU hR7 rfl (.tmp 4) (.tmp 71) rfl _ _ _ rfl rfl ?_; intro W9 hR9 _)
  (try simp only [Exit.inBlock, Exit.then])
  refine ret_uri rfl G _ _ _ rfl hR9.cell rfl ?_
  exact ⟨by rfl, hR9.below⟩

set_option maxHeartbeats 3200000 in
set_option maxRecDepth 100000 in
theorem res_other (u : Tg.U) (r : List UInt8) (w : World) (hh : u.host.length ≤ 90000) (hp : u.path.length ≤ 80000) (hk : u.port ≤ 9223372036854775807) (hr : r.length ≤ 90000) (hm : MaxOk w) (hT : Tabs w) (hri : Tg.right u = true) (h8 : ¬ 8000 < r.length) (h0 : r ≠ []) (hht : Tg.http r = false) (h2 : ¬ r.take 2 = [47, 47]) (h47 : ¬ r.head? = some 47) (h63 : ¬ r.head? = some 63) (h58 : (r.take (Tg.ahead Tg.sq r)).contains 58 = false) :
    Calls Tryz.prog 16 #[uval u, .string (str r)] w fun e w' => e = .returned (ures (Tg.atU u.host u.port (Tg.upto (u.path.take (Tg.ahead Tg.qm u.path)) ++ r))) ∧ Below w.heap.size w w' := by
  have cRi := fun (W : World) (hb : Below w.heap.size w W) => Right_u u W (by omega) (by omega) hk (hm.later hb) (hT.later hb)
  rw [uval_u] at cRi
  have cLo := fun w => long_one (str r) r w rfl
  have hU00 := Res.start w (.string (str u.host)) (.int .i64 u.port) (.string (str u.path))
  rw [hri] at cRi
  rw [decide_eq_false h8] at cLo
  have hok := Tg.ok_of hri
  have hok2 : Hid (Tg.Ok u) := hok
  obtain ⟨pt, hpt⟩ := hok.head
  have hps := str_size u.path
  have cQm := fun (W : World) => ahead_qm (str u.path) W (by omega)
  rw [str_list] at cQm
  have hNl := Tg.ahead_le Tg.qm u.path
  obtain ⟨N, hN⟩ : ∃ N, N = Tg.ahead Tg.qm u.path := ⟨_, rfl⟩
  rw [← hN] at cQm hNl
  have hNs : (N : Int) ≤ (str u.path).size := by omega
  have eP : (str u.path).extract 0 N = str (u.path.take N) := by
    refine str_same ?_
    rw [Lib.extract_data, str_list]; simp
  have HP0 := Lib.hid hpt
  have HPN := Lib.hid hN
  have HPL := Lib.hid hp
  have HM := Lib.hid hm
  have HT := Lib.hid hT
  have HHL := Lib.hid hh
  have b0 : (str r).toList.isEmpty = false := by
    rw [str_toList]
    cases r with
    | nil => exact absurd rfl h0
    | cons _ _ => rfl
  have cAb := fun W => absolute_s (str r) W (by rw [str_size]; omega)
  rw [str_list, hht] at cAb
  have cPt := fun (W : World) => pre_two (str r) r rfl W
  rw [decide_eq_false h2] at cPt
  obtain ⟨c, rt, rfl⟩ : ∃ c rt, r = c :: rt := by
    cases r with
    | nil => exact absurd rfl h0
    | cons c rt => exact ⟨c, rt, rfl⟩
  have h0s : 0 < (str (c :: rt)).size := by rw [str_size]; simp
  have hix : (str (c :: rt))[0]'h0s = c := rfl
  have hN1 : ∃ n, N = n + 1 := by
    rw [hpt] at hN
    rw [Tg.ahead, if_neg (by decide)] at hN
    exact ⟨_, hN⟩
  obtain ⟨n, hNn⟩ := hN1
  have htk : u.path.take N = 47 :: pt.take n := by rw [hpt, hNn]; rfl
  have b47 : ((((str (c :: rt))[0]'h0s).toNat : Int) == 47) = false := by
    rw [hix, beq_eq_false_iff_ne]
    intro e; apply h47
    have : c = 47 := UInt8.toNat_inj.1 (by have : (47 : UInt8).toNat = 47 := rfl; omega)
    rw [this]; rfl
  have b63 : ((((str (c :: rt))[0]'h0s).toNat : Int) == 63) = false := by
    rw [hix, beq_eq_false_iff_ne]
    intro e; apply h63
    have : c = 63 := UInt8.toNat_inj.1 (by have : (63 : UInt8).toNat = 63 := rfl; omega)
    rw [this]; rfl
  have cSq := fun (W : World) => ahead_sq (str (c :: rt)) W (by rw [str_size]; omega)
  rw [str_list] at cSq
  have hAl := Tg.ahead_le Tg.sq (c :: rt)
  have hrz := str_size (c :: rt)
  generalize Tg.ahead Tg.sq (c :: rt) = A at *
  have hAs : (A : Int) ≤ (str (c :: rt)).size := by omega
  have cCo := fun (W : World) => Tryz.strings_Contains_one ((str (c :: rt)).extract 0 A) 58 W
  have exA : ((str (c :: rt)).extract 0 A).data.toList = (c :: rt).take A := by rw [Lib.extract_data, str_list]; simp
  rw [exA, ← Lib.contains_iff_indexByte, h58] at cCo
  obtain ⟨m, hm1, hm2, hm3⟩ := last_upto (u.path.take N) (by rw [htk]; simp)
  rw [← eP] at hm1
  have hmz := str_size (u.path.take N)
  rw [← eP] at hmz
  have cLi := fun (W : World) => Tryz.strings_LastIndexByte ((str u.path).extract 0 N) 47 (by rw [hmz, List.length_take]; omega) W
  rw [hm1] at cLi
  have hms : (m : Int) + 1 ≤ ((str u.path).extract 0 N).size := by omega
  have hup : ∃ q, Tg.upto (u.path.take N) = 47 :: q ∧ q.length ≤ u.path.length := by
    rw [← hm3, htk, List.take_succ_cons]
    refine ⟨_, rfl, ?_⟩
    rw [List.length_take, List.length_take]
    have := congrArg List.length hpt
    simp at this; omega
  obtain ⟨q, hq, hql⟩ := hup
  have cAt := fun (W : World) (hb : Below w.heap.size w W) => at_s u (q ++ c :: rt) W (by omega) (by simp at hr h8 ⊢; omega) (hm.later hb) (hT.later hb)
  have es : ((str u.path).extract 0 N).extract 0 (m + 1) ++ str (c :: rt) = str (47 :: (q ++ c :: rt)) := by
    refine str_same ?_
    rw [app_data, Lib.extract_data, eP, str_list, str_list]
    simp only [List.drop_zero, Nat.sub_zero]
    rw [hm3, hq]; rfl
  rw [← es] at cAt
  rw [← hN, hq]
  have hzz : (str (c :: rt)).size ≤ 90000 := by rw [str_size]; exact hr
  have hzy : (((str u.path).extract 0 N).extract 0 (m + 1)).size ≤ 90000 := by simp; omega
  obtain ⟨⟨⟨ra, rb, rc⟩, rd⟩, hres⟩ : ∃ x, Tg.atU u.host u.port (47 :: (q ++ c :: rt)) = x := ⟨_, rfl⟩
  have e1 : ures (⟨ra, rb, rc⟩, rd) = .tuple #[.agg #[.string (str ra), .int .i64 rb, .string (str rc)], .int .i64 rd] := rfl
  rw [hres, e1] at cAt
  rw [List.cons_append, hres, e1]
  clear hres e1 eP h2 h47 hix h0 h63 htk es hNn exA h58 hAl hrz hm1 hm2 hm3 hmz hq hql
  rw [uval_u] at cAt ⊢
  clear hm hT hri hh hp hk hr h8 hok hpt hN hNl hps
  generalize str u.host = H at *
  generalize str u.path = P at *
  generalize u.port = K at *
  generalize str (c :: rt) = s at *
  go_enter Tryz.func16, Tryz.ntmps16
  go_upto_region 1 with fail
  have hU0 := hU00.alloc (.cells #[.string ⟨#[]⟩, .int .i64 0, .string ⟨#[]⟩] 24)
  have hR0 : Res w (w.heap.size + 1) ((w.alloc (.cells #[.string H, .int .i64 K, .string P] 24)).alloc (.cells #[.string ⟨#[]⟩, .int .i64 0, .string ⟨#[]⟩] 24)) (.string ⟨#[]⟩) (.int .i64 0) (.string ⟨#[]⟩) :=
    ⟨heap_alloc2_new w _ _, hU0.below, by omega⟩
  generalize (w.alloc (.cells #[.string H, .int .i64 K, .string P] 24)).alloc (.cells #[.string ⟨#[]⟩, .int .i64 0, .string ⟨#[]⟩] 24) = W0 at hU0 hR0 ⊢
  generalize w.heap.size + 1 = G at hR0 ⊢
  go_wp2_with (refine ldU hU0.cell rfl (.tmp 2) rfl rfl ?_)
  refine (cRi _ hU0.below).mono ?_
  rintro e W1 ⟨rfl, hb1⟩
  have hU1 := hU0.later hb1
  have hR1 := hR0.later hb1
  clear hU00 hU0 hR0 hb1 cRi
  go_wp2_with fail
  refine (cLo _).mono ?_
  rintro e W2 ⟨rfl, hb2⟩
  have hU2 := hU1.later hb2
  have hR2 := hR1.later hb2
  clear hU1 hR1 hb2 cLo
  go_upto_region 5 with fail
  have k2 := fun p : LateOf W2 => p.cell (box_cell hU2.cell).2.2
  have GQ := fun p : LateOf W2 => late p (cQm p.w)
  refine wp_region_late (by kernel_rfl) (by kernel_rfl) ?_
  quiet_step (fail)
  quiet_step (fail)
  quiet_step (fail)
  quiet_step (fail)
  quiet_step ((go_at_call 21; exact GQ _))
  quiet_step (fail)
  quiet_step (fail)
  refine wpQuiet_nil ?_
  rintro W3 ⟨p, rfl⟩
  have hU3 := hU2.later p.h
  have hR3 := hR2.later p.h
  generalize p.w = W3 at hU3 hR3 ⊢
  clear k2 GQ hU2 hR2 cQm
  generalize P.extract 0 N = PP at *
  go_wp2_with fail
  refine (cAb _).mono ?_
  rintro e W4 ⟨rfl, hb4⟩
  have hU4 := hU3.later hb4
  have hR4 := hR3.later hb4
  clear hU3 hR3 hb4 cAb
  go_wp2_with fail
  refine (cPt _).mono ?_
  rintro e W5 ⟨rfl, rfl⟩
  go_wp2_with fail
  refine (cSq _).mono ?_
  rintro e W7 ⟨rfl, hb7⟩
  have hU7 := hU4.later hb7
  have hR7 := hR4.later hb7
  go_wp2_with fail
  refine (cCo _).mono ?_
  rintro e W8 ⟨rfl, rfl⟩
  clear hU4 hR4 hb7 cSq cCo
  go_upto_region 18 with fail
  have hc := box_cell hU7.cell
  have k0 := fun p : LateOf W8 => p.cell hc.1
  have k1 := fun p : LateOf W8 => p.cell hc.2.1
  have k2 := fun p : LateOf W8 => p.cell hc.2.2
  have GL := fun p : LateOf W8 => late p ((cLi p.w).mono fun e w' ⟨h1, h2⟩ => ⟨h1, h2 ▸ Below.refl _ _⟩)
  have GA := fun p : LateOf W8 => late p (cAt p.w (hU7.below.trans (p.h.mono hU7.below.size)))
  have HGR := Lib.hid (fun p : LateOf W8 => hR7.later p.h)
  have hz3 : ¬ 9223372036854775807 < (PP.extract 0 (m + 1)).size + s.size := by omega
  have hz4 : ¬ 9223372036854775807 < min (m + 1) PP.size + s.size := by simp at hzy; omega
  have hz5 : min (m + 1) PP.size + s.size ≤ 9223372036854775807 := by omega
  have hmw : IntKind.i64.wrap ((m : Int) + 1) = (m : Int) + 1 := by rw [IntKind.wrap_i64]; omega
  have hm0 : (0 : Int) ≤ (m : Int) + 1 := by omega
  clear cLi cAt hU7 hR7 hc
  refine wp_region_late_tail 11 (by kernel_rfl) (by kernel_rfl) ?_
  simp only [List.take_succ_cons, List.take_zero, List.drop_succ_cons, List.drop_zero]
  quiet_step (fail)
  quiet_step (fail)
  quiet_step (fail)
  quiet_step ((go_at_call 31; exact GL _))
  quiet_step (fail)
  quiet_step (fail)
  quiet_step (fail)
  quiet_step (fail)
  quiet_step ((go_at_call 24; exact GA _))
  quiet_step (fail)
  quiet_step (fail)
  refine wpQuiet_nil ?_
  intro w2 hw'
  obtain ⟨p, rfl⟩ := hw'
  have hRp := HGR.out p
  go_wp2_with (refine stU hRp rfl (.tmp 4) (.tmp 81) rfl _ _ _ rfl rfl ?_; intro W9 hR9 _)
  (try simp only [Exit.inBlock, Exit.then])
  refine ret_uri rfl G _ _ _ rfl hR9.cell rfl ?_
  exact ⟨by rfl, hR9.below⟩

/-- Where a reference leads. -/
theorem Resolve_s (u : Tg.U) (r : List UInt8) (w : World) (hh : u.host.length ≤ 90000) (hp : u.path.length ≤ 80000) (hk : u.port ≤ 9223372036854775807) (hr : r.length ≤ 90000) (hm : MaxOk w) (hT : Tabs w) :
    Calls Tryz.prog 16 #[uval u, .string (str r)] w fun e w' => e = .returned (ures (Tg.resolve u r)) ∧ Below w.heap.size w w' := by
  unfold Tg.resolve
  cases hri : Tg.right u with
  | false => rw [if_pos rfl]; exact res_arg u r w hh hp hk hr hm hT hri
  | true =>
    rw [if_neg (by decide)]
    by_cases h8 : 8000 < r.length
    · rw [if_pos h8]; exact res_long u r w hh hp hk hr hm hT hri h8
    rw [if_neg h8]
    by_cases h0 : r = []
    · rw [if_pos h0]; exact res_empty u r w hh hp hk hr hm hT hri h8 h0
    rw [if_neg h0]
    cases hht : Tg.http r with
    | true => rw [if_pos rfl]; exact res_http u r w hh hp hk hr hm hT hri h8 h0 hht
    | false =>
      rw [if_neg (by decide)]
      by_cases h2 : r.take 2 = [47, 47]
      · rw [if_pos h2]; exact res_two u r w hh hp hk hr hm hT hri h8 h0 hht h2
      rw [if_neg h2]
      by_cases h47 : r.head? = some 47
      · rw [if_pos h47]; exact res_slash u r w hh hp hk hr hm hT hri h8 h0 hht h2 h47
      rw [if_neg h47]
      by_cases h63 : r.head? = some 63
      · rw [if_pos h63]; exact res_query u r w hh hp hk hr hm hT hri h8 h0 hht h2 h47 h63
      rw [if_neg h63]
      cases h58 : (r.take (Tg.ahead Tg.sq r)).contains 58 with
      | true => rw [if_pos rfl]; exact res_colon u r w hh hp hk hr hm hT hri h8 h0 hht h2 h47 h63 h58
      | false => rw [if_neg (by decide)]; exact res_other u r w hh hp hk hr hm hT hri h8 h0 hht h2 h47 h63 h58
end Go.Proofs.YtlikjfemkadciaaGreatDoor
