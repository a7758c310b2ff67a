/- Package target: Of, Print, Right. -/
import Derived.Test.YtlikjfemkadciaaGreatDoorTg10
namespace Go.Proofs.YtlikjfemkadciaaGreatDoor
open Go.RowKit

theorem uval_u (u : Tg.U) : uval u = .agg #[.string (str u.host), .int .i64 u.port, .string (str u.path)] := rfl

set_option maxHeartbeats 1600000 in
set_option maxRecDepth 100000 in
theorem Print_u (u : Tg.U) (w : World) (h1 : u.host.length ≤ 1000000) (h2 : u.path.length ≤ 1000000) (h3 : u.port ≤ 9223372036854775807) (hT : Tabs w) :
    Calls Tryz.prog 12 #[uval u] w fun e w' => e = .returned (.string (str (Tg.print u))) ∧ Below w.heap.size w w' := by
  rw [uval_u]
  have hU0 := Res.start w (.string (str u.host)) (.int .i64 u.port) (.string (str u.path))
  have hz1 : (str u.host).size ≤ 1000000 := by rw [str_size]; exact h1
  have hz2 : (str u.path).size ≤ 1000000 := by rw [str_size]; exact h2
  have eh : Tg.httpT = [104, 116, 116, 112, 58, 47, 47] := rfl
  by_cases h80 : u.port = 80
  · have HV : Hid ((⟨#[104, 116, 116, 112, 58, 47, 47]⟩ : ByteArray) ++ str u.host ++ ⟨#[]⟩ ++ str u.path = str (Tg.print u)) := by
      refine Lib.hid (str_same ?_)
      rw [app_data, app_data, app_data, str_list, str_list]
      unfold Tg.print Tg.portT; rw [if_pos h80]; rfl
    rw [h80] at hU0 ⊢
    generalize str u.host = H at *
    generalize str u.path = P at *
    clear h1 h2 h3 h80 eh
    go_enter Tryz.func12, Tryz.ntmps12
    go_upto_region 1 with fail
    generalize w.alloc (.cells #[.string H, .int .i64 80, .string P] 24) = W0 at hU0 ⊢
    have hc := box_cell hU0.cell
    obtain ⟨c0, c1, c2⟩ := hc
    have hB := hU0.below
    clear hU0
    go_wp2_with fail
    go_ret
    exact ⟨by rw [← HV.out]; rfl, hB⟩
  · have b80 : (u.port != 80) = true := by rw [bne, beq_eq_false_iff_ne.2 h80]; rfl
    have HV : Hid ((⟨#[104, 116, 116, 112, 58, 47, 47]⟩ : ByteArray) ++ str u.host ++ (⟨#[58]⟩ ++ str (Oct.print u.port 10)) ++ str u.path = str (Tg.print u)) := by
      refine Lib.hid (str_same ?_)
      rw [app_data, app_data, app_data, app_data, str_list, str_list, str_list]
      unfold Tg.print Tg.portT; rw [if_neg h80]; rfl
    have cP := fun (W : World) (hb : Below w.heap.size w W) => Print_s u.port 10 W h3 (hT.later hb)
    have hz3 : (str (Oct.print u.port 10)).size ≤ 100 := by rw [str_size]; exact Oct.dgs_len10 u.port.toNat (by omega)
    generalize str u.host = H at *
    generalize str u.path = P at *
    generalize str (Oct.print u.port 10) = D at *
    generalize u.port = K at *
    clear h1 h2 h3 h80 hT eh
    go_enter Tryz.func12, Tryz.ntmps12
    go_upto_region 1 with fail
    generalize w.alloc (.cells #[.string H, .int .i64 K, .string P] 24) = W0 at hU0 ⊢
    obtain ⟨c0, c1, c2⟩ := box_cell hU0.cell
    go_wp2_with fail
    refine (cP _ hU0.below).mono ?_
    rintro e W1 ⟨rfl, hb1⟩
    have hU1 := hU0.later hb1
    obtain ⟨d0, d1, d2⟩ := box_cell hU1.cell
    have hB := hU1.below
    clear c0 c1 c2 hU0 hU1 cP hb1
    have hzs : (⟨#[58]⟩ ++ D : ByteArray).size ≤ 101 := by rw [ByteArray.size_append]; show 1 + D.size ≤ 101; omega
    go_wp2_with fail
    go_ret
    exact ⟨by rw [← HV.out]; rfl, hB⟩

theorem guard_uri (op : BinOp) (hop : op = .eql ∨ op = .neq) (x y : Nat) (c d : Tg.U) (w : World) : (eqGuard op 24 (.tmp x) (.tmp y) (uval c) (uval d)).run Tryz.prog w = .ok () w := by
  rcases hop with rfl | rfl
  · kernel_rfl
  · kernel_rfl
theorem str_beq (a b : List UInt8) : ((str a).toList == (str b).toList) = decide (a = b) := by rw [str_toList, str_toList, Bool.eq_iff_iff, beq_iff_eq, decide_eq_true_iff]
theorem eql_uri (c d : Tg.U) (w : World) : (binOp .eql 24 (uval c) (uval d)).run Tryz.prog w = .ok (.bool (decide (c = d))) w := by
  obtain ⟨a0, a1, a2⟩ := c
  obtain ⟨b0, b1, b2⟩ := d
  unfold uval
  have e1 := str_beq a0 b0
  have e2 := str_beq a2 b2
  simp only [Tg.U.mk.injEq]
  generalize str a0 = s0 at *
  generalize str a2 = s2 at *
  generalize str b0 = t0 at *
  generalize str b2 = t2 at *
  go_simp
  (repeat' split) <;> simp_all
theorem neq_uri (c d : Tg.U) (w : World) : (binOp .neq 24 (uval c) (uval d)).run Tryz.prog w = .ok (.bool (decide (c ≠ d))) w := by
  obtain ⟨a0, a1, a2⟩ := c
  obtain ⟨b0, b1, b2⟩ := d
  unfold uval
  have e1 := str_beq a0 b0
  have e2 := str_beq a2 b2
  simp only [ne_eq, Tg.U.mk.injEq]
  generalize str a0 = s0 at *
  generalize str a2 = s2 at *
  generalize str b0 = t0 at *
  generalize str b2 = t2 at *
  go_simp
  (repeat' split) <;> simp_all

set_option maxHeartbeats 1600000 in
set_option maxRecDepth 100000 in
theorem Right_u (u : Tg.U) (w : World) (h1 : u.host.length ≤ 100000) (h2 : u.path.length ≤ 100000) (h3 : u.port ≤ 9223372036854775807) (hm : MaxOk w) (hT : Tabs w) :
    Calls Tryz.prog 14 #[uval u] w fun e w' => e = .returned (.bool (Tg.right u)) ∧ Below w.heap.size w w' := by
  have hpl : (Tg.print u).length ≤ 1000000 := by
    unfold Tg.print Tg.portT
    have h4 : Tg.httpT.length = 7 := rfl
    have h5 := Oct.dgs_len10 u.port.toNat (by omega)
    have h6 : (Oct.print u.port 10).length ≤ 100 := h5
    split <;> simp <;> omega
  have cP := fun (W : World) (hb : Below w.heap.size w W) => Print_u u W (by omega) (by omega) h3 (hT.later hb)
  have cQ := fun (W : World) (hb : Below w.heap.size w W) => Parse_s (Tg.print u) W hpl (hm.later hb) (hT.later hb)
  obtain ⟨⟨v, e⟩, hve⟩ : ∃ r, Tg.parse (Tg.print u) = r := ⟨_, rfl⟩
  have HV : Hid (Tg.right u = (decide (e = 0) && decide (v = u))) := by
    have : Tg.right u = (decide (e = 0) && decide (v = u)) := by
      unfold Tg.right; rw [hve, Bool.eq_iff_iff]; simp [and_comm]
    exact Lib.hid this
  rw [hve] at cQ
  have e1 : ures (v, e) = .tuple #[.agg #[.string (str v.host), .int .i64 v.port, .string (str v.path)], .int .i64 e] := rfl
  rw [e1] at cQ
  have hG := fun (x y : Nat) (W : World) => guard_uri .eql (.inl rfl) x y v u W
  have hE := fun (W : World) => eql_uri v u W
  rw [uval_u, uval_u] at hE
  simp only [uval_u] at hG
  rw [uval_u] at cP
  have hU0 := Res.start w (.string (str u.host)) (.int .i64 u.port) (.string (str u.path))
  clear e1 hve hpl h1 h2 h3 hm hT
  rw [uval_u]
  generalize str (Tg.print u) = PR at *
  generalize decide (v = u) = q at *
  generalize str u.host = H at *
  generalize str u.path = P at *
  generalize u.port = K at *
  generalize str v.host = H2 at *
  generalize str v.path = P2 at *
  generalize v.port = K2 at *
  go_enter Tryz.func14, Tryz.ntmps14
  go_upto_region 1 with fail
  generalize w.alloc (.cells #[.string H, .int .i64 K, .string P] 24) = W0 at hU0 ⊢
  go_wp2_with (refine ldU hU0.cell rfl (.tmp 1) rfl rfl ?_)
  refine (cP _ hU0.below).mono ?_
  rintro e' W1 ⟨rfl, hb1⟩
  have hU1 := hU0.later hb1
  go_wp2_with fail
  refine (cQ _ hU1.below).mono ?_
  rintro e' W2 ⟨rfl, hb2⟩
  have hU2 := (hU1.later hb2).alloc (.cells #[.string H2, .int .i64 K2, .string P2] 24)
  have hS2 := Res.start W2 (.string H2) (.int .i64 K2) (.string P2)
  clear hU0 hU1 hb1 hb2 cP cQ
  go_upto_region 2 with fail
  generalize W2.alloc (.cells #[.string H2, .int .i64 K2, .string P2] 24) = W3 at hU2 hS2 ⊢
  generalize W2.heap.size = G at hS2 ⊢
  obtain ⟨c0, c1, c2⟩ := box_cell hU2.cell
  obtain ⟨d0, d1, d2⟩ := box_cell hS2.cell
  have hB := hU2.below
  clear hU2 hS2
  by_cases he : e = 0
  · subst he
    have HV2 : Hid (Tg.right u = q) := by rw [HV.out]; exact Lib.hid (by simp)
    go_wp2_with fail
    go_ret
    exact ⟨ret_bool HV2.out.symm, hB⟩
  · have b0 : (e == 0) = false := beq_eq_false_iff_ne.2 he
    have HV2 : Hid (Tg.right u = false) := by rw [HV.out]; exact Lib.hid (by simp [he])
    clear he
    go_wp2_with fail
    go_ret
    exact ⟨ret_bool HV2.out.symm, hB⟩

set_option maxHeartbeats 1600000 in
set_option maxRecDepth 100000 in
theorem Of_s (t h : List UInt8) (w : World) (ht : t.length ≤ 90000) (hh : h.length ≤ 90000) (hm : MaxOk w) (hT : Tabs w) :
    Calls Tryz.prog 10 #[.string (str t), .string (str h)] w fun e w' => e = .returned (ures (Tg.ofT t h)) ∧ Below w.heap.size w w' := by
  have cLo := fun w => long_two (str t) (str h) t h w rfl rfl
  have cSi := fun w => site_s h w (by omega)
  have cPr := fun (W : World) => pre_one (str t) t rfl 47 W
  have cQ := fun (W : World) (hb : Below w.heap.size w W) => Parse_s t W (by omega) (hm.later hb) (hT.later hb)
  have hR0 := Res.start w (.string ⟨#[]⟩) (.int .i64 0) (.string ⟨#[]⟩)
  have HP : Hid (∀ r, Tg.site h = r → Tg.ofT t h = if 8000 < t.length ∨ 8000 < h.length then (Tg.zero, 12) else match r with | none => (Tg.zero, 10) | some x => if t.head? = some 47 then Tg.atU x.1 x.2 t else Tg.parse t) := Lib.hid (by rintro r rfl; rfl)
  by_cases h8 : 8000 < t.length ∨ 8000 < h.length
  · have HV : Hid (Tg.ofT t h = (Tg.zero, 12)) := by rw [HP.out _ rfl, if_pos h8]; exact Lib.hid rfl
    rw [decide_eq_true h8] at cLo
    generalize str t = s at *
    generalize str h = s2 at *
    clear HP hm hT h8 cSi cPr cQ
    go_enter Tryz.func10, Tryz.ntmps10
    go_upto_region 1 with fail
    generalize w.alloc (.cells #[.string ⟨#[]⟩, .int .i64 0, .string ⟨#[]⟩] 24) = W0 at hR0 ⊢
    go_wp2_with fail
    refine (cLo _).mono ?_
    rintro e W1 ⟨rfl, hb1⟩
    have hR1 := hR0.later hb1
    go_wp2_with (refine stU hR1 rfl (.tmp 4) (.tmp 12) rfl _ _ _ rfl rfl ?_; intro W2 hR2 _)
    (try simp only [Exit.inBlock, Exit.then])
    refine ret_uri rfl w.heap.size _ _ _ rfl hR2.cell rfl ?_
    exact ⟨by rw [HV.out]; rfl, hR2.below⟩
  rw [decide_eq_false h8] at cLo
  cases hsi : Tg.site h with
  | none =>
    have HV : Hid (Tg.ofT t h = (Tg.zero, 10)) := by rw [HP.out _ hsi, if_neg h8]; exact Lib.hid rfl
    have e0 : sres none = .tuple #[.agg #[.string ⟨#[]⟩, .int .i64 0, .string ⟨#[]⟩], .bool false] := rfl
    rw [hsi, e0] at cSi
    generalize str t = s at *
    generalize str h = s2 at *
    clear HP hm hT h8 cPr cQ hsi e0
    go_enter Tryz.func10, Tryz.ntmps10
    go_upto_region 1 with fail
    generalize w.alloc (.cells #[.string ⟨#[]⟩, .int .i64 0, .string ⟨#[]⟩] 24) = W0 at hR0 ⊢
    go_wp2_with fail
    refine (cLo _).mono ?_
    rintro e W1 ⟨rfl, hb1⟩
    have hR1 := hR0.later hb1
    go_wp2_with fail
    refine (cSi _).mono ?_
    rintro e W2 ⟨rfl, hb2⟩
    have hR2 := (hR1.later hb2).alloc (.cells #[.string ⟨#[]⟩, .int .i64 0, .string ⟨#[]⟩] 24)
    go_wp2_with (refine stU hR2 rfl (.tmp 4) (.tmp 20) rfl _ _ _ rfl rfl ?_; intro W3 hR3 _)
    (try simp only [Exit.inBlock, Exit.then])
    refine ret_uri rfl w.heap.size _ _ _ rfl hR3.cell rfl ?_
    exact ⟨by rw [HV.out]; rfl, hR3.below⟩
  | some x =>
    obtain ⟨xh, xk⟩ := x
    have hxl := (Tg.site_facts hsi).2
    have e0 : sres (some (xh, xk)) = .tuple #[.agg #[.string (str xh), .int .i64 xk, .string ⟨#[]⟩], .bool true] := rfl
    rw [hsi, e0] at cSi
    have e00 : str [] = ⟨#[]⟩ := rfl
    by_cases h47 : t.head? = some 47
    · have HV : Hid (Tg.ofT t h = Tg.atU xh xk t) := by rw [HP.out _ hsi, if_neg h8]; exact Lib.hid (if_pos h47)
      obtain ⟨t2, rfl⟩ : ∃ t2, t = 47 :: t2 := by
        cases t with
        | nil => cases h47
        | cons c r =>
          obtain rfl : c = 47 := by simpa using h47
          exact ⟨r, rfl⟩
      have cAt := fun (W : World) (hb : Below w.heap.size w W) => at_s ⟨xh, xk, []⟩ t2 W (by simp only []; omega) (by simp at ht; omega) (hm.later hb) (hT.later hb)
      simp only [] at cAt
      rw [uval_mk, e00] at cAt
      obtain ⟨⟨⟨ra, rb, rc⟩, rd⟩, hr⟩ : ∃ r, Tg.atU xh xk (47 :: t2) = r := ⟨_, rfl⟩
      have e1 : ures (⟨ra, rb, rc⟩, rd) = .tuple #[.agg #[.string (str ra), .int .i64 rb, .string (str rc)], .int .i64 rd] := rfl
      rw [hr, e1] at cAt
      rw [hr] at HV
      rw [decide_eq_true h47] at cPr
      generalize str xh = sh at *
      generalize str (47 :: t2) = s at *
      generalize str h = s2 at *
      clear HP hm hT h8 cQ hsi e0 hxl h47 hr e1 ht hh
      go_enter Tryz.func10, Tryz.ntmps10
      go_upto_region 1 with fail
      generalize w.alloc (.cells #[.string ⟨#[]⟩, .int .i64 0, .string ⟨#[]⟩] 24) = W0 at hR0 ⊢
      go_wp2_with fail
      refine (cLo _).mono ?_
      rintro e W1 ⟨rfl, hb1⟩
      have hR1 := hR0.later hb1
      go_wp2_with fail
      refine (cSi _).mono ?_
      rintro e W4 ⟨rfl, hb4⟩
      have hR4 := (hR1.later hb4).alloc (.cells #[.string sh, .int .i64 xk, .string ⟨#[]⟩] 24)
      have hS4 := Res.start W4 (.string sh) (.int .i64 xk) (.string ⟨#[]⟩)
      clear hR0 hR1 hb1 hb4 cLo cSi
      go_upto_region 4 with fail
      generalize W4.alloc (.cells #[.string sh, .int .i64 xk, .string ⟨#[]⟩] 24) = W5 at hR4 hS4 ⊢
      generalize W4.heap.size = G5 at hS4 ⊢
      go_wp2_with fail
      refine (cPr _).mono ?_
      rintro e W6 ⟨rfl, rfl⟩
      go_wp2_with (refine ldU hS4.cell rfl (.tmp 6) rfl rfl ?_)
      refine (cAt _ hR4.below).mono ?_
      rintro e W7 ⟨rfl, hb7⟩
      have hR7 := hR4.later hb7
      go_wp2_with (refine stU hR7 rfl (.tmp 4) (.tmp 31) rfl _ _ _ rfl rfl ?_; intro W8 hR8 _)
      (try simp only [Exit.inBlock, Exit.then])
      refine ret_uri rfl w.heap.size _ _ _ rfl hR8.cell rfl ?_
      exact ⟨by rw [HV.out]; rfl, hR8.below⟩
    · have HV : Hid (Tg.ofT t h = Tg.parse t) := by rw [HP.out _ hsi, if_neg h8]; exact Lib.hid (if_neg h47)
      obtain ⟨⟨⟨ra, rb, rc⟩, rd⟩, hr⟩ : ∃ r, Tg.parse t = r := ⟨_, rfl⟩
      have e1 : ures (⟨ra, rb, rc⟩, rd) = .tuple #[.agg #[.string (str ra), .int .i64 rb, .string (str rc)], .int .i64 rd] := rfl
      rw [hr, e1] at cQ
      rw [hr] at HV
      rw [decide_eq_false h47] at cPr
      generalize str xh = sh at *
      generalize str t = s at *
      generalize str h = s2 at *
      clear HP hm hT h8 hsi e0 hxl h47 hr e1 ht hh
      go_enter Tryz.func10, Tryz.ntmps10
      go_upto_region 1 with fail
      generalize w.alloc (.cells #[.string ⟨#[]⟩, .int .i64 0, .string ⟨#[]⟩] 24) = W0 at hR0 ⊢
      go_wp2_with fail
      refine (cLo _).mono ?_
      rintro e W1 ⟨rfl, hb1⟩
      have hR1 := hR0.later hb1
      go_wp2_with fail
      refine (cSi _).mono ?_
      rintro e W4 ⟨rfl, hb4⟩
      have hR4 := (hR1.later hb4).alloc (.cells #[.string sh, .int .i64 xk, .string ⟨#[]⟩] 24)
      clear hR0 hR1 hb1 hb4 cLo cSi
      go_upto_region 4 with fail
      generalize W4.alloc (.cells #[.string sh, .int .i64 xk, .string ⟨#[]⟩] 24) = W5 at hR4 ⊢
      generalize W4.heap.size = G5
      go_wp2_with fail
      refine (cPr _).mono ?_
      rintro e W6 ⟨rfl, rfl⟩
      go_wp2_with fail
      refine (cQ _ hR4.below).mono ?_
      rintro e W7 ⟨rfl, hb7⟩
      have hR7 := hR4.later hb7
      go_wp2_with (refine stU hR7 rfl (.tmp 4) (.tmp 26) rfl _ _ _ rfl rfl ?_; intro W8 hR8 _)
      (try simp only [Exit.inBlock, Exit.then])
      refine ret_uri rfl w.heap.size _ _ _ rfl hR8.cell rfl ?_
      exact ⟨by rw [HV.out]; rfl, hR8.below⟩
end Go.Proofs.YtlikjfemkadciaaGreatDoor
