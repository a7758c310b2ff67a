/- Package target: where references lead. -/
import Derived.Test.YtlikjfemkadciaaGreatDoorTg11
import Derived.Lib.LastIndexByte
namespace Go.Proofs.YtlikjfemkadciaaGreatDoor
open Go.RowKit

theorem upto_last : ∀ (a b : List UInt8), (∀ c ∈ b, c ≠ 47) → Tg.upto (a ++ 47 :: b) = a ++ [47]
  | [], b, hb => by
    have : Tg.upto b = [] := by
      cases b with
      | nil => rfl
      | cons c t =>
        rw [Tg.upto, if_neg]
        intro h
        rcases h with h | h
        · exact hb c (by simp) h
        · exact hb 47 (by simp [h]) rfl
    show Tg.upto (47 :: b) = _
    rw [Tg.upto, if_pos (.inl rfl), this]; rfl
  | c :: a, b, hb => by
    show Tg.upto (c :: (a ++ 47 :: b)) = _
    rw [Tg.upto, if_pos (.inr (by simp)), upto_last a b hb]; rfl
theorem last_upto (l : List UInt8) (h : (47 : UInt8) ∈ l) : ∃ m : Nat, Lib.lastIndexByte (str l) 47 = (m : Int) ∧ m + 1 ≤ l.length ∧ l.take (m + 1) = Tg.upto l := by
  have hz := str_size l
  have hg : ∀ j (hj : j < l.length), (str l).data[j]! = l[j] := fun j hj => by
    rw [getElem!_pos (str l).data j (by simpa [str] using hj)]; simp [str]
  rcases Lib.lastIndexByte_spec (str l) 47 with ⟨_, hn⟩ | ⟨i, hi, e, hc, hn⟩
  · exfalso
    obtain ⟨j, hj, hje⟩ := List.getElem_of_mem h
    apply hn j (by omega)
    rw [hg j hj, hje]; rfl
  · rw [hz] at hi
    refine ⟨i, e, by omega, ?_⟩
    have hs : l = l.take i ++ 47 :: l.drop (i + 1) := by
      have h1 : l[i] = 47 := by
        rw [hg i hi] at hc
        exact UInt8.toNat_inj.1 (by have : (47 : UInt8).toNat = 47 := rfl; omega : (l[i]).toNat = (47 : UInt8).toNat)
      conv => lhs; rw [← List.take_append_drop i l, List.drop_eq_getElem_cons hi, h1]
    have hb : ∀ c ∈ l.drop (i + 1), c ≠ 47 := by
      intro c hc2 e2
      obtain ⟨j, hj, hje⟩ := List.getElem_of_mem hc2
      rw [List.length_drop] at hj
      apply hn (i + 1 + j) (by omega) (by omega)
      rw [hg (i + 1 + j) (by omega)]
      rw [List.getElem_drop] at hje
      rw [hje, e2]; rfl
    have hu := upto_last (l.take i) (l.drop (i + 1)) hb
    rw [← hs] at hu
    rw [hu]
    rw [List.take_succ_eq_append_getElem hi]
    have h1 : l[i] = 47 := by
      rw [hg i hi] at hc
      exact UInt8.toNat_inj.1 (by have : (47 : UInt8).toNat = 47 := rfl; omega : (l[i]).toNat = (47 : UInt8).toNat)
    rw [h1]
theorem pre_two (s : ByteArray) (l : List UInt8) (hs : s = str l) (w : World) :
    Calls Tryz.prog 23 #[.string s, .string ⟨#[47, 47]⟩] w fun e w' => e = .returned (.bool (decide (l.take 2 = [47, 47]))) ∧ w' = w := by
  subst hs
  refine (Tryz.strings_HasPrefix (str l) ⟨#[47, 47]⟩ w).mono ?_
  rintro e w' ⟨he, hw⟩
  refine ⟨?_, hw⟩
  rw [he, str_list]
  congr 2
  unfold Lib.hasPrefix
  match l with
  | [] => rfl
  | [c] => show (([47, 47] : List UInt8).isPrefixOf [c]) = _; simp [List.isPrefixOf]
  | c :: d :: t =>
    show (([47, 47] : List UInt8).isPrefixOf (c :: d :: t)) = _
    rw [Bool.eq_iff_iff, decide_eq_true_iff]
    simp [List.isPrefixOf]
    constructor
    · rintro ⟨rfl, rfl⟩; exact ⟨rfl, rfl⟩
    · rintro ⟨rfl, rfl⟩; exact ⟨rfl, rfl⟩
theorem idx0 (s : ByteArray) (c : UInt8) (t : List UInt8) (hs : s = str (c :: t)) (h : 0 < s.size) : s[0]'h = c := by
  subst hs; rfl

set_option maxHeartbeats 3200000 in
set_option maxRecDepth 100000 in
theorem res_arg (u : Tg.U) (r : List UInt8) (w : World) (hh : u.host.length ≤ 90000) (hp : u.path.length ≤ 80000) (hk : u.port ≤ 9223372036854775807) (hr : r.length ≤ 90000) (hm : MaxOk w) (hT : Tabs w) (hri : Tg.right u = false) :
    Calls Tryz.prog 16 #[uval u, .string (str r)] w fun e w' => e = .returned (ures (Tg.zero, 2)) ∧ Below w.heap.size w w' := by
  have cRi := fun (W : World) (hb : Below w.heap.size w W) => Right_u u W (by omega) (by omega) hk (hm.later hb) (hT.later hb)
  rw [uval_u] at cRi
  have cLo := fun w => long_one (str r) r w rfl
  have hU00 := Res.start w (.string (str u.host)) (.int .i64 u.port) (.string (str u.path))
  rw [hri] at cRi
  have hr2 := hr
  clear hr2 hm hT hri cLo hh hp hk hr
  rw [uval_u]
  generalize str u.host = H at *
  generalize u.port = K at *
  generalize str u.path = P at *
  generalize str r = s at *
  go_enter Tryz.func16, Tryz.ntmps16
  go_upto_region 1 with fail
  have hU0 := hU00.alloc (.cells #[.string ⟨#[]⟩, .int .i64 0, .string ⟨#[]⟩] 24)
  have hR0 : Res w (w.heap.size + 1) ((w.alloc (.cells #[.string H, .int .i64 K, .string P] 24)).alloc (.cells #[.string ⟨#[]⟩, .int .i64 0, .string ⟨#[]⟩] 24)) (.string ⟨#[]⟩) (.int .i64 0) (.string ⟨#[]⟩) :=
    ⟨heap_alloc2_new w _ _, hU0.below, by omega⟩
  generalize (w.alloc (.cells #[.string H, .int .i64 K, .string P] 24)).alloc (.cells #[.string ⟨#[]⟩, .int .i64 0, .string ⟨#[]⟩] 24) = W0 at hU0 hR0 ⊢
  generalize w.heap.size + 1 = G at hR0 ⊢
  go_wp2_with (refine ldU hU0.cell rfl (.tmp 2) rfl rfl ?_)
  refine (cRi _ hU0.below).mono ?_
  rintro e W1 ⟨rfl, hb1⟩
  have hU1 := hU0.later hb1
  have hR1 := hR0.later hb1
  clear hU00 hU0 hR0 hb1 cRi
  go_wp2_with (refine stU hR1 rfl (.tmp 4) (.tmp 10) rfl _ _ _ rfl rfl ?_; intro W9 hR9 _)
  (try simp only [Exit.inBlock, Exit.then])
  refine ret_uri rfl G _ _ _ rfl hR9.cell rfl ?_
  exact ⟨by rfl, hR9.below⟩

set_option maxHeartbeats 3200000 in
set_option maxRecDepth 100000 in
theorem res_long (u : Tg.U) (r : List UInt8) (w : World) (hh : u.host.length ≤ 90000) (hp : u.path.length ≤ 80000) (hk : u.port ≤ 9223372036854775807) (hr : r.length ≤ 90000) (hm : MaxOk w) (hT : Tabs w) (hri : Tg.right u = true) (h8 : 8000 < r.length) :
    Calls Tryz.prog 16 #[uval u, .string (str r)] w fun e w' => e = .returned (ures (Tg.zero, 12)) ∧ Below w.heap.size w w' := by
  have cRi := fun (W : World) (hb : Below w.heap.size w W) => Right_u u W (by omega) (by omega) hk (hm.later hb) (hT.later hb)
  rw [uval_u] at cRi
  have cLo := fun w => long_one (str r) r w rfl
  have hU00 := Res.start w (.string (str u.host)) (.int .i64 u.port) (.string (str u.path))
  rw [hri] at cRi
  rw [decide_eq_true h8] at cLo
  have hr2 := hr
  clear hr2 hm hT hri hh hp hk hr h8
  rw [uval_u]
  generalize str u.host = H at *
  generalize u.port = K at *
  generalize str u.path = P at *
  generalize str r = s at *
  go_enter Tryz.func16, Tryz.ntmps16
  go_upto_region 1 with fail
  have hU0 := hU00.alloc (.cells #[.string ⟨#[]⟩, .int .i64 0, .string ⟨#[]⟩] 24)
  have hR0 : Res w (w.heap.size + 1) ((w.alloc (.cells #[.string H, .int .i64 K, .string P] 24)).alloc (.cells #[.string ⟨#[]⟩, .int .i64 0, .string ⟨#[]⟩] 24)) (.string ⟨#[]⟩) (.int .i64 0) (.string ⟨#[]⟩) :=
    ⟨heap_alloc2_new w _ _, hU0.below, by omega⟩
  generalize (w.alloc (.cells #[.string H, .int .i64 K, .string P] 24)).alloc (.cells #[.string ⟨#[]⟩, .int .i64 0, .string ⟨#[]⟩] 24) = W0 at hU0 hR0 ⊢
  generalize w.heap.size + 1 = G at hR0 ⊢
  go_wp2_with (refine ldU hU0.cell rfl (.tmp 2) rfl rfl ?_)
  refine (cRi _ hU0.below).mono ?_
  rintro e W1 ⟨rfl, hb1⟩
  have hU1 := hU0.later hb1
  have hR1 := hR0.later hb1
  clear hU00 hU0 hR0 hb1 cRi
  go_wp2_with fail
  refine (cLo _).mono ?_
  rintro e W2 ⟨rfl, hb2⟩
  have hR2 := hR1.later hb2
  go_wp2_with (refine stU hR2 rfl (.tmp 4) (.tmp 14) rfl _ _ _ rfl rfl ?_; intro W9 hR9 _)
  (try simp only [Exit.inBlock, Exit.then])
  refine ret_uri rfl G _ _ _ rfl hR9.cell rfl ?_
  exact ⟨by rfl, hR9.below⟩

set_option maxHeartbeats 3200000 in
set_option maxRecDepth 100000 in
theorem res_empty (u : Tg.U) (r : List UInt8) (w : World) (hh : u.host.length ≤ 90000) (hp : u.path.length ≤ 80000) (hk : u.port ≤ 9223372036854775807) (hr : r.length ≤ 90000) (hm : MaxOk w) (hT : Tabs w) (hri : Tg.right u = true) (h8 : ¬ 8000 < r.length) (h0 : r = []) :
    Calls Tryz.prog 16 #[uval u, .string (str r)] w fun e w' => e = .returned (ures (u, 0)) ∧ Below w.heap.size w w' := by
  have cRi := fun (W : World) (hb : Below w.heap.size w W) => Right_u u W (by omega) (by omega) hk (hm.later hb) (hT.later hb)
  rw [uval_u] at cRi
  have cLo := fun w => long_one (str r) r w rfl
  have hU00 := Res.start w (.string (str u.host)) (.int .i64 u.port) (.string (str u.path))
  rw [hri] at cRi
  rw [decide_eq_false h8] at cLo
  have hok := Tg.ok_of hri
  have hok2 : Hid (Tg.Ok u) := hok
  obtain ⟨pt, hpt⟩ := hok.head
  have hps := str_size u.path
  have cQm := fun (W : World) => ahead_qm (str u.path) W (by omega)
  rw [str_list] at cQm
  have hNl := Tg.ahead_le Tg.qm u.path
  obtain ⟨N, hN⟩ : ∃ N, N = Tg.ahead Tg.qm u.path := ⟨_, rfl⟩
  rw [← hN] at cQm hNl
  have hNs : (N : Int) ≤ (str u.path).size := by omega
  have eP : (str u.path).extract 0 N = str (u.path.take N) := by
    refine str_same ?_
    rw [Lib.extract_data, str_list]; simp
  have HP0 := Lib.hid hpt
  have HPN := Lib.hid hN
  have HPL := Lib.hid hp
  have HM := Lib.hid hm
  have HT := Lib.hid hT
  have HHL := Lib.hid hh
  have cAt := fun (W : World) (hb : Below w.heap.size w W) => at_s u pt W (by omega) (by rw [hpt] at hp; simp at hp; omega) (hm.later hb) (hT.later hb)
  rw [← hpt, hok.at] at cAt
  have e1 : ures (u, 0) = .tuple #[.agg #[.string (str u.host), .int .i64 u.port, .string (str u.path)], .int .i64 0] := rfl
  rw [e1] at cAt ⊢
  rw [uval_u] at cAt ⊢
  subst h0
  have e0 : str [] = ⟨#[]⟩ := rfl
  rw [e0] at cLo ⊢
  clear hm hT hri hh hp hk hr h8 hok hpt hN hNl eP hps e0 e1
  generalize str u.host = H at *
  generalize str u.path = P at *
  generalize u.port = K at *
  go_enter Tryz.func16, Tryz.ntmps16
  go_upto_region 1 with fail
  have hU0 := hU00.alloc (.cells #[.string ⟨#[]⟩, .int .i64 0, .string ⟨#[]⟩] 24)
  have hR0 : Res w (w.heap.size + 1) ((w.alloc (.cells #[.string H, .int .i64 K, .string P] 24)).alloc (.cells #[.string ⟨#[]⟩, .int .i64 0, .string ⟨#[]⟩] 24)) (.string ⟨#[]⟩) (.int .i64 0) (.string ⟨#[]⟩) :=
    ⟨heap_alloc2_new w _ _, hU0.below, by omega⟩
  generalize (w.alloc (.cells #[.string H, .int .i64 K, .string P] 24)).alloc (.cells #[.string ⟨#[]⟩, .int .i64 0, .string ⟨#[]⟩] 24) = W0 at hU0 hR0 ⊢
  generalize w.heap.size + 1 = G at hR0 ⊢
  go_wp2_with (refine ldU hU0.cell rfl (.tmp 2) rfl rfl ?_)
  refine (cRi _ hU0.below).mono ?_
  rintro e W1 ⟨rfl, hb1⟩
  have hU1 := hU0.later hb1
  have hR1 := hR0.later hb1
  clear hU00 hU0 hR0 hb1 cRi
  go_wp2_with fail
  refine (cLo _).mono ?_
  rintro e W2 ⟨rfl, hb2⟩
  have hU2 := hU1.later hb2
  have hR2 := hR1.later hb2
  clear hU1 hR1 hb2 cLo
  go_upto_region 5 with fail
  have k2 := fun p : LateOf W2 => p.cell (box_cell hU2.cell).2.2
  have GQ := fun p : LateOf W2 => late p (cQm p.w)
  refine wp_region_late (by kernel_rfl) (by kernel_rfl) ?_
  quiet_step (fail)
  quiet_step (fail)
  quiet_step (fail)
  quiet_step (fail)
  quiet_step ((go_at_call 21; exact GQ _))
  quiet_step (fail)
  quiet_step (fail)
  refine wpQuiet_nil ?_
  rintro W3 ⟨p, rfl⟩
  have hU3 := hU2.later p.h
  have hR3 := hR2.later p.h
  generalize p.w = W3 at hU3 hR3 ⊢
  clear k2 GQ hU2 hR2 cQm
  obtain ⟨c0, c1, c2⟩ := box_cell hU3.cell
  go_wp2_with (refine ldU hU3.cell rfl (.tmp 2) rfl rfl ?_)
  refine (cAt _ hU3.below).mono ?_
  rintro e W4 ⟨rfl, hb4⟩
  have hR4 := hR3.later hb4
  go_wp2_with (refine stU hR4 rfl (.tmp 4) (.tmp 28) rfl _ _ _ rfl rfl ?_; intro W9 hR9 _)
  (try simp only [Exit.inBlock, Exit.then])
  refine ret_uri rfl G _ _ _ rfl hR9.cell rfl ?_
  exact ⟨by rfl, hR9.below⟩

set_option maxHeartbeats 3200000 in
set_option maxRecDepth 100000 in
theorem res_http (u : Tg.U) (r : List UInt8) (w : World) (hh : u.host.length ≤ 90000) (hp : u.path.length ≤ 80000) (hk : u.port ≤ 9223372036854775807) (hr : r.length ≤ 90000) (hm : MaxOk w) (hT : Tabs w) (hri : Tg.right u = true) (h8 : ¬ 8000 < r.length) (h0 : r ≠ []) (hht : Tg.http r = true) :
    Calls Tryz.prog 16 #[uval u, .string (str r)] w fun e w' => e = .returned (ures (Tg.parse r)) ∧ Below w.heap.size w w' := by
  have cRi := fun (W : World) (hb : Below w.heap.size w W) => Right_u u W (by omega) (by omega) hk (hm.later hb) (hT.later hb)
  rw [uval_u] at cRi
  have cLo := fun w => long_one (str r) r w rfl
  have hU00 := Res.start w (.string (str u.host)) (.int .i64 u.port) (.string (str u.path))
  rw [hri] at cRi
  rw [decide_eq_false h8] at cLo
  have hok := Tg.ok_of hri
  have hok2 : Hid (Tg.Ok u) := hok
  obtain ⟨pt, hpt⟩ := hok.head
  have hps := str_size u.path
  have cQm := fun (W : World) => ahead_qm (str u.path) W (by omega)
  rw [str_list] at cQm
  have hNl := Tg.ahead_le Tg.qm u.path
  obtain ⟨N, hN⟩ : ∃ N, N = Tg.ahead Tg.qm u.path := ⟨_, rfl⟩
  rw [← hN] at cQm hNl
  have hNs : (N : Int) ≤ (str u.path).size := by omega
  have eP : (str u.path).extract 0 N = str (u.path.take N) := by
    refine str_same ?_
    rw [Lib.extract_data, str_list]; simp
  have HP0 := Lib.hid hpt
  have HPN := Lib.hid hN
  have HPL := Lib.hid hp
  have HM := Lib.hid hm
  have HT := Lib.hid hT
  have HHL := Lib.hid hh
  have b0 : (str r).toList.isEmpty = false := by
    rw [str_toList]
    cases r with
    | nil => exact absurd rfl h0
    | cons _ _ => rfl
  have cAb := fun W => absolute_s (str r) W (by rw [str_size]; omega)
  rw [str_list, hht] at cAb
  have cPs := fun (W : World) (hb : Below w.heap.size w W) => Parse_s r W (by omega) (hm.later hb) (hT.later hb)
  obtain ⟨⟨⟨ra, rb, rc⟩, rd⟩, hres⟩ : ∃ x, Tg.parse r = x := ⟨_, rfl⟩
  have e1 : ures (⟨ra, rb, rc⟩, rd) = .tuple #[.agg #[.string (str ra), .int .i64 rb, .string (str rc)], .int .i64 rd] := rfl
  rw [hres, e1] at cPs ⊢
  clear hres e1 eP
  rw [uval_u]
  clear hm hT hri hh hp hk hr h8 hok hpt hN hNl hps
  generalize str u.host = H at *
  generalize str u.path = P at *
  generalize u.port = K at *
  generalize str r = s at *
  go_enter Tryz.func16, Tryz.ntmps16
  go_upto_region 1 with fail
  have hU0 := hU00.alloc (.cells #[.string ⟨#[]⟩, .int .i64 0, .string ⟨#[]⟩] 24)
  have hR0 : Res w (w.heap.size + 1) ((w.alloc (.cells #[.string H, .int .i64 K, .string P] 24)).alloc (.cells #[.string ⟨#[]⟩, .int .i64 0, .string ⟨#[]⟩] 24)) (.string ⟨#[]⟩) (.int .i64 0) (.string ⟨#[]⟩) :=
    ⟨heap_alloc2_new w _ _, hU0.below, by omega⟩
  generalize (w.alloc (.cells #[.string H, .int .i64 K, .string P] 24)).alloc (.cells #[.string ⟨#[]⟩, .int .i64 0, .string ⟨#[]⟩] 24) = W0 at hU0 hR0 ⊢
  generalize w.heap.size + 1 = G at hR0 ⊢
  go_wp2_with (refine ldU hU0.cell rfl (.tmp 2) rfl rfl ?_)
  refine (cRi _ hU0.below).mono ?_
  rintro e W1 ⟨rfl, hb1⟩
  have hU1 := hU0.later hb1
  have hR1 := hR0.later hb1
  clear hU00 hU0 hR0 hb1 cRi
  go_wp2_with fail
  refine (cLo _).mono ?_
  rintro e W2 ⟨rfl, hb2⟩
  have hU2 := hU1.later hb2
  have hR2 := hR1.later hb2
  clear hU1 hR1 hb2 cLo
  go_upto_region 5 with fail
  have k2 := fun p : LateOf W2 => p.cell (box_cell hU2.cell).2.2
  have GQ := fun p : LateOf W2 => late p (cQm p.w)
  refine wp_region_late (by kernel_rfl) (by kernel_rfl) ?_
  quiet_step (fail)
  quiet_step (fail)
  quiet_step (fail)
  quiet_step (fail)
  quiet_step ((go_at_call 21; exact GQ _))
  quiet_step (fail)
  quiet_step (fail)
  refine wpQuiet_nil ?_
  rintro W3 ⟨p, rfl⟩
  have hU3 := hU2.later p.h
  have hR3 := hR2.later p.h
  generalize p.w = W3 at hU3 hR3 ⊢
  clear k2 GQ hU2 hR2 cQm
  go_wp2_with fail
  refine (cAb _).mono ?_
  rintro e W4 ⟨rfl, hb4⟩
  have hU4 := hU3.later hb4
  have hR4 := hR3.later hb4
  clear hU3 hR3 hb4 cAb
  go_wp2_with fail
  refine (cPs _ hU4.below).mono ?_
  rintro e W6 ⟨rfl, hb6⟩
  have hR6 := hR4.later hb6
  go_wp2_with (refine stU hR6 rfl (.tmp 4) (.tmp 35) rfl _ _ _ rfl rfl ?_; intro W9 hR9 _)
  (try simp only [Exit.inBlock, Exit.then])
  refine ret_uri rfl G _ _ _ rfl hR9.cell rfl ?_
  exact ⟨by rfl, hR9.below⟩

set_option maxHeartbeats 3200000 in
set_option maxRecDepth 100000 in
theorem res_two (u : Tg.U) (r : List UInt8) (w : World) (hh : u.host.length ≤ 90000) (hp : u.path.length ≤ 80000) (hk : u.port ≤ 9223372036854775807) (hr : r.length ≤ 90000) (hm : MaxOk w) (hT : Tabs w) (hri : Tg.right u = true) (h8 : ¬ 8000 < r.length) (h0 : r ≠ []) (hht : Tg.http r = false) (h2 : r.take 2 = [47, 47]) :
    Calls Tryz.prog 16 #[uval u, .string (str r)] w fun e w' => e = .returned (ures (Tg.parse (Tg.httpT.take 5 ++ r))) ∧ Below w.heap.size w w' := by
  have cRi := fun (W : World) (hb : Below w.heap.size w W) => Right_u u W (by omega) (by omega) hk (hm.later hb) (hT.later hb)
  rw [uval_u] at cRi
  have cLo := fun w => long_one (str r) r w rfl
  have hU00 := Res.start w (.string (str u.host)) (.int .i64 u.port) (.string (str u.path))
  rw [hri] at cRi
  rw [decide_eq_false h8] at cLo
  have hok := Tg.ok_of hri
  have hok2 : Hid (Tg.Ok u) := hok
  obtain ⟨pt, hpt⟩ := hok.head
  have hps := str_size u.path
  have cQm := fun (W : World) => ahead_qm (str u.path) W (by omega)
  rw [str_list] at cQm
  have hNl := Tg.ahead_le Tg.qm u.path
  obtain ⟨N, hN⟩ : ∃ N, N = Tg.ahead Tg.qm u.path := ⟨_, rfl⟩
  rw [← hN] at cQm hNl
  have hNs : (N : Int) ≤ (str u.path).size := by omega
  have eP : (str u.path).extract 0 N = str (u.path.take N) := by
    refine str_same ?_
    rw [Lib.extract_data, str_list]; simp
  have HP0 := Lib.hid hpt
  have HPN := Lib.hid hN
  have HPL := Lib.hid hp
  have HM := Lib.hid hm
  have HT := Lib.hid hT
  have HHL := Lib.hid hh
  have b0 : (str r).toList.isEmpty = false := by
    rw [str_toList]
    cases r with
    | nil => exact absurd rfl h0
    | cons _ _ => rfl
  have cAb := fun W => absolute_s (str r) W (by rw [str_size]; omega)
  rw [str_list, hht] at cAb
  have cPt := fun (W : World) => pre_two (str r) r rfl W
  rw [decide_eq_true h2] at cPt
  have cPs := fun (W : World) (hb : Below w.heap.size w W) => Parse_s (Tg.httpT.take 5 ++ r) W (by have : (Tg.httpT.take 5).length = 5 := rfl; rw [List.length_append]; omega) (hm.later hb) (hT.later hb)
  have es : (⟨#[104, 116, 116, 112, 58]⟩ : ByteArray) ++ str r = str (Tg.httpT.take 5 ++ r) := str_same (by rw [app_data, str_list]; rfl)
  rw [← es] at cPs
  have hzz : (str r).size ≤ 90000 := by rw [str_size]; exact hr
  obtain ⟨⟨⟨ra, rb, rc⟩, rd⟩, hres⟩ : ∃ x, Tg.parse (Tg.httpT.take 5 ++ r) = x := ⟨_, rfl⟩
  have e1 : ures (⟨ra, rb, rc⟩, rd) = .tuple #[.agg #[.string (str ra), .int .i64 rb, .string (str rc)], .int .i64 rd] := rfl
  rw [hres, e1] at cPs ⊢
  clear hres e1 eP es h2
  rw [uval_u]
  clear hm hT hri hh hp hk hr h8 hok hpt hN hNl hps
  generalize str u.host = H at *
  generalize str u.path = P at *
  generalize u.port = K at *
  generalize str r = s at *
  go_enter Tryz.func16, Tryz.ntmps16
  go_upto_region 1 with fail
  have hU0 := hU00.alloc (.cells #[.string ⟨#[]⟩, .int .i64 0, .string ⟨#[]⟩] 24)
  have hR0 : Res w (w.heap.size + 1) ((w.alloc (.cells #[.string H, .int .i64 K, .string P] 24)).alloc (.cells #[.string ⟨#[]⟩, .int .i64 0, .string ⟨#[]⟩] 24)) (.string ⟨#[]⟩) (.int .i64 0) (.string ⟨#[]⟩) :=
    ⟨heap_alloc2_new w _ _, hU0.below, by omega⟩
  generalize (w.alloc (.cells #[.string H, .int .i64 K, .string P] 24)).alloc (.cells #[.string ⟨#[]⟩, .int .i64 0, .string ⟨#[]⟩] 24) = W0 at hU0 hR0 ⊢
  generalize w.heap.size + 1 = G at hR0 ⊢
  go_wp2_with (refine ldU hU0.cell rfl (.tmp 2) rfl rfl ?_)
  refine (cRi _ hU0.below).mono ?_
  rintro e W1 ⟨rfl, hb1⟩
  have hU1 := hU0.later hb1
  have hR1 := hR0.later hb1
  clear hU00 hU0 hR0 hb1 cRi
  go_wp2_with fail
  refine (cLo _).mono ?_
  rintro e W2 ⟨rfl, hb2⟩
  have hU2 := hU1.later hb2
  have hR2 := hR1.later hb2
  clear hU1 hR1 hb2 cLo
  go_upto_region 5 with fail
  have k2 := fun p : LateOf W2 => p.cell (box_cell hU2.cell).2.2
  have GQ := fun p : LateOf W2 => late p (cQm p.w)
  refine wp_region_late (by kernel_rfl) (by kernel_rfl) ?_
  quiet_step (fail)
  quiet_step (fail)
  quiet_step (fail)
  quiet_step (fail)
  quiet_step ((go_at_call 21; exact GQ _))
  quiet_step (fail)
  quiet_step (fail)
  refine wpQuiet_nil ?_
  rintro W3 ⟨p, rfl⟩
  have hU3 := hU2.later p.h
  have hR3 := hR2.later p.h
  generalize p.w = W3 at hU3 hR3 ⊢
  clear k2 GQ hU2 hR2 cQm
  go_wp2_with fail
  refine (cAb _).mono ?_
  rintro e W4 ⟨rfl, hb4⟩
  have hU4 := hU3.later hb4
  have hR4 := hR3.later hb4
  clear hU3 hR3 hb4 cAb
  go_wp2_with fail
  refine (cPt _).mono ?_
  rintro e W5 ⟨rfl, rfl⟩
  go_wp2_with fail
  refine (cPs _ hU4.below).mono ?_
  rintro e W6 ⟨rfl, hb6⟩
  have hR6 := hR4.later hb6
  go_wp2_with (refine stU hR6 rfl (.tmp 4) (.tmp 43) rfl _ _ _ rfl rfl ?_; intro W9 hR9 _)
  (try simp only [Exit.inBlock, Exit.then])
  refine ret_uri rfl G _ _ _ rfl hR9.cell rfl ?_
  exact ⟨by rfl, hR9.below⟩

end Go.Proofs.YtlikjfemkadciaaGreatDoor
