/- The document's own answer for package target: where references lead. -/
import Derived.Test.YtlikjfemkadciaaGreatDoorTg27
namespace Go.Proofs.YtlikjfemkadciaaGreatDoor
open Go.RowKit

theorem upto_facts (A : ByteArray) (l : List UInt8) (hl : A.data.toList = l) (h : (47 : UInt8) ∈ l) : ∃ q1, 1 ≤ q1 ∧ q1 ≤ A.size ∧ (∀ j (hj : j < A.size), j + 1 = q1 → A[j] = 47) ∧ (∀ j (hj : j < A.size), q1 ≤ j → A[j] ≠ 47) ∧ A.extract 0 q1 = str (Tg.upto l) := by
  obtain ⟨b, a, h1, h2⟩ := List.eq_append_cons_of_mem (a := (47 : UInt8)) (List.mem_reverse.2 h)
  have e : l = a.reverse ++ 47 :: b.reverse := by
    have := congrArg List.reverse h1
    rw [List.reverse_reverse] at this
    rw [this]; simp
  have hb : ∀ c ∈ b.reverse, c ≠ 47 := fun c hc e2 => h2 (by rw [← e2]; exact List.mem_reverse.1 hc)
  rw [e] at hl
  obtain ⟨q, hq, g1, g2, g3, g4⟩ := last_facts A _ _ hl hb
  refine ⟨q + 1, by omega, by omega, ?_, fun j hj h => g2 j hj (by omega), ?_⟩
  · intro j hj h
    obtain rfl : j = q := by omega
    exact g3 hj
  · refine str_same ?_
    rw [Lib.extract_data, hl, e, upto_last _ _ hb, hq]
    simp [List.take_append]
    exact List.take_of_length_le (by simp)
theorem two_slashes {r : List UInt8} (h : r.take 2 = [47, 47]) : ∃ t, r = 47 :: 47 :: t := by
  match r, h with
  | [], h => cases h
  | [c], h => cases h
  | c :: d :: t, h =>
    have e := List.cons.inj h
    have e2 := List.cons.inj e.2
    obtain rfl := e.1
    obtain rfl := e2.1
    exact ⟨t, rfl⟩
theorem begins_47 {t : List UInt8} (h : t.head? = some 47) : Tg.Begins t ∧ Tg.slash t = t := ⟨.inr (.inl h), by unfold Tg.slash; rw [if_pos h]⟩

set_option maxHeartbeats 6400000 in
set_option maxRecDepth 100000 in
theorem rres_arg (u : Tg.U) (r : List UInt8) (w : World) (hh : u.host.length ≤ 40000) (hp : u.path.length ≤ 40000) (hk : u.port ≤ 9223372036854775807) (_hr : r.length ≤ 80000) (hri : Tg.right u = false) :
    Calls Tryz.prog 17 #[uval u, .string (str r)] w fun e w' => e = .returned (ures (Tg.zero, 2)) ∧ Below w.heap.size w w' := by
  have cRi := fun (W : World) => rRight_u u W hh hp hk
  rw [uval_u] at cRi
  have hU00 := Res.start w (.string (str u.host)) (.int .i64 u.port) (.string (str u.path))
  rw [hri] at cRi
  clear hri hh hp hk _hr
  rw [uval_u]
  generalize str u.host = H at *
  generalize u.port = K at *
  generalize str u.path = P at *
  generalize str r = s at *
  go_enter Tryz.func17, Tryz.ntmps17
  go_upto_region 1 with fail
  have hU0 := hU00.alloc (.cells #[.string ⟨#[]⟩, .int .i64 0, .string ⟨#[]⟩] 24)
  have hR0 : Res w (w.heap.size + 1) ((w.alloc (.cells #[.string H, .int .i64 K, .string P] 24)).alloc (.cells #[.string ⟨#[]⟩, .int .i64 0, .string ⟨#[]⟩] 24)) (.string ⟨#[]⟩) (.int .i64 0) (.string ⟨#[]⟩) :=
    ⟨heap_alloc2_new w _ _, hU0.below, by omega⟩
  generalize (w.alloc (.cells #[.string H, .int .i64 K, .string P] 24)).alloc (.cells #[.string ⟨#[]⟩, .int .i64 0, .string ⟨#[]⟩] 24) = W0 at hU0 hR0 ⊢
  generalize w.heap.size + 1 = G at hR0 ⊢
  go_wp2_with (refine ldU hU0.cell rfl (.tmp 2) rfl rfl ?_)
  refine (cRi _).mono ?_
  rintro e W1 ⟨rfl, hb1⟩
  have hU1 := hU0.later hb1
  have hR1 := hR0.later hb1
  clear hU00 hU0 hR0 hb1 cRi
  go_wp2_with (refine stU hR1 rfl (.tmp 4) (.tmp 13) rfl _ _ _ rfl rfl ?_; intro W9 hR9 _)
  (try simp only [Exit.inBlock, Exit.then])
  refine ret_uri rfl G _ _ _ rfl hR9.cell rfl ?_
  exact ⟨by rfl, hR9.below⟩

set_option maxHeartbeats 6400000 in
set_option maxRecDepth 100000 in
theorem rres_long (u : Tg.U) (r : List UInt8) (w : World) (hh : u.host.length ≤ 40000) (hp : u.path.length ≤ 40000) (hk : u.port ≤ 9223372036854775807) (hr : r.length ≤ 80000) (hri : Tg.right u = true) (h8 : 8000 < r.length) :
    Calls Tryz.prog 17 #[uval u, .string (str r)] w fun e w' => e = .returned (ures (Tg.zero, 12)) ∧ Below w.heap.size w w' := by
  have cRi := fun (W : World) => rRight_u u W hh hp hk
  rw [uval_u] at cRi
  have hU00 := Res.start w (.string (str u.host)) (.int .i64 u.port) (.string (str u.path))
  rw [hri] at cRi
  have i8 : (8000 : Int) < (str r).size := by rw [str_size]; omega
  clear hri hh hp hk hr h8
  rw [uval_u]
  generalize str u.host = H at *
  generalize u.port = K at *
  generalize str u.path = P at *
  generalize str r = s at *
  go_enter Tryz.func17, Tryz.ntmps17
  go_upto_region 1 with fail
  have hU0 := hU00.alloc (.cells #[.string ⟨#[]⟩, .int .i64 0, .string ⟨#[]⟩] 24)
  have hR0 : Res w (w.heap.size + 1) ((w.alloc (.cells #[.string H, .int .i64 K, .string P] 24)).alloc (.cells #[.string ⟨#[]⟩, .int .i64 0, .string ⟨#[]⟩] 24)) (.string ⟨#[]⟩) (.int .i64 0) (.string ⟨#[]⟩) :=
    ⟨heap_alloc2_new w _ _, hU0.below, by omega⟩
  generalize (w.alloc (.cells #[.string H, .int .i64 K, .string P] 24)).alloc (.cells #[.string ⟨#[]⟩, .int .i64 0, .string ⟨#[]⟩] 24) = W0 at hU0 hR0 ⊢
  generalize w.heap.size + 1 = G at hR0 ⊢
  go_wp2_with (refine ldU hU0.cell rfl (.tmp 2) rfl rfl ?_)
  refine (cRi _).mono ?_
  rintro e W1 ⟨rfl, hb1⟩
  have hU1 := hU0.later hb1
  have hR1 := hR0.later hb1
  clear hU00 hU0 hR0 hb1 cRi
  go_wp2_with (refine stU hR1 rfl (.tmp 4) (.tmp 17) rfl _ _ _ rfl rfl ?_; intro W9 hR9 _)
  (try simp only [Exit.inBlock, Exit.then])
  refine ret_uri rfl G _ _ _ rfl hR9.cell rfl ?_
  exact ⟨by rfl, hR9.below⟩

set_option maxHeartbeats 6400000 in
set_option maxRecDepth 100000 in
theorem rres_empty (u : Tg.U) (r : List UInt8) (w : World) (hh : u.host.length ≤ 40000) (hp : u.path.length ≤ 40000) (hk : u.port ≤ 9223372036854775807) (hr : r.length ≤ 80000) (hri : Tg.right u = true) (_h8 : ¬ 8000 < r.length) (h0 : r = []) :
    Calls Tryz.prog 17 #[uval u, .string (str r)] w fun e w' => e = .returned (ures (u, 0)) ∧ Below w.heap.size w w' := by
  have cRi := fun (W : World) => rRight_u u W hh hp hk
  rw [uval_u] at cRi
  have hU00 := Res.start w (.string (str u.host)) (.int .i64 u.port) (.string (str u.path))
  rw [hri] at cRi
  subst h0
  rw [show ures (u, 0) = .tuple #[.agg #[.string (str u.host), .int .i64 u.port, .string (str u.path)], .int .i64 0] from rfl]
  rw [show str [] = ⟨#[]⟩ from rfl]
  clear hri hh hp hk hr _h8
  rw [uval_u]
  generalize str u.host = H at *
  generalize u.port = K at *
  generalize str u.path = P at *
  go_enter Tryz.func17, Tryz.ntmps17
  go_upto_region 1 with fail
  have hU0 := hU00.alloc (.cells #[.string ⟨#[]⟩, .int .i64 0, .string ⟨#[]⟩] 24)
  have hR0 : Res w (w.heap.size + 1) ((w.alloc (.cells #[.string H, .int .i64 K, .string P] 24)).alloc (.cells #[.string ⟨#[]⟩, .int .i64 0, .string ⟨#[]⟩] 24)) (.string ⟨#[]⟩) (.int .i64 0) (.string ⟨#[]⟩) :=
    ⟨heap_alloc2_new w _ _, hU0.below, by omega⟩
  generalize (w.alloc (.cells #[.string H, .int .i64 K, .string P] 24)).alloc (.cells #[.string ⟨#[]⟩, .int .i64 0, .string ⟨#[]⟩] 24) = W0 at hU0 hR0 ⊢
  generalize w.heap.size + 1 = G at hR0 ⊢
  go_wp2_with (refine ldU hU0.cell rfl (.tmp 2) rfl rfl ?_)
  refine (cRi _).mono ?_
  rintro e W1 ⟨rfl, hb1⟩
  have hU1 := hU0.later hb1
  have hR1 := hR0.later hb1
  clear hU00 hU0 hR0 hb1 cRi
  go_wp2_with (first | (refine ldU hU1.cell rfl (.tmp 2) rfl rfl ?_) | (refine stU hR1 rfl (.tmp 4) (.tmp 20) rfl _ _ _ rfl rfl ?_; intro W9 hR9 _))
  (try simp only [Exit.inBlock, Exit.then])
  refine ret_uri rfl G _ _ _ rfl hR9.cell rfl ?_
  exact ⟨by rfl, hR9.below⟩

set_option maxHeartbeats 6400000 in
set_option maxRecDepth 100000 in
theorem rres_http (u : Tg.U) (r : List UInt8) (w : World) (hh : u.host.length ≤ 40000) (hp : u.path.length ≤ 40000) (hk : u.port ≤ 9223372036854775807) (hr : r.length ≤ 80000) (hri : Tg.right u = true) (h8 : ¬ 8000 < r.length) (h0 : r ≠ []) (hht : Tg.http r = true) :
    Calls Tryz.prog 17 #[uval u, .string (str r)] w fun e w' => e = .returned (ures (Tg.parse r)) ∧ Below w.heap.size w w' := by
  have cRi := fun (W : World) => rRight_u u W hh hp hk
  rw [uval_u] at cRi
  have hU00 := Res.start w (.string (str u.host)) (.int .i64 u.port) (.string (str u.path))
  rw [hri] at cRi
  have i8 : ¬ (8000 : Int) < (str r).size := by rw [str_size]; omega
  obtain ⟨n1, n2, n3⟩ := list_ne (a := str r) (l := []) (by rw [str_list]; exact h0)
  have cH := fun (W : World) => rhttp_s r W (by omega)
  rw [hht] at cH
  have cP := fun (W : World) => rParse_s r W (by omega)
  obtain ⟨⟨⟨ra, rb, rc⟩, rd⟩, hres⟩ : ∃ x, Tg.parse r = x := ⟨_, rfl⟩
  rw [hres, ures_u] at cP
  rw [hres, ures_u]
  clear hres
  clear hri hh hp hk hr h8 h0 hht
  rw [uval_u]
  generalize str u.host = H at *
  generalize u.port = K at *
  generalize str u.path = P at *
  generalize str r = s at *
  go_enter Tryz.func17, Tryz.ntmps17
  go_upto_region 1 with fail
  have hU0 := hU00.alloc (.cells #[.string ⟨#[]⟩, .int .i64 0, .string ⟨#[]⟩] 24)
  have hR0 : Res w (w.heap.size + 1) ((w.alloc (.cells #[.string H, .int .i64 K, .string P] 24)).alloc (.cells #[.string ⟨#[]⟩, .int .i64 0, .string ⟨#[]⟩] 24)) (.string ⟨#[]⟩) (.int .i64 0) (.string ⟨#[]⟩) :=
    ⟨heap_alloc2_new w _ _, hU0.below, by omega⟩
  generalize (w.alloc (.cells #[.string H, .int .i64 K, .string P] 24)).alloc (.cells #[.string ⟨#[]⟩, .int .i64 0, .string ⟨#[]⟩] 24) = W0 at hU0 hR0 ⊢
  generalize w.heap.size + 1 = G at hR0 ⊢
  go_wp2_with (refine ldU hU0.cell rfl (.tmp 2) rfl rfl ?_)
  refine (cRi _).mono ?_
  rintro e W1 ⟨rfl, hb1⟩
  have hU1 := hU0.later hb1
  have hR1 := hR0.later hb1
  clear hU00 hU0 hR0 hb1 cRi
  go_wp2_with fail
  refine (cH _).mono ?_
  rintro e W2 ⟨rfl, hb2⟩
  have hU2 := hU1.later hb2
  have hR2 := hR1.later hb2
  clear hU1 hR1 hb2 cH
  go_wp2_with fail
  refine (cP _).mono ?_
  rintro e W3 ⟨rfl, hb3⟩
  have hR3 := hR2.later hb3
  go_wp2_with (refine stU hR3 rfl (.tmp 4) (.tmp 25) rfl _ _ _ rfl rfl ?_; intro W9 hR9 _)
  (try simp only [Exit.inBlock, Exit.then])
  refine ret_uri rfl G _ _ _ rfl hR9.cell rfl ?_
  exact ⟨by rfl, hR9.below⟩

set_option maxHeartbeats 6400000 in
set_option maxRecDepth 100000 in
theorem rres_two (u : Tg.U) (r : List UInt8) (w : World) (hh : u.host.length ≤ 40000) (hp : u.path.length ≤ 40000) (hk : u.port ≤ 9223372036854775807) (hr : r.length ≤ 80000) (hri : Tg.right u = true) (h8 : ¬ 8000 < r.length) (h0 : r ≠ []) (hht : Tg.http r = false) (h2 : r.take 2 = [47, 47]) :
    Calls Tryz.prog 17 #[uval u, .string (str r)] w fun e w' => e = .returned (ures (Tg.parse (Tg.httpT.take 5 ++ r))) ∧ Below w.heap.size w w' := by
  have cRi := fun (W : World) => rRight_u u W hh hp hk
  rw [uval_u] at cRi
  have hU00 := Res.start w (.string (str u.host)) (.int .i64 u.port) (.string (str u.path))
  rw [hri] at cRi
  have i8 : ¬ (8000 : Int) < (str r).size := by rw [str_size]; omega
  obtain ⟨n1, n2, n3⟩ := list_ne (a := str r) (l := []) (by rw [str_list]; exact h0)
  have cH := fun (W : World) => rhttp_s r W (by omega)
  rw [hht] at cH
  have cP := fun (W : World) => rParse_s (Tg.httpT.take 5 ++ r) W (by simp [Tg.httpT]; omega)
  rw [show str (Tg.httpT.take 5 ++ r) = ⟨#[104, 116, 116, 112, 58]⟩ ++ str r from (str_same (by rw [app_data, str_list]; rfl)).symm] at cP
  obtain ⟨⟨⟨ra, rb, rc⟩, rd⟩, hres⟩ : ∃ x, Tg.parse (Tg.httpT.take 5 ++ r) = x := ⟨_, rfl⟩
  rw [hres, ures_u] at cP
  rw [hres, ures_u]
  clear hres
  obtain ⟨t, rfl⟩ := two_slashes h2
  have hz1 : 1 < (str (47 :: 47 :: t)).size := by rw [str_size]; simp
  have hz0 : 0 < (str (47 :: 47 :: t)).size := by omega
  have hz1i : (1 : Int) < (str (47 :: 47 :: t)).size := by omega
  have hz0i : (0 : Int) < (str (47 :: 47 :: t)).size := by omega
  have j0 : (((str (47 :: 47 :: t))[0]'hz0).toNat : Int) = 47 := rfl
  have j1 : (((str (47 :: 47 :: t))[1]'hz1).toNat : Int) = 47 := rfl
  have hzz : (str (47 :: 47 :: t)).size ≤ 80000 := by rw [str_size]; exact hr
  clear hri hh hp hk hr h8 h0 hht h2
  rw [uval_u]
  generalize str u.host = H at *
  generalize u.port = K at *
  generalize str u.path = P at *
  generalize str (47 :: 47 :: t) = s at *
  go_enter Tryz.func17, Tryz.ntmps17
  go_upto_region 1 with fail
  have hU0 := hU00.alloc (.cells #[.string ⟨#[]⟩, .int .i64 0, .string ⟨#[]⟩] 24)
  have hR0 : Res w (w.heap.size + 1) ((w.alloc (.cells #[.string H, .int .i64 K, .string P] 24)).alloc (.cells #[.string ⟨#[]⟩, .int .i64 0, .string ⟨#[]⟩] 24)) (.string ⟨#[]⟩) (.int .i64 0) (.string ⟨#[]⟩) :=
    ⟨heap_alloc2_new w _ _, hU0.below, by omega⟩
  generalize (w.alloc (.cells #[.string H, .int .i64 K, .string P] 24)).alloc (.cells #[.string ⟨#[]⟩, .int .i64 0, .string ⟨#[]⟩] 24) = W0 at hU0 hR0 ⊢
  generalize w.heap.size + 1 = G at hR0 ⊢
  go_wp2_with (refine ldU hU0.cell rfl (.tmp 2) rfl rfl ?_)
  refine (cRi _).mono ?_
  rintro e W1 ⟨rfl, hb1⟩
  have hU1 := hU0.later hb1
  have hR1 := hR0.later hb1
  clear hU00 hU0 hR0 hb1 cRi
  go_wp2_with fail
  refine (cH _).mono ?_
  rintro e W2 ⟨rfl, hb2⟩
  have hU2 := hU1.later hb2
  have hR2 := hR1.later hb2
  clear hU1 hR1 hb2 cH
  go_wp2_with fail
  refine (cP _).mono ?_
  rintro e W3 ⟨rfl, hb3⟩
  have hR3 := hR2.later hb3
  go_wp2_with (refine stU hR3 rfl (.tmp 4) (.tmp 43) rfl _ _ _ rfl rfl ?_; intro W9 hR9 _)
  (try simp only [Exit.inBlock, Exit.then])
  refine ret_uri rfl G _ _ _ rfl hR9.cell rfl ?_
  exact ⟨by rfl, hR9.below⟩

end Go.Proofs.YtlikjfemkadciaaGreatDoor
