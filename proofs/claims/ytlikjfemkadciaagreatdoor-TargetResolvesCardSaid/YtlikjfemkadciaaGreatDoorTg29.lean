/- The document's own answer for package target: where references lead, along the base's path. -/
import Derived.Test.YtlikjfemkadciaaGreatDoorTg28
namespace Go.Proofs.YtlikjfemkadciaaGreatDoor
open Go.RowKit

set_option maxHeartbeats 6400000 in
set_option maxRecDepth 100000 in
theorem rres_slash (u : Tg.U) (r : List UInt8) (w : World) (hh : u.host.length ≤ 40000) (hp : u.path.length ≤ 40000) (hk : u.port ≤ 9223372036854775807) (hr : r.length ≤ 80000) (hri : Tg.right u = true) (h8 : ¬ 8000 < r.length) (h0 : r ≠ []) (hht : Tg.http r = false) (h2 : ¬ r.take 2 = [47, 47]) (h47 : r.head? = some 47) :
    Calls Tryz.prog 17 #[uval u, .string (str r)] w fun e w' => e = .returned (ures (Tg.atU u.host u.port r)) ∧ Below w.heap.size w w' := by
  have cRi := fun (W : World) => rRight_u u W hh hp hk
  rw [uval_u] at cRi
  have hU00 := Res.start w (.string (str u.host)) (.int .i64 u.port) (.string (str u.path))
  rw [hri] at cRi
  have i8 : ¬ (8000 : Int) < (str r).size := by rw [str_size]; omega
  obtain ⟨n1, n2, n3⟩ := list_ne (a := str r) (l := []) (by rw [str_list]; exact h0)
  have cH := fun (W : World) => rhttp_s r W (by omega)
  rw [hht] at cH
  have hok := Tg.ok_of hri
  obtain ⟨pt, hpt⟩ := hok.head
  obtain ⟨N, hN, f1, f2, f3⟩ := ahead_facts Tg.qm (str u.path)
  rw [str_list] at hN
  obtain ⟨A, hA⟩ : ∃ A, A = (str u.path).extract 0 N := ⟨_, rfl⟩
  have hAd : A.data.toList = u.path.take N := by rw [hA, Lib.extract_data, str_list]; simp
  have hAz : A.size = N := by rw [hA]; simp; omega
  have hAP : N = (str u.path).size → A = str u.path := fun e => by rw [hA, e]; exact ByteArray.extract_zero_size
  obtain ⟨N1, hN1⟩ : ∃ N1, N1 = N + 1 := ⟨_, rfl⟩
  have hAh : ∃ a2, u.path.take N = 47 :: a2 := by
    have e : N = Tg.ahead Tg.qm pt + 1 := by rw [hN, hpt, Tg.ahead_miss Tg.qm 47 pt (by decide)]
    exact ⟨pt.take (Tg.ahead Tg.qm pt), by rw [e, hpt]; rfl⟩
  have hPz : (str u.path).size ≤ 40000 := by rw [str_size]; exact hp
  obtain ⟨c, rt, rfl⟩ : ∃ c rt, r = c :: rt := by
    cases r with
    | nil => exact absurd rfl h0
    | cons c rt => exact ⟨c, rt, rfl⟩
  have hz0 : 0 < (str (c :: rt)).size := by rw [str_size]; simp
  have hz0i : (0 : Int) < (str (c :: rt)).size := by omega
  have hzz : (str (c :: rt)).size ≤ 80000 := by rw [str_size]; exact hr
  have hrz := str_size (c :: rt)
  have hx0 : (str (c :: rt))[0]'hz0 = c := rfl
  obtain ⟨hbg, hsl⟩ := begins_47 h47
  have cA := fun (W : World) => rat_s u.host u.port (c :: rt) W (by omega) hbg
  rw [hsl] at cA
  obtain rfl : c = 47 := by simpa using h47
  have i47 : (((str (47 :: rt))[0]'hz0).toNat : Int) = 47 := rfl
  have H9 : Hid (¬ (1 : Int) < (str (47 :: rt)).size ∨ ∃ h1 : 1 < (str (47 :: rt)).size, ((((str (47 :: rt))[1]'h1).toNat : Int) == 47) = false) := Lib.hid (by
    cases rt with
    | nil => left; rw [str_size]; simp
    | cons d rt =>
      right
      refine ⟨by rw [str_size]; simp, ?_⟩
      refine nq8 _ 47 47 rfl ?_
      intro hd
      apply h2
      have e1 : (str (47 :: d :: rt))[1]'(by rw [str_size]; simp) = d := rfl
      rw [e1] at hd
      rw [hd]; rfl)
  obtain ⟨⟨⟨ra, rb, rc⟩, rd⟩, hres⟩ : ∃ x, Tg.atU u.host u.port (47 :: rt) = x := ⟨_, rfl⟩
  rw [hres, ures_u] at cA
  rw [hres, ures_u]
  clear hres
  have hAs : A.size ≤ 40000 := by omega
  have F2 := Lib.hid f2
  have F3 := Lib.hid f3
  have HN1 := Lib.hid hN1
  have HAP := Lib.hid hAP
  have HAZ := Lib.hid hAz
  have eA := hA.symm
  clear f2 f3 hN1 hA hAP hAz hN hri hok hpt hAh hh hp hk hr h8 h0 hht h2 hx0 h47 hbg hsl hAd hrz
  rw [uval_u]
  generalize str u.host = H at *
  generalize u.port = K at *
  generalize str u.path = P at *
  generalize str (47 :: rt) = s at *
  go_enter Tryz.func17, Tryz.ntmps17
  go_upto_region 1 with fail
  have hU0 := hU00.alloc (.cells #[.string ⟨#[]⟩, .int .i64 0, .string ⟨#[]⟩] 24)
  have hR0 : Res w (w.heap.size + 1) ((w.alloc (.cells #[.string H, .int .i64 K, .string P] 24)).alloc (.cells #[.string ⟨#[]⟩, .int .i64 0, .string ⟨#[]⟩] 24)) (.string ⟨#[]⟩) (.int .i64 0) (.string ⟨#[]⟩) :=
    ⟨heap_alloc2_new w _ _, hU0.below, by omega⟩
  generalize (w.alloc (.cells #[.string H, .int .i64 K, .string P] 24)).alloc (.cells #[.string ⟨#[]⟩, .int .i64 0, .string ⟨#[]⟩] 24) = W0 at hU0 hR0 ⊢
  generalize w.heap.size + 1 = G at hR0 ⊢
  go_wp2_with (refine ldU hU0.cell rfl (.tmp 2) rfl rfl ?_)
  refine (cRi _).mono ?_
  rintro e W1 ⟨rfl, hb1⟩
  have hU1 := hU0.later hb1
  have hR1 := hR0.later hb1
  clear hU00 hU0 hR0 hb1 cRi
  go_wp2_with fail
  refine (cH _).mono ?_
  rintro e W2 ⟨rfl, hb2⟩
  have hU2 := hU1.later hb2
  have hR2 := hR1.later hb2
  clear hU1 hR1 hb2 cH
  go_upto_region 9 with fail
  go_cut [39] from 27 to 39 (fun b wx => b = .bool false ∧ W2 = wx)
  case first =>
    rcases H9.out with h9 | ⟨h1, b9⟩
    · go_wp2_with fail
      go_meet
      case rel => exact ⟨rfl, rfl⟩
    · have h1i : (1 : Int) < s.size := by omega
      go_wp2_with fail
      go_meet
      case rel => exact ⟨rfl, rfl⟩
  case rest =>
    obtain ⟨rfl, rfl⟩ := hcut
    have hcb := box_cell hU2.cell
    obtain ⟨k0, k1, k2⟩ := hcb
    go_upto_block 0 with fail
    go_cut [6, 7] from 47 to 59 (fun p i wx => p = .string A ∧ W2 = wx)
    case first =>
      go_wp2_with fail
      go_loop [6, 7] (fun p i => ∃ (k : Nat) (x : ByteArray), p = .string x ∧ i = .int .i64 k ∧ k ≤ N1 ∧ Hid ((k ≤ N ∧ P = x) ∨ (A = x ∧ N1 = k))) (fun _ i => N1 + 1 - (intOf i).toNat)
      case atStart => exact ⟨0, P, rfl, rfl, by omega, Lib.hid (.inl ⟨by omega, rfl⟩)⟩
      case round =>
        obtain ⟨k, x, rfl, rfl, hkN, HC⟩ := hrel
        have hk0 : (0 : Int) ≤ k := by omega
        rcases HC.out with ⟨hk, rfl⟩ | ⟨rfl, rfl⟩
        · clear HC
          by_cases hlt : k < N
          · have hks : k < P.size := by omega
            have hki : (k : Int) < P.size := by omega
            have b63 : ((P[k].toNat : Int) == 63) = false := nq8 P[k] 63 63 rfl (fun e => by have := F2.out k hks hlt; rw [e] at this; cases this)
            go_wp2_with fail
            go_round
            case rel => exact ⟨k + 1, P, rfl, by go_num, by have := HN1.out; omega, Lib.hid (.inl ⟨by omega, rfl⟩)⟩
            case measure => simp [intOf]; omega
          · obtain rfl : k = N := by omega
            by_cases hks : k < P.size
            · have hki : (k : Int) < P.size := by omega
              have hkl : (k : Int) ≤ P.size := by omega
              have i63 := qm_true (F3.out hks)
              go_wp2_with fail
              go_round
              case rel => exact ⟨k + 1, A, rfl, by go_num, by have := HN1.out; omega, Lib.hid (.inr ⟨rfl, HN1.out⟩)⟩
              case measure => simp [intOf]; omega
            · have hki : ¬ ((k : Int) < P.size) := by omega
              go_wp2_with fail
              go_meet
              case rel => exact ⟨by rw [HAP.out (by omega)], rfl⟩
        · have hki : ¬ ((N1 : Int) < A.size) := by have := HN1.out; have := HAZ.out; omega
          clear HC
          go_wp2_with fail
          go_meet
          case rel => exact ⟨rfl, rfl⟩
    case rest =>
      obtain ⟨rfl, rfl⟩ := hcut
      go_wp2_with fail
      refine (cA _).mono ?_
      rintro e W3 ⟨rfl, hb3⟩
      have hR3 := hR2.later hb3
      go_wp2_with (refine stU hR3 rfl (.tmp 4) (.tmp 69) rfl _ _ _ rfl rfl ?_; intro W9 hR9 _)
      (try simp only [Exit.inBlock, Exit.then])
      refine ret_uri rfl G _ _ _ rfl hR9.cell rfl ?_
      exact ⟨by rfl, hR9.below⟩

set_option maxHeartbeats 6400000 in
set_option maxRecDepth 100000 in
theorem rres_query (u : Tg.U) (r : List UInt8) (w : World) (hh : u.host.length ≤ 40000) (hp : u.path.length ≤ 40000) (hk : u.port ≤ 9223372036854775807) (hr : r.length ≤ 80000) (hri : Tg.right u = true) (h8 : ¬ 8000 < r.length) (h0 : r ≠ []) (hht : Tg.http r = false) (h2 : ¬ r.take 2 = [47, 47]) (h63 : r.head? = some 63) :
    Calls Tryz.prog 17 #[uval u, .string (str r)] w fun e w' => e = .returned (ures (Tg.atU u.host u.port (u.path.take (Tg.ahead Tg.qm u.path) ++ r))) ∧ Below w.heap.size w w' := by
  have cRi := fun (W : World) => rRight_u u W hh hp hk
  rw [uval_u] at cRi
  have hU00 := Res.start w (.string (str u.host)) (.int .i64 u.port) (.string (str u.path))
  rw [hri] at cRi
  have i8 : ¬ (8000 : Int) < (str r).size := by rw [str_size]; omega
  obtain ⟨n1, n2, n3⟩ := list_ne (a := str r) (l := []) (by rw [str_list]; exact h0)
  have cH := fun (W : World) => rhttp_s r W (by omega)
  rw [hht] at cH
  have hok := Tg.ok_of hri
  obtain ⟨pt, hpt⟩ := hok.head
  obtain ⟨N, hN, f1, f2, f3⟩ := ahead_facts Tg.qm (str u.path)
  rw [str_list] at hN
  obtain ⟨A, hA⟩ : ∃ A, A = (str u.path).extract 0 N := ⟨_, rfl⟩
  have hAd : A.data.toList = u.path.take N := by rw [hA, Lib.extract_data, str_list]; simp
  have hAz : A.size = N := by rw [hA]; simp; omega
  have hAP : N = (str u.path).size → A = str u.path := fun e => by rw [hA, e]; exact ByteArray.extract_zero_size
  obtain ⟨N1, hN1⟩ : ∃ N1, N1 = N + 1 := ⟨_, rfl⟩
  have hAh : ∃ a2, u.path.take N = 47 :: a2 := by
    have e : N = Tg.ahead Tg.qm pt + 1 := by rw [hN, hpt, Tg.ahead_miss Tg.qm 47 pt (by decide)]
    exact ⟨pt.take (Tg.ahead Tg.qm pt), by rw [e, hpt]; rfl⟩
  have hPz : (str u.path).size ≤ 40000 := by rw [str_size]; exact hp
  obtain ⟨c, rt, rfl⟩ : ∃ c rt, r = c :: rt := by
    cases r with
    | nil => exact absurd rfl h0
    | cons c rt => exact ⟨c, rt, rfl⟩
  have hz0 : 0 < (str (c :: rt)).size := by rw [str_size]; simp
  have hz0i : (0 : Int) < (str (c :: rt)).size := by omega
  have hzz : (str (c :: rt)).size ≤ 80000 := by rw [str_size]; exact hr
  have hrz := str_size (c :: rt)
  have hx0 : (str (c :: rt))[0]'hz0 = c := rfl
  obtain ⟨a2, ha2⟩ := hAh
  rw [← hN]
  obtain ⟨hbg, hsl⟩ := begins_47 (t := u.path.take N ++ c :: rt) (by rw [ha2]; rfl)
  have cA := fun (W : World) => rat_s u.host u.port (u.path.take N ++ c :: rt) W (by rw [List.length_append, List.length_take]; omega) hbg
  rw [hsl, show str (u.path.take N ++ c :: rt) = A ++ str (c :: rt) from (str_same (by rw [app_data, hAd, str_list])).symm] at cA
  obtain rfl : c = 63 := by simpa using h63
  have i63 : (((str (63 :: rt))[0]'hz0).toNat : Int) = 63 := rfl
  have H9 : Hid (((((str (63 :: rt))[0]'hz0).toNat : Int) == 47) = false) := Lib.hid (nq8 63 47 47 rfl (by decide))
  obtain ⟨⟨⟨ra, rb, rc⟩, rd⟩, hres⟩ : ∃ x, Tg.atU u.host u.port (u.path.take N ++ 63 :: rt) = x := ⟨_, rfl⟩
  rw [hres, ures_u] at cA
  rw [hres, ures_u]
  clear hres
  have hAs : A.size ≤ 40000 := by omega
  have F2 := Lib.hid f2
  have F3 := Lib.hid f3
  have HN1 := Lib.hid hN1
  have HAP := Lib.hid hAP
  have HAZ := Lib.hid hAz
  have eA := hA.symm
  clear f2 f3 hN1 hA hAP hAz hN hri hok hpt hh hp hk hr h8 h0 hht h2 hx0 h63 hbg hsl hAd hrz ha2
  rw [uval_u]
  generalize str u.host = H at *
  generalize u.port = K at *
  generalize str u.path = P at *
  generalize str (63 :: rt) = s at *
  go_enter Tryz.func17, Tryz.ntmps17
  go_upto_region 1 with fail
  have hU0 := hU00.alloc (.cells #[.string ⟨#[]⟩, .int .i64 0, .string ⟨#[]⟩] 24)
  have hR0 : Res w (w.heap.size + 1) ((w.alloc (.cells #[.string H, .int .i64 K, .string P] 24)).alloc (.cells #[.string ⟨#[]⟩, .int .i64 0, .string ⟨#[]⟩] 24)) (.string ⟨#[]⟩) (.int .i64 0) (.string ⟨#[]⟩) :=
    ⟨heap_alloc2_new w _ _, hU0.below, by omega⟩
  generalize (w.alloc (.cells #[.string H, .int .i64 K, .string P] 24)).alloc (.cells #[.string ⟨#[]⟩, .int .i64 0, .string ⟨#[]⟩] 24) = W0 at hU0 hR0 ⊢
  generalize w.heap.size + 1 = G at hR0 ⊢
  go_wp2_with (refine ldU hU0.cell rfl (.tmp 2) rfl rfl ?_)
  refine (cRi _).mono ?_
  rintro e W1 ⟨rfl, hb1⟩
  have hU1 := hU0.later hb1
  have hR1 := hR0.later hb1
  clear hU00 hU0 hR0 hb1 cRi
  go_wp2_with fail
  refine (cH _).mono ?_
  rintro e W2 ⟨rfl, hb2⟩
  have hU2 := hU1.later hb2
  have hR2 := hR1.later hb2
  clear hU1 hR1 hb2 cH
  go_upto_region 9 with fail
  go_cut [39] from 27 to 39 (fun b wx => b = .bool false ∧ W2 = wx)
  case first =>
    have b9 := H9.out
    by_cases h1 : (1 : Int) < s.size
    · go_wp2_with fail
      go_meet
      case rel => exact ⟨rfl, rfl⟩
    · go_wp2_with fail
      go_meet
      case rel => exact ⟨rfl, rfl⟩
  case rest =>
    obtain ⟨rfl, rfl⟩ := hcut
    have hcb := box_cell hU2.cell
    obtain ⟨k0, k1, k2⟩ := hcb
    go_upto_block 0 with fail
    go_cut [6, 7] from 47 to 59 (fun p i wx => p = .string A ∧ W2 = wx)
    case first =>
      go_wp2_with fail
      go_loop [6, 7] (fun p i => ∃ (k : Nat) (x : ByteArray), p = .string x ∧ i = .int .i64 k ∧ k ≤ N1 ∧ Hid ((k ≤ N ∧ P = x) ∨ (A = x ∧ N1 = k))) (fun _ i => N1 + 1 - (intOf i).toNat)
      case atStart => exact ⟨0, P, rfl, rfl, by omega, Lib.hid (.inl ⟨by omega, rfl⟩)⟩
      case round =>
        obtain ⟨k, x, rfl, rfl, hkN, HC⟩ := hrel
        have hk0 : (0 : Int) ≤ k := by omega
        rcases HC.out with ⟨hk, rfl⟩ | ⟨rfl, rfl⟩
        · clear HC
          by_cases hlt : k < N
          · have hks : k < P.size := by omega
            have hki : (k : Int) < P.size := by omega
            have b63 : ((P[k].toNat : Int) == 63) = false := nq8 P[k] 63 63 rfl (fun e => by have := F2.out k hks hlt; rw [e] at this; cases this)
            go_wp2_with fail
            go_round
            case rel => exact ⟨k + 1, P, rfl, by go_num, by have := HN1.out; omega, Lib.hid (.inl ⟨by omega, rfl⟩)⟩
            case measure => simp [intOf]; omega
          · obtain rfl : k = N := by omega
            by_cases hks : k < P.size
            · have hki : (k : Int) < P.size := by omega
              have hkl : (k : Int) ≤ P.size := by omega
              have i63 := qm_true (F3.out hks)
              go_wp2_with fail
              go_round
              case rel => exact ⟨k + 1, A, rfl, by go_num, by have := HN1.out; omega, Lib.hid (.inr ⟨rfl, HN1.out⟩)⟩
              case measure => simp [intOf]; omega
            · have hki : ¬ ((k : Int) < P.size) := by omega
              go_wp2_with fail
              go_meet
              case rel => exact ⟨by rw [HAP.out (by omega)], rfl⟩
        · have hki : ¬ ((N1 : Int) < A.size) := by have := HN1.out; have := HAZ.out; omega
          clear HC
          go_wp2_with fail
          go_meet
          case rel => exact ⟨rfl, rfl⟩
    case rest =>
      obtain ⟨rfl, rfl⟩ := hcut
      go_wp2_with fail
      refine (cA _).mono ?_
      rintro e W3 ⟨rfl, hb3⟩
      have hR3 := hR2.later hb3
      go_wp2_with (refine stU hR3 rfl (.tmp 4) (.tmp 82) rfl _ _ _ rfl rfl ?_; intro W9 hR9 _)
      (try simp only [Exit.inBlock, Exit.then])
      refine ret_uri rfl G _ _ _ rfl hR9.cell rfl ?_
      exact ⟨by rfl, hR9.below⟩

theorem take_snoc (l : List UInt8) (k : Nat) (s : ByteArray) (hs : s.data.toList = l) (hk : k < s.size) : l.take (k + 1) = l.take k ++ [s[k]] := by
  have h1 := Lib.data_getElem? s k hk
  rw [hs] at h1
  obtain ⟨h2, h3⟩ := List.getElem?_eq_some_iff.1 h1
  rw [List.take_succ_eq_append_getElem h2, h3]
set_option maxHeartbeats 6400000 in
set_option maxRecDepth 100000 in
theorem rres_other (u : Tg.U) (r : List UInt8) (w : World) (hh : u.host.length ≤ 40000) (hp : u.path.length ≤ 40000) (hk : u.port ≤ 9223372036854775807) (hr : r.length ≤ 80000) (hri : Tg.right u = true) (h8 : ¬ 8000 < r.length) (h0 : r ≠ []) (hht : Tg.http r = false) (h2 : ¬ r.take 2 = [47, 47]) (h47 : ¬ r.head? = some 47) (h63 : ¬ r.head? = some 63) :
    Calls Tryz.prog 17 #[uval u, .string (str r)] w fun e w' => e = .returned (ures (if (r.take (Tg.ahead Tg.sq r)).contains 58 then (Tg.zero, 10) else Tg.atU u.host u.port (Tg.upto (u.path.take (Tg.ahead Tg.qm u.path)) ++ r))) ∧ Below w.heap.size w w' := by
  have cRi := fun (W : World) => rRight_u u W hh hp hk
  rw [uval_u] at cRi
  have hU00 := Res.start w (.string (str u.host)) (.int .i64 u.port) (.string (str u.path))
  rw [hri] at cRi
  have i8 : ¬ (8000 : Int) < (str r).size := by rw [str_size]; omega
  obtain ⟨n1, n2, n3⟩ := list_ne (a := str r) (l := []) (by rw [str_list]; exact h0)
  have cH := fun (W : World) => rhttp_s r W (by omega)
  rw [hht] at cH
  have hok := Tg.ok_of hri
  obtain ⟨pt, hpt⟩ := hok.head
  obtain ⟨N, hN, f1, f2, f3⟩ := ahead_facts Tg.qm (str u.path)
  rw [str_list] at hN
  obtain ⟨A, hA⟩ : ∃ A, A = (str u.path).extract 0 N := ⟨_, rfl⟩
  have hAd : A.data.toList = u.path.take N := by rw [hA, Lib.extract_data, str_list]; simp
  have hAz : A.size = N := by rw [hA]; simp; omega
  have hAP : N = (str u.path).size → A = str u.path := fun e => by rw [hA, e]; exact ByteArray.extract_zero_size
  obtain ⟨N1, hN1⟩ : ∃ N1, N1 = N + 1 := ⟨_, rfl⟩
  have hAh : ∃ a2, u.path.take N = 47 :: a2 := by
    have e : N = Tg.ahead Tg.qm pt + 1 := by rw [hN, hpt, Tg.ahead_miss Tg.qm 47 pt (by decide)]
    exact ⟨pt.take (Tg.ahead Tg.qm pt), by rw [e, hpt]; rfl⟩
  have hPz : (str u.path).size ≤ 40000 := by rw [str_size]; exact hp
  obtain ⟨c, rt, rfl⟩ : ∃ c rt, r = c :: rt := by
    cases r with
    | nil => exact absurd rfl h0
    | cons c rt => exact ⟨c, rt, rfl⟩
  have hz0 : 0 < (str (c :: rt)).size := by rw [str_size]; simp
  have hz0i : (0 : Int) < (str (c :: rt)).size := by omega
  have hzz : (str (c :: rt)).size ≤ 80000 := by rw [str_size]; exact hr
  have hrz := str_size (c :: rt)
  have hx0 : (str (c :: rt))[0]'hz0 = c := rfl
  obtain ⟨a2, ha2⟩ := hAh
  rw [← hN]
  obtain ⟨q1, hq1, hqA, g3, g4, g5⟩ := upto_facts A _ hAd (by rw [ha2]; simp)
  have hup : ∃ z, Tg.upto (u.path.take N) = 47 :: z := by rw [ha2, Tg.upto, if_pos (.inl rfl)]; exact ⟨_, rfl⟩
  obtain ⟨z, hz⟩ := hup
  have hul := congrArg ByteArray.size g5
  rw [str_size] at hul
  obtain ⟨hbg, hsl⟩ := begins_47 (t := Tg.upto (u.path.take N) ++ c :: rt) (by rw [hz]; rfl)
  have hXz : (A.extract 0 q1).size ≤ 40000 := by simp; omega
  have cA := fun (W : World) => rat_s u.host u.port (Tg.upto (u.path.take N) ++ c :: rt) W (by rw [List.length_append]; omega) hbg
  obtain ⟨X, hX⟩ : ∃ X, X = A.extract 0 q1 := ⟨_, rfl⟩
  rw [hsl, show str (Tg.upto (u.path.take N) ++ c :: rt) = X ++ str (c :: rt) from (str_same (by rw [app_data, hX, g5, str_list, str_list])).symm] at cA
  obtain ⟨M, hM, m1, m2, m3⟩ := ahead_facts Tg.sq (str (c :: rt))
  rw [str_list] at hM
  rw [← hM]
  have miss : ∀ k (hk : k < (str (c :: rt)).size), (str (c :: rt))[k] ≠ 58 → ((c :: rt).take k).contains 58 = false → ((c :: rt).take (k + 1)).contains 58 = false := fun k hk h h2 => by
    rw [take_snoc (c :: rt) k _ (str_list _) hk]
    rw [Bool.eq_false_iff] at h2 ⊢
    intro h3; apply h2
    rw [List.contains_iff_mem] at h3 ⊢
    rcases List.mem_append.1 h3 with h4 | h4
    · exact h4
    · rw [List.mem_singleton] at h4; exact absurd h4.symm h
  have mem : ∀ k (hk : k < (str (c :: rt)).size), k < M → (str (c :: rt))[k] = 58 → ((c :: rt).take M).contains 58 = true := fun k hk h h2 => by
    rw [List.contains_iff_mem]
    have h3 := Lib.data_getElem? (str (c :: rt)) k hk
    rw [str_list, h2] at h3
    refine List.mem_of_getElem? (i := k) ?_
    rw [List.getElem?_take_of_lt h, h3]
  have MEM := Lib.hid mem
  have MISS := Lib.hid miss
  have b47 := nq8 c 47 47 rfl (fun e => h47 (by rw [e]; rfl))
  have b63 := nq8 c 63 63 rfl (fun e => h63 (by rw [e]; rfl))
  have b47 : ((((str (c :: rt))[0]'hz0).toNat : Int) == 47) = false := b47
  have b63 : ((((str (c :: rt))[0]'hz0).toNat : Int) == 63) = false := b63
  have n47 : ¬ ((((str (c :: rt))[0]'hz0).toNat : Int) = 47) := beq_eq_false_iff_ne.1 b47
  have n63 : ¬ ((((str (c :: rt))[0]'hz0).toNat : Int) = 63) := beq_eq_false_iff_ne.1 b63
  obtain ⟨⟨⟨ra, rb, rc⟩, rd⟩, hres⟩ : ∃ x, Tg.atU u.host u.port (Tg.upto (u.path.take N) ++ c :: rt) = x := ⟨_, rfl⟩
  rw [hres, ures_u] at cA
  rw [hres]
  obtain ⟨XA, hXA⟩ : ∃ XA, XA = (if ((c :: rt).take M).contains 58 then (Tg.zero, 10) else (⟨ra, rb, rc⟩, rd) : Tg.U × Int) := ⟨_, rfl⟩
  have HX : Hid (((c :: rt).take M).contains 58 = true → XA = (Tg.zero, 10)) := Lib.hid (fun h => by rw [hXA, if_pos h])
  have HY : Hid (((c :: rt).take M).contains 58 = false → XA = (⟨ra, rb, rc⟩, rd)) := Lib.hid (fun h => by rw [hXA, if_neg (by rw [h]; decide)])
  rw [← hXA]
  have M2 := Lib.hid m2
  have M3 := Lib.hid m3
  have G3 := Lib.hid g3
  have G4 := Lib.hid g4
  have eX := hX.symm
  rw [← hX] at hXz
  have hz3 : ¬ 9223372036854775807 < X.size + (str (c :: rt)).size := by omega
  have hz4 : X.size + (str (c :: rt)).size ≤ 9223372036854775807 := by omega
  have hqi : (q1 : Int) ≤ A.size := by omega
  have hq0 : (0 : Int) ≤ q1 := by omega
  have H9 := Lib.hid b47
  clear m2 m3 g3 g4 g5 hX hXA hres mem miss hM hul hz
  have hAs : A.size ≤ 40000 := by omega
  have F2 := Lib.hid f2
  have F3 := Lib.hid f3
  have HN1 := Lib.hid hN1
  have HAP := Lib.hid hAP
  have HAZ := Lib.hid hAz
  have eA := hA.symm
  clear f2 f3 hN1 hA hAP hAz hN hri hok hpt hh hp hk hr h8 h0 hht h2 hx0 h47 h63 hbg hsl hAd hrz ha2
  rw [uval_u]
  generalize str u.host = H at *
  generalize u.port = K at *
  generalize str u.path = P at *
  generalize str (c :: rt) = s at *
  go_enter Tryz.func17, Tryz.ntmps17
  go_upto_region 1 with fail
  have hU0 := hU00.alloc (.cells #[.string ⟨#[]⟩, .int .i64 0, .string ⟨#[]⟩] 24)
  have hR0 : Res w (w.heap.size + 1) ((w.alloc (.cells #[.string H, .int .i64 K, .string P] 24)).alloc (.cells #[.string ⟨#[]⟩, .int .i64 0, .string ⟨#[]⟩] 24)) (.string ⟨#[]⟩) (.int .i64 0) (.string ⟨#[]⟩) :=
    ⟨heap_alloc2_new w _ _, hU0.below, by omega⟩
  generalize (w.alloc (.cells #[.string H, .int .i64 K, .string P] 24)).alloc (.cells #[.string ⟨#[]⟩, .int .i64 0, .string ⟨#[]⟩] 24) = W0 at hU0 hR0 ⊢
  generalize w.heap.size + 1 = G at hR0 ⊢
  go_wp2_with (refine ldU hU0.cell rfl (.tmp 2) rfl rfl ?_)
  refine (cRi _).mono ?_
  rintro e W1 ⟨rfl, hb1⟩
  have hU1 := hU0.later hb1
  have hR1 := hR0.later hb1
  clear hU00 hU0 hR0 hb1 cRi
  go_wp2_with fail
  refine (cH _).mono ?_
  rintro e W2 ⟨rfl, hb2⟩
  have hU2 := hU1.later hb2
  have hR2 := hR1.later hb2
  clear hU1 hR1 hb2 cH
  go_upto_region 9 with fail
  go_cut [39] from 27 to 39 (fun b wx => b = .bool false ∧ W2 = wx)
  case first =>
    have b9 := H9.out
    by_cases h1 : (1 : Int) < s.size
    · go_wp2_with fail
      go_meet
      case rel => exact ⟨rfl, rfl⟩
    · go_wp2_with fail
      go_meet
      case rel => exact ⟨rfl, rfl⟩
  case rest =>
    obtain ⟨rfl, rfl⟩ := hcut
    have hcb := box_cell hU2.cell
    obtain ⟨k0, k1, k2⟩ := hcb
    go_upto_block 0 with fail
    go_cut [6, 7] from 47 to 59 (fun p i wx => p = .string A ∧ W2 = wx)
    case first =>
      go_wp2_with fail
      go_loop [6, 7] (fun p i => ∃ (k : Nat) (x : ByteArray), p = .string x ∧ i = .int .i64 k ∧ k ≤ N1 ∧ Hid ((k ≤ N ∧ P = x) ∨ (A = x ∧ N1 = k))) (fun _ i => N1 + 1 - (intOf i).toNat)
      case atStart => exact ⟨0, P, rfl, rfl, by omega, Lib.hid (.inl ⟨by omega, rfl⟩)⟩
      case round =>
        obtain ⟨k, x, rfl, rfl, hkN, HC⟩ := hrel
        have hk0 : (0 : Int) ≤ k := by omega
        rcases HC.out with ⟨hk, rfl⟩ | ⟨rfl, rfl⟩
        · clear HC
          by_cases hlt : k < N
          · have hks : k < P.size := by omega
            have hki : (k : Int) < P.size := by omega
            have b63 : ((P[k].toNat : Int) == 63) = false := nq8 P[k] 63 63 rfl (fun e => by have := F2.out k hks hlt; rw [e] at this; cases this)
            go_wp2_with fail
            go_round
            case rel => exact ⟨k + 1, P, rfl, by go_num, by have := HN1.out; omega, Lib.hid (.inl ⟨by omega, rfl⟩)⟩
            case measure => simp [intOf]; omega
          · obtain rfl : k = N := by omega
            by_cases hks : k < P.size
            · have hki : (k : Int) < P.size := by omega
              have hkl : (k : Int) ≤ P.size := by omega
              have i63 := qm_true (F3.out hks)
              go_wp2_with fail
              go_round
              case rel => exact ⟨k + 1, A, rfl, by go_num, by have := HN1.out; omega, Lib.hid (.inr ⟨rfl, HN1.out⟩)⟩
              case measure => simp [intOf]; omega
            · have hki : ¬ ((k : Int) < P.size) := by omega
              go_wp2_with fail
              go_meet
              case rel => exact ⟨by rw [HAP.out (by omega)], rfl⟩
        · have hki : ¬ ((N1 : Int) < A.size) := by have := HN1.out; have := HAZ.out; omega
          clear HC
          go_wp2_with fail
          go_meet
          case rel => exact ⟨rfl, rfl⟩
    case rest =>
      obtain ⟨rfl, rfl⟩ := hcut
      go_wp2_with fail
      go_loop [8] (fun i => ∃ k : Nat, k ≤ M ∧ i = .int .i64 k ∧ Hid (((c :: rt).take k).contains 58 = false)) (fun i => M - (intOf i).toNat)
      case atStart => exact ⟨0, by omega, rfl, Lib.hid rfl⟩
      case round =>
        obtain ⟨k, hkM, rfl, HC⟩ := hrel
        have hk0 : (0 : Int) ≤ k := by omega
        by_cases hlt : k < M
        · have hks : k < s.size := by omega
          have hki : (k : Int) < s.size := by omega
          obtain ⟨d47, d63⟩ := sq_false (M2.out k hks hlt)
          by_cases h58 : s[k] = 58
          · have i58 : (s[k].toNat : Int) = 58 := by rw [h58]; rfl
            have HV : Hid (XA = (Tg.zero, 10)) := Lib.hid (HX.out (MEM.out k hks hlt h58))
            clear h58
            go_wp2_with (refine stU hR2 rfl (.tmp 4) (.tmp 106) rfl _ _ _ rfl rfl ?_; intro W9 hR9 _)
            (try simp only [Exit.inBlock, Exit.then])
            refine ret_uri rfl G _ _ _ rfl hR9.cell rfl ?_
            exact ⟨by rw [HV.out]; rfl, hR9.below⟩
          · have b58 := nq8 s[k] 58 58 rfl h58
            have HC2 := Lib.hid (MISS.out k hks h58 HC.out)
            clear h58
            go_wp2_with fail
            go_round
            case rel => exact ⟨k + 1, by omega, by go_num, HC2⟩
            case measure => simp [intOf]; omega
        · obtain rfl : k = M := by omega
          have HV : Hid (XA = (⟨ra, rb, rc⟩, rd)) := Lib.hid (HY.out HC.out)
          clear HX HY MEM MISS HC
          by_cases hks : k < s.size
          · have hki : (k : Int) < s.size := by omega
            rcases sq_true (M3.out hks) with m47 | m63
            · go_wp2_with fail
              go_loop [9] (fun i => ∃ k : Nat, q1 ≤ k ∧ k ≤ A.size ∧ i = .int .i64 k) (fun i => (intOf i).toNat)
              case atStart => exact ⟨A.size, hqA, Nat.le_refl _, rfl⟩
              case round =>
                obtain ⟨k, hqk, hkA, rfl⟩ := hrel
                obtain ⟨j, hj⟩ : ∃ j, k = j + 1 := ⟨k - 1, by omega⟩
                have hjA : j < A.size := by omega
                have hjAi : (j : Int) < A.size := by omega
                have hj0 : (0 : Int) ≤ j := by omega
                have hji : (k : Int) - 1 = (j : Int) := by omega
                have hjw : IntKind.i64.wrap ((k : Int) - 1) = (j : Int) := by rw [IntKind.wrap_i64]; omega
                have hjw2 : IntKind.i64.wrap (j : Int) = (j : Int) := by rw [IntKind.wrap_i64]; omega
                by_cases hlt : q1 < k
                · have b47 := ne8 A[j] 47 47 rfl (G4.out j hjA (by omega))
                  clear hj
                  go_wp2_with fail
                  go_round
                  case rel => exact ⟨j, by omega, by omega, by go_num⟩
                  case measure => simp [intOf]; omega
                · obtain rfl : k = q1 := by omega
                  have i47 : (A[j].toNat : Int) = 47 := by rw [G3.out j hjA hj.symm]; rfl
                  clear hj
                  go_upto_region 29 with fail
                  have l0 := fun p : LateOf W2 => p.cell k0
                  have l1 := fun p : LateOf W2 => p.cell k1
                  have GA := fun p : LateOf W2 => late p (cA p.w)
                  have HGR := Lib.hid (fun p : LateOf W2 => hR2.later p.h)
                  clear k0 k1 k2 hU2 hR2 cA
                  refine wp_region_late_tail 12 (by kernel_rfl) (by kernel_rfl) ?_
                  simp only [List.take_succ_cons, List.take_zero, List.drop_succ_cons, List.drop_zero]
                  quiet_step (fail)
                  quiet_step (fail)
                  quiet_step (fail)
                  quiet_step (fail)
                  quiet_step (fail)
                  quiet_step (fail)
                  quiet_step (fail)
                  quiet_step (fail)
                  quiet_step (fail)
                  quiet_step ((go_at_call 27; exact GA _))
                  quiet_step (fail)
                  quiet_step (fail)
                  refine wpQuiet_nil ?_
                  intro w6 hw'
                  obtain ⟨p, rfl⟩ := hw'
                  have hRp := HGR.out p
                  go_wp2_with (refine stU hRp rfl (.tmp 4) (.tmp 126) rfl _ _ _ rfl rfl ?_; intro W9 hR9 _)
                  (try simp only [Exit.inBlock, Exit.then])
                  refine ret_uri rfl G _ _ _ rfl hR9.cell rfl ?_
                  exact ⟨by rw [HV.out]; rfl, hR9.below⟩
            · go_wp2_with fail
              go_loop [9] (fun i => ∃ k : Nat, q1 ≤ k ∧ k ≤ A.size ∧ i = .int .i64 k) (fun i => (intOf i).toNat)
              case atStart => exact ⟨A.size, hqA, Nat.le_refl _, rfl⟩
              case round =>
                obtain ⟨k, hqk, hkA, rfl⟩ := hrel
                obtain ⟨j, hj⟩ : ∃ j, k = j + 1 := ⟨k - 1, by omega⟩
                have hjA : j < A.size := by omega
                have hjAi : (j : Int) < A.size := by omega
                have hj0 : (0 : Int) ≤ j := by omega
                have hji : (k : Int) - 1 = (j : Int) := by omega
                have hjw : IntKind.i64.wrap ((k : Int) - 1) = (j : Int) := by rw [IntKind.wrap_i64]; omega
                have hjw2 : IntKind.i64.wrap (j : Int) = (j : Int) := by rw [IntKind.wrap_i64]; omega
                by_cases hlt : q1 < k
                · have b47 := ne8 A[j] 47 47 rfl (G4.out j hjA (by omega))
                  clear hj
                  go_wp2_with fail
                  go_round
                  case rel => exact ⟨j, by omega, by omega, by go_num⟩
                  case measure => simp [intOf]; omega
                · obtain rfl : k = q1 := by omega
                  have i47 : (A[j].toNat : Int) = 47 := by rw [G3.out j hjA hj.symm]; rfl
                  clear hj
                  go_upto_region 29 with fail
                  have l0 := fun p : LateOf W2 => p.cell k0
                  have l1 := fun p : LateOf W2 => p.cell k1
                  have GA := fun p : LateOf W2 => late p (cA p.w)
                  have HGR := Lib.hid (fun p : LateOf W2 => hR2.later p.h)
                  clear k0 k1 k2 hU2 hR2 cA
                  refine wp_region_late_tail 12 (by kernel_rfl) (by kernel_rfl) ?_
                  simp only [List.take_succ_cons, List.take_zero, List.drop_succ_cons, List.drop_zero]
                  quiet_step (fail)
                  quiet_step (fail)
                  quiet_step (fail)
                  quiet_step (fail)
                  quiet_step (fail)
                  quiet_step (fail)
                  quiet_step (fail)
                  quiet_step (fail)
                  quiet_step (fail)
                  quiet_step ((go_at_call 27; exact GA _))
                  quiet_step (fail)
                  quiet_step (fail)
                  refine wpQuiet_nil ?_
                  intro w6 hw'
                  obtain ⟨p, rfl⟩ := hw'
                  have hRp := HGR.out p
                  go_wp2_with (refine stU hRp rfl (.tmp 4) (.tmp 126) rfl _ _ _ rfl rfl ?_; intro W9 hR9 _)
                  (try simp only [Exit.inBlock, Exit.then])
                  refine ret_uri rfl G _ _ _ rfl hR9.cell rfl ?_
                  exact ⟨by rw [HV.out]; rfl, hR9.below⟩
          · have hki : ¬ ((k : Int) < s.size) := by omega
            go_wp2_with fail
            go_loop [9] (fun i => ∃ k : Nat, q1 ≤ k ∧ k ≤ A.size ∧ i = .int .i64 k) (fun i => (intOf i).toNat)
            case atStart => exact ⟨A.size, hqA, Nat.le_refl _, rfl⟩
            case round =>
              obtain ⟨k, hqk, hkA, rfl⟩ := hrel
              obtain ⟨j, hj⟩ : ∃ j, k = j + 1 := ⟨k - 1, by omega⟩
              have hjA : j < A.size := by omega
              have hjAi : (j : Int) < A.size := by omega
              have hj0 : (0 : Int) ≤ j := by omega
              have hji : (k : Int) - 1 = (j : Int) := by omega
              have hjw : IntKind.i64.wrap ((k : Int) - 1) = (j : Int) := by rw [IntKind.wrap_i64]; omega
              have hjw2 : IntKind.i64.wrap (j : Int) = (j : Int) := by rw [IntKind.wrap_i64]; omega
              by_cases hlt : q1 < k
              · have b47 := ne8 A[j] 47 47 rfl (G4.out j hjA (by omega))
                clear hj
                go_wp2_with fail
                go_round
                case rel => exact ⟨j, by omega, by omega, by go_num⟩
                case measure => simp [intOf]; omega
              · obtain rfl : k = q1 := by omega
                have i47 : (A[j].toNat : Int) = 47 := by rw [G3.out j hjA hj.symm]; rfl
                clear hj
                go_upto_region 29 with fail
                have l0 := fun p : LateOf W2 => p.cell k0
                have l1 := fun p : LateOf W2 => p.cell k1
                have GA := fun p : LateOf W2 => late p (cA p.w)
                have HGR := Lib.hid (fun p : LateOf W2 => hR2.later p.h)
                clear k0 k1 k2 hU2 hR2 cA
                refine wp_region_late_tail 12 (by kernel_rfl) (by kernel_rfl) ?_
                simp only [List.take_succ_cons, List.take_zero, List.drop_succ_cons, List.drop_zero]
                quiet_step (fail)
                quiet_step (fail)
                quiet_step (fail)
                quiet_step (fail)
                quiet_step (fail)
                quiet_step (fail)
                quiet_step (fail)
                quiet_step (fail)
                quiet_step (fail)
                quiet_step ((go_at_call 27; exact GA _))
                quiet_step (fail)
                quiet_step (fail)
                refine wpQuiet_nil ?_
                intro w6 hw'
                obtain ⟨p, rfl⟩ := hw'
                have hRp := HGR.out p
                go_wp2_with (refine stU hRp rfl (.tmp 4) (.tmp 126) rfl _ _ _ rfl rfl ?_; intro W9 hR9 _)
                (try simp only [Exit.inBlock, Exit.then])
                refine ret_uri rfl G _ _ _ rfl hR9.cell rfl ?_
                exact ⟨by rw [HV.out]; rfl, hR9.below⟩

/-- Where a reference leads. -/
theorem rResolve_s (u : Tg.U) (r : List UInt8) (w : World) (hh : u.host.length ≤ 40000) (hp : u.path.length ≤ 40000) (hk : u.port ≤ 9223372036854775807) (hr : r.length ≤ 80000) :
    Calls Tryz.prog 17 #[uval u, .string (str r)] w fun e w' => e = .returned (ures (Tg.resolve u r)) ∧ Below w.heap.size w w' := by
  unfold Tg.resolve
  cases hri : Tg.right u with
  | false => rw [if_pos rfl]; exact rres_arg u r w hh hp hk hr hri
  | true =>
    rw [if_neg (by decide)]
    by_cases h8 : 8000 < r.length
    · rw [if_pos h8]; exact rres_long u r w hh hp hk hr hri h8
    rw [if_neg h8]
    by_cases h0 : r = []
    · rw [if_pos h0]; exact rres_empty u r w hh hp hk hr hri h8 h0
    rw [if_neg h0]
    cases hht : Tg.http r with
    | true => rw [if_pos rfl]; exact rres_http u r w hh hp hk hr hri h8 h0 hht
    | false =>
      rw [if_neg (by decide)]
      by_cases h2 : r.take 2 = [47, 47]
      · rw [if_pos h2]; exact rres_two u r w hh hp hk hr hri h8 h0 hht h2
      rw [if_neg h2]
      by_cases h47 : r.head? = some 47
      · rw [if_pos h47]; exact rres_slash u r w hh hp hk hr hri h8 h0 hht h2 h47
      rw [if_neg h47]
      by_cases h63 : r.head? = some 63
      · rw [if_pos h63]; exact rres_query u r w hh hp hk hr hri h8 h0 hht h2 h63
      rw [if_neg h63]
      exact rres_other u r w hh hp hk hr hri h8 h0 hht h2 h47 h63
end Go.Proofs.YtlikjfemkadciaaGreatDoor
