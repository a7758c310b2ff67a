/- The statements of layer 6: StartBounds. -/
import Derived.Test.YtbpghbbcghlcaaaDoorSt8
import Derived.Deep.OwnRows
namespace St
theorem ms_no (c : UInt8) (hc : Oct.tch c = true) (n : Nat) (hn : 1 ≤ n) : Oct.token (List.replicate n c) = true := by
  unfold Oct.token
  rw [Bool.and_eq_true]
  refine ⟨?_, List.all_eq_true.2 fun x hx => by rw [(List.mem_replicate.1 hx).2]; exact hc⟩
  obtain ⟨j, rfl⟩ : ∃ j, n = j + 1 := ⟨n - 1, by omega⟩
  rfl
theorem bound_m (k : Nat) (hk : k ≤ 4) : (request (List.replicate (30 + k) 77 ++ [32, 47, 32, 72, 84, 84, 80, 47, 49, 46, 49, 13, 10])).2.2 = if k ≤ 2 then 0 else 12 := by
  have h := request_form (m := List.replicate (30 + k) 77) (t := [47]) (k := 1) (ms_no 77 (by decide) _ (by omega)) (by decide) (by decide) (by decide) (by simp; omega)
  rw [show ver 1 = http1 by decide +kernel] at h
  have e : List.replicate (30 + k) 77 ++ 32 :: ([47] ++ 32 :: http1) ++ [13, 10] = List.replicate (30 + k) 77 ++ [32, 47, 32, 72, 84, 84, 80, 47, 49, 46, 49, 13, 10] := by simp [http1]
  rw [e] at h
  rw [h]
  simp only [List.length_replicate, List.length_cons, List.length_nil]
  by_cases hk2 : k ≤ 2
  · rw [if_pos hk2, if_neg (by omega)]
  · rw [if_neg hk2, if_pos (by omega)]
theorem bound_t (k : Nat) (hk : k ≤ 4) : (request ([71, 69, 84, 32] ++ (47 :: List.replicate (7997 + k) 120) ++ [32, 72, 84, 84, 80, 47, 49, 46, 49, 13, 10])).2.2 = if k ≤ 2 then 0 else 12 := by
  have hv : visible (47 :: List.replicate (7997 + k) 120) = true := by
    unfold visible
    rw [Bool.and_eq_true]
    refine ⟨rfl, List.all_eq_true.2 fun x hx => ?_⟩
    rcases List.mem_cons.1 hx with rfl | hx
    · decide
    · rw [(List.mem_replicate.1 hx).2]; decide
  have h := request_form (m := [71, 69, 84]) (t := 47 :: List.replicate (7997 + k) 120) (k := 1) (by decide) hv (by decide) (by decide) (by simp; omega)
  rw [show ver 1 = http1 by decide +kernel] at h
  have e : [71, 69, 84] ++ 32 :: ((47 :: List.replicate (7997 + k) 120) ++ 32 :: http1) ++ [13, 10] = [71, 69, 84, 32] ++ (47 :: List.replicate (7997 + k) 120) ++ [32, 72, 84, 84, 80, 47, 49, 46, 49, 13, 10] := by simp [http1]
  rw [e] at h
  rw [h]
  simp only [List.length_replicate, List.length_cons, List.length_nil]
  by_cases hk2 : k ≤ 2
  · rw [if_pos hk2, if_neg (by omega)]
  · rw [if_neg hk2, if_pos (by omega)]
theorem bound_r (k : Nat) (hk : k ≤ 4) : (response ([72, 84, 84, 80, 47, 49, 46, 49, 32, 50, 48, 48, 32] ++ List.replicate (198 + k) 114 ++ [13, 10])).2.2 = if k ≤ 2 then 0 else 12 := by
  have h := response_form (d := [50, 48, 48]) (r := List.replicate (198 + k) 114) (k := 1) (n := 200) rfl (by decide +kernel) (by decide) (by decide) (Oct.token_value _ (ms_no 114 (by decide) _ (by omega))) (by decide) (by decide) (by simp; omega)
  rw [show ver 1 = http1 by decide +kernel] at h
  have e : http1 ++ 32 :: ([50, 48, 48] ++ 32 :: List.replicate (198 + k) 114) ++ [13, 10] = [72, 84, 84, 80, 47, 49, 46, 49, 32, 50, 48, 48, 32] ++ List.replicate (198 + k) 114 ++ [13, 10] := by simp [http1]
  rw [e] at h
  rw [h]
  simp only [List.length_replicate]
  by_cases hk2 : k ≤ 2
  · rw [if_pos hk2, if_neg (by omega)]
  · rw [if_neg hk2, if_pos (by omega)]
theorem bound_h (k : Nat) : (request (List.replicate (8200 + k) 0)).2.2 = if k = 0 then 11 else 12 := by
  rw [request_zeros]
  by_cases h : k = 0
  · rw [if_pos h, if_pos (by omega)]
  · rw [if_neg h, if_neg (by omega)]
theorem bound_i (k : Nat) : (response (List.replicate (300 + k) 0)).2.2 = if k = 0 then 11 else 12 := by
  rw [response_zeros]
  by_cases h : k = 0
  · rw [if_pos h, if_pos (by omega)]
  · rw [if_neg h, if_neg (by omega)]
end St
namespace Go.Proofs.YtbpghbbcghlcaaaDoor
open Go.RowKit

/-- A text grows by an octet. -/
theorem grow_one (l : List UInt8) (c : UInt8) (n : Nat) : str (l ++ List.replicate n c) ++ ⟨#[c]⟩ = str (l ++ List.replicate (n + 1) c) := by
  refine str_eq ?_
  rw [app_two, str_list, List.replicate_succ']
  simp

set_option maxHeartbeats 6400000 in
set_option maxRecDepth 100000 in
theorem sbounds_w {Env : World → Prop} (P : Read6 Env) (a : Int) (w : World) (hE : Env w) :
    Calls Tryd.prog 6 #[.int .i64 a] w fun e w' => e = .returned (.bool true) ∧ Below w.heap.size w w' := by
  have HE := Lib.hid hE
  have HP := Lib.hid P
  have cA := sawake_w P w hE
  obtain ⟨q, k, q1, q2, q3, q4, q5, q6⟩ := cut_at a 5 (by decide) (by decide)
  have hk4 : k ≤ 4 := by omega
  have q1 : a.tmod 5 = q := q1
  have q3 : IntKind.i64.wrap (q + 5) = q + 5 := q3
  have q4 : (q + 5).tmod 5 = (k : Int) := q4
  have HM := Lib.hid (St.bound_m k hk4)
  have HT := Lib.hid (St.bound_t k hk4)
  have HR := Lib.hid (St.bound_r k hk4)
  have HH := Lib.hid (St.bound_h k)
  have HI := Lib.hid (St.bound_i k)
  obtain ⟨n1, hn1⟩ : ∃ n, n = 30 + k := ⟨_, rfl⟩
  have an1 : (30 : Int) + (k : Int) = (n1 : Int) := by omega
  have bn1 : IntKind.i64.wrap ((30 : Int) + (k : Int)) = (n1 : Int) := by rw [IntKind.wrap_i64]; omega
  have cn1 : IntKind.i64.wrap (n1 : Int) = (n1 : Int) := by rw [IntKind.wrap_i64]; omega
  have dn1 : n1 ≤ 30 + 4 := by omega
  obtain ⟨n2, hn2⟩ : ∃ n, n = 7997 + k := ⟨_, rfl⟩
  have an2 : (7997 : Int) + (k : Int) = (n2 : Int) := by omega
  have bn2 : IntKind.i64.wrap ((7997 : Int) + (k : Int)) = (n2 : Int) := by rw [IntKind.wrap_i64]; omega
  have cn2 : IntKind.i64.wrap (n2 : Int) = (n2 : Int) := by rw [IntKind.wrap_i64]; omega
  have dn2 : n2 ≤ 7997 + 4 := by omega
  obtain ⟨n3, hn3⟩ : ∃ n, n = 198 + k := ⟨_, rfl⟩
  have an3 : (198 : Int) + (k : Int) = (n3 : Int) := by omega
  have bn3 : IntKind.i64.wrap ((198 : Int) + (k : Int)) = (n3 : Int) := by rw [IntKind.wrap_i64]; omega
  have cn3 : IntKind.i64.wrap (n3 : Int) = (n3 : Int) := by rw [IntKind.wrap_i64]; omega
  have dn3 : n3 ≤ 198 + 4 := by omega
  obtain ⟨n4, hn4⟩ : ∃ n, n = 8200 + k := ⟨_, rfl⟩
  have an4 : (8200 : Int) + (k : Int) = (n4 : Int) := by omega
  have bn4 : IntKind.i64.wrap ((8200 : Int) + (k : Int)) = (n4 : Int) := by rw [IntKind.wrap_i64]; omega
  have cn4 : IntKind.i64.wrap (n4 : Int) = (n4 : Int) := by rw [IntKind.wrap_i64]; omega
  have dn4 : n4 ≤ 8200 + 4 := by omega
  obtain ⟨n5, hn5⟩ : ∃ n, n = 300 + k := ⟨_, rfl⟩
  have an5 : (300 : Int) + (k : Int) = (n5 : Int) := by omega
  have bn5 : IntKind.i64.wrap ((300 : Int) + (k : Int)) = (n5 : Int) := by rw [IntKind.wrap_i64]; omega
  have cn5 : IntKind.i64.wrap (n5 : Int) = (n5 : Int) := by rw [IntKind.wrap_i64]; omega
  have dn5 : n5 ≤ 300 + 4 := by omega
  rw [← hn1] at HM
  rw [← hn2] at HT
  rw [← hn3] at HR
  rw [← hn4] at HH
  rw [← hn5] at HI
  clear hn1 hn2 hn3 hn4 hn5 P hE q6
  go_enter Tryd.func6, Tryd.ntmps6
  go_wp2_with fail
  refine cA.mono ?_
  rintro e0 w1 ⟨rfl, hb1⟩
  clear cA
  go_wp2_with fail
  go_loop [4, 7] (fun x i => ∃ j : Nat, j ≤ n1 ∧ x = .string (str ([] ++ List.replicate j 77)) ∧ i = .int .i64 j) (fun _ i => n1 - (intOf i).toNat)
  case atStart => exact ⟨0, by omega, rfl, rfl⟩
  case round =>
    obtain ⟨j1, hj1, rfl, rfl⟩ := hrel
    have hszj1 : (str ([] ++ List.replicate j1 77)).size ≤ 9000 := by rw [str_size]; simp; omega
    by_cases hlt : j1 < n1
    · have hji : (j1 : Int) < n1 := by omega
      have hg := grow_one [] 77 j1
      obtain ⟨s1, hs1⟩ : ∃ s1, s1 = str ([] ++ List.replicate j1 77) := ⟨_, rfl⟩
      obtain ⟨s2, hs2⟩ : ∃ s2, s2 = str ([] ++ List.replicate (j1 + 1) 77) := ⟨_, rfl⟩
      rw [← hs1, ← hs2] at hg
      rw [← hs1] at hszj1 ⊢
      have HS2 := Lib.hid hs2
      clear hs1 hs2
      go_wp2_with fail
      go_round
      case rel => exact ⟨j1 + 1, by omega, by rw [HS2.out], by go_num⟩
      case measure => simp [intOf]; omega
    · have hjn : j1 = n1 := by omega
      subst hjn
      have hji : ¬ ((j1 : Int) < j1) := by omega
      clear hlt
      go_wp2_with fail
      go_loop [5, 8] (fun x i => ∃ j : Nat, j ≤ n2 ∧ x = .string (str ([47] ++ List.replicate j 120)) ∧ i = .int .i64 j) (fun _ i => n2 - (intOf i).toNat)
      case atStart => exact ⟨0, by omega, rfl, rfl⟩
      case round =>
        obtain ⟨j2, hj2, rfl, rfl⟩ := hrel
        have hszj2 : (str ([47] ++ List.replicate j2 120)).size ≤ 9000 := by rw [str_size]; simp; omega
        by_cases hlt : j2 < n2
        · have hji : (j2 : Int) < n2 := by omega
          have hg := grow_one [47] 120 j2
          obtain ⟨s1, hs1⟩ : ∃ s1, s1 = str ([47] ++ List.replicate j2 120) := ⟨_, rfl⟩
          obtain ⟨s2, hs2⟩ : ∃ s2, s2 = str ([47] ++ List.replicate (j2 + 1) 120) := ⟨_, rfl⟩
          rw [← hs1, ← hs2] at hg
          rw [← hs1] at hszj2 ⊢
          have HS2 := Lib.hid hs2
          clear hs1 hs2
          go_wp2_with fail
          go_round
          case rel => exact ⟨j2 + 1, by omega, by rw [HS2.out], by go_num⟩
          case measure => simp [intOf]; omega
        · have hjn : j2 = n2 := by omega
          subst hjn
          have hji : ¬ ((j2 : Int) < j2) := by omega
          clear hlt
          go_wp2_with fail
          go_loop [6, 9] (fun x i => ∃ j : Nat, j ≤ n3 ∧ x = .string (str ([] ++ List.replicate j 114)) ∧ i = .int .i64 j) (fun _ i => n3 - (intOf i).toNat)
          case atStart => exact ⟨0, by omega, rfl, rfl⟩
          case round =>
            obtain ⟨j3, hj3, rfl, rfl⟩ := hrel
            have hszj3 : (str ([] ++ List.replicate j3 114)).size ≤ 9000 := by rw [str_size]; simp; omega
            by_cases hlt : j3 < n3
            · have hji : (j3 : Int) < n3 := by omega
              have hg := grow_one [] 114 j3
              obtain ⟨s1, hs1⟩ : ∃ s1, s1 = str ([] ++ List.replicate j3 114) := ⟨_, rfl⟩
              obtain ⟨s2, hs2⟩ : ∃ s2, s2 = str ([] ++ List.replicate (j3 + 1) 114) := ⟨_, rfl⟩
              rw [← hs1, ← hs2] at hg
              rw [← hs1] at hszj3 ⊢
              have HS2 := Lib.hid hs2
              clear hs1 hs2
              go_wp2_with fail
              go_round
              case rel => exact ⟨j3 + 1, by omega, by rw [HS2.out], by go_num⟩
              case measure => simp [intOf]; omega
            · have hjn : j3 = n3 := by omega
              subst hjn
              have hji : ¬ ((j3 : Int) < j3) := by omega
              clear hlt
              go_upto_region 17 with fail
              have hW10 := hb1
              generalize w1 = w10 at hW10 ⊢
              clear hb1 hszj1 hszj2 hszj3
              obtain ⟨SM, hSM⟩ : ∃ x, x = str (List.replicate j1 77) := ⟨_, rfl⟩
              obtain ⟨ST, hST⟩ : ∃ x, x = str (47 :: List.replicate j2 120) := ⟨_, rfl⟩
              obtain ⟨SR, hSR⟩ : ∃ x, x = str (List.replicate j3 114) := ⟨_, rfl⟩
              try simp only [List.nil_append]
              rw [← hSM, ← hST, ← hSR]
              have zM : SM.size ≤ 9000 := by rw [hSM, str_size]; simp; omega
              have zT : ST.size ≤ 8999 := by rw [hST, str_size]; simp; omega
              have zR : SR.size ≤ 9000 := by rw [hSR, str_size]; simp; omega
              have lM : Hid (SM.data.toList = List.replicate j1 77) := Lib.hid (by rw [hSM, str_list])
              have lT : Hid (ST.data.toList = 47 :: List.replicate j2 120) := Lib.hid (by rw [hST, str_list])
              have lR : Hid (SR.data.toList = List.replicate j3 114) := Lib.hid (by rw [hSR, str_list])
              clear hSM hST hSR
              have yT : ((⟨#[71, 69, 84, 32]⟩ : ByteArray) ++ ST).size ≤ 9003 := by rw [ByteArray.size_append]; show 4 + ST.size ≤ _; omega
              have yR : ((⟨#[72, 84, 84, 80, 47, 49, 46, 49, 32, 50, 48, 48, 32]⟩ : ByteArray) ++ SR).size ≤ 9013 := by rw [ByteArray.size_append]; show 13 + SR.size ≤ _; omega
              obtain ⟨X11, hX11⟩ : ∃ x : ByteArray, x = SM ++ ⟨#[32, 47, 32, 72, 84, 84, 80, 47, 49, 46, 49, 13, 10]⟩ := ⟨_, rfl⟩
              have hXd11 : X11.data.toList = List.replicate j1 77 ++ [32, 47, 32, 72, 84, 84, 80, 47, 49, 46, 49, 13, 10] := by rw [hX11]; simp only [app_two, lM.out]
              have hXz11 : X11.size ≤ 90000 := by rw [Lib.size_eq, hXd11]; simp; omega
              have eX11 := hX11.symm
              obtain ⟨cc11, v11, hcv11, hbin11, hbv11⟩ := octets_text X11 w10 (by omega)
              rw [hXd11] at hbin11
              have hW11 := hW10.trans (hbv11.mono hW10.size)
              have cC11 := HP.out.request _ _ v11 (by simp; omega) hbin11 (HP.out.later HE.out hW11)
              obtain ⟨⟨⟨m, t, C11, r, K11⟩, n, e11⟩, hq11⟩ : ∃ x, St.request (List.replicate j1 77 ++ [32, 47, 32, 72, 84, 84, 80, 47, 49, 46, 49, 13, 10]) = x := ⟨_, rfl⟩
              rw [hq11, sres_s] at cC11
              have HE11 : Hid (e11 = _) := Lib.hid ((congrArg (fun x : St.S × Int × Int => x.2.2) hq11).symm.trans HM.out)
              simp only [] at cC11
              generalize str m = M11 at *
              generalize str t = T11 at *
              generalize str r = R11 at *
              clear hq11 hX11 hXd11 hbin11 hbv11 hW10
              go_wp2_with fail
              refine cC11.mono ?_
              rintro f11 u11' ⟨rfl, hc11⟩
              have hW11' := (hW11.trans (hc11.mono hW11.size)).alloc (hW11.trans (hc11.mono hW11.size)).size (.cells #[.string M11, .string T11, .int .i64 C11, .string R11, .int .i64 K11] 25)
              clear cC11 hcv11 hc11 hW11 eX11 hXz11
              go_upto_region 18 with fail
              generalize World.alloc _ (.cells #[.string M11, .string T11, .int .i64 C11, .string R11, .int .i64 K11] 25) = w11 at hW11' ⊢
              have hW11 := hW11'
              clear hW11'
              obtain ⟨X12, hX12⟩ : ∃ x : ByteArray, x = (⟨#[71, 69, 84, 32]⟩ : ByteArray) ++ ST ++ ⟨#[32, 72, 84, 84, 80, 47, 49, 46, 49, 13, 10]⟩ := ⟨_, rfl⟩
              have hXd12 : X12.data.toList = [71, 69, 84, 32] ++ (47 :: List.replicate j2 120) ++ [32, 72, 84, 84, 80, 47, 49, 46, 49, 13, 10] := by rw [hX12]; simp only [app_two, lT.out]
              have hXz12 : X12.size ≤ 90000 := by rw [Lib.size_eq, hXd12]; simp; omega
              have eX12 := hX12.symm
              obtain ⟨cc12, v12, hcv12, hbin12, hbv12⟩ := octets_text X12 w11 (by omega)
              rw [hXd12] at hbin12
              have hW12 := hW11.trans (hbv12.mono hW11.size)
              have cC12 := HP.out.request _ _ v12 (by simp; omega) hbin12 (HP.out.later HE.out hW12)
              obtain ⟨⟨⟨m, t, C12, r, K12⟩, n, e12⟩, hq12⟩ : ∃ x, St.request ([71, 69, 84, 32] ++ (47 :: List.replicate j2 120) ++ [32, 72, 84, 84, 80, 47, 49, 46, 49, 13, 10]) = x := ⟨_, rfl⟩
              rw [hq12, sres_s] at cC12
              have HE12 : Hid (e12 = _) := Lib.hid ((congrArg (fun x : St.S × Int × Int => x.2.2) hq12).symm.trans HT.out)
              simp only [] at cC12
              generalize str m = M12 at *
              generalize str t = T12 at *
              generalize str r = R12 at *
              clear hq12 hX12 hXd12 hbin12 hbv12 hW11
              go_wp2_with fail
              refine cC12.mono ?_
              rintro f12 u12' ⟨rfl, hc12⟩
              have hW12' := (hW12.trans (hc12.mono hW12.size)).alloc (hW12.trans (hc12.mono hW12.size)).size (.cells #[.string M12, .string T12, .int .i64 C12, .string R12, .int .i64 K12] 25)
              clear cC12 hcv12 hc12 hW12 eX12 hXz12
              go_upto_region 19 with fail
              generalize World.alloc _ (.cells #[.string M12, .string T12, .int .i64 C12, .string R12, .int .i64 K12] 25) = w12 at hW12' ⊢
              have hW12 := hW12'
              clear hW12'
              obtain ⟨X13, hX13⟩ : ∃ x : ByteArray, x = (⟨#[72, 84, 84, 80, 47, 49, 46, 49, 32, 50, 48, 48, 32]⟩ : ByteArray) ++ SR ++ ⟨#[13, 10]⟩ := ⟨_, rfl⟩
              have hXd13 : X13.data.toList = [72, 84, 84, 80, 47, 49, 46, 49, 32, 50, 48, 48, 32] ++ List.replicate j3 114 ++ [13, 10] := by rw [hX13]; simp only [app_two, lR.out]
              have hXz13 : X13.size ≤ 90000 := by rw [Lib.size_eq, hXd13]; simp; omega
              have eX13 := hX13.symm
              obtain ⟨cc13, v13, hcv13, hbin13, hbv13⟩ := octets_text X13 w12 (by omega)
              rw [hXd13] at hbin13
              have hW13 := hW12.trans (hbv13.mono hW12.size)
              have cC13 := HP.out.response _ _ v13 (by simp; omega) hbin13 (HP.out.later HE.out hW13)
              obtain ⟨⟨⟨m, t, C13, r, K13⟩, n, e13⟩, hq13⟩ : ∃ x, St.response ([72, 84, 84, 80, 47, 49, 46, 49, 32, 50, 48, 48, 32] ++ List.replicate j3 114 ++ [13, 10]) = x := ⟨_, rfl⟩
              rw [hq13, sres_s] at cC13
              have HE13 : Hid (e13 = _) := Lib.hid ((congrArg (fun x : St.S × Int × Int => x.2.2) hq13).symm.trans HR.out)
              simp only [] at cC13
              generalize str m = M13 at *
              generalize str t = T13 at *
              generalize str r = R13 at *
              clear hq13 hX13 hXd13 hbin13 hbv13 hW12
              go_wp2_with fail
              refine cC13.mono ?_
              rintro f13 u13' ⟨rfl, hc13⟩
              have hW13' := (hW13.trans (hc13.mono hW13.size)).alloc (hW13.trans (hc13.mono hW13.size)).size (.cells #[.string M13, .string T13, .int .i64 C13, .string R13, .int .i64 K13] 25)
              clear cC13 hcv13 hc13 hW13 eX13 hXz13
              go_upto_region 20 with fail
              generalize World.alloc _ (.cells #[.string M13, .string T13, .int .i64 C13, .string R13, .int .i64 K13] 25) = w13 at hW13' ⊢
              have hW13 := hW13'
              clear hW13'
              have hmk14 := run_make_row' (P := Tryd.prog) 22 5 (.int .u8 0) 1 Tryd.underlying22 bytes_info rfl .i64 .i64 n4 (by omega) (by omega)
              have hbin14 := octets_made w13 n4 (by omega)
              have hz14 := hW13.alloc hW13.size (.cells (madeCells #[.int .u8 0] n4) 5)
              have cC14 := HP.out.request _ _ _ (by simp; omega) hbin14 (HP.out.later HE.out hz14)
              obtain ⟨⟨⟨m, t, C14, r, K14⟩, n, e14⟩, hq14⟩ : ∃ x, St.request (List.replicate n4 0) = x := ⟨_, rfl⟩
              rw [hq14, sres_s] at cC14
              have HE14 : Hid (e14 = _) := Lib.hid ((congrArg (fun x : St.S × Int × Int => x.2.2) hq14).symm.trans HH.out)
              simp only [] at cC14
              generalize str m = M14 at *
              generalize str t = T14 at *
              generalize str r = R14 at *
              clear hq14 hbin14
              go_wp2_with fail
              refine cC14.mono ?_
              rintro f14 u14' ⟨rfl, hc14⟩
              have hW14' := (hz14.trans (hc14.mono hz14.size)).alloc (hz14.trans (hc14.mono hz14.size)).size (.cells #[.string M14, .string T14, .int .i64 C14, .string R14, .int .i64 K14] 25)
              clear cC14 hc14 hz14 hmk14 hW13
              go_upto_region 21 with fail
              generalize World.alloc _ (.cells #[.string M14, .string T14, .int .i64 C14, .string R14, .int .i64 K14] 25) = w14 at hW14' ⊢
              have hW14 := hW14'
              clear hW14'
              have hmk15 := run_make_row' (P := Tryd.prog) 22 5 (.int .u8 0) 1 Tryd.underlying22 bytes_info rfl .i64 .i64 n5 (by omega) (by omega)
              have hbin15 := octets_made w14 n5 (by omega)
              have hz15 := hW14.alloc hW14.size (.cells (madeCells #[.int .u8 0] n5) 5)
              have cC15 := HP.out.response _ _ _ (by simp; omega) hbin15 (HP.out.later HE.out hz15)
              obtain ⟨⟨⟨m, t, C15, r, K15⟩, n, e15⟩, hq15⟩ : ∃ x, St.response (List.replicate n5 0) = x := ⟨_, rfl⟩
              rw [hq15, sres_s] at cC15
              have HE15 : Hid (e15 = _) := Lib.hid ((congrArg (fun x : St.S × Int × Int => x.2.2) hq15).symm.trans HI.out)
              simp only [] at cC15
              generalize str m = M15 at *
              generalize str t = T15 at *
              generalize str r = R15 at *
              clear hq15 hbin15
              go_wp2_with fail
              refine cC15.mono ?_
              rintro f15 u15' ⟨rfl, hc15⟩
              have hW15' := (hz15.trans (hc15.mono hz15.size)).alloc (hz15.trans (hc15.mono hz15.size)).size (.cells #[.string M15, .string T15, .int .i64 C15, .string R15, .int .i64 K15] 25)
              clear cC15 hc15 hz15 hmk15 hW14
              go_upto_region 22 with fail
              generalize World.alloc _ (.cells #[.string M15, .string T15, .int .i64 C15, .string R15, .int .i64 K15] 25) = w15 at hW15' ⊢
              have hW15 := hW15'
              clear hW15'
              have k5 : k = 0 ∨ k = 1 ∨ k = 2 ∨ k = 3 ∨ k = 4 := by omega
              have hB := hW15
              clear hW15 an4 bn4 cn4 an5 bn5 cn5
              rcases k5 with rfl | rfl | rfl | rfl | rfl
              all_goals
                have r1 := HE11.out
                have r2 := HE12.out
                have r3 := HE13.out
                have r4 := HE14.out
                have r5 := HE15.out
                simp at r1 r2 r3 r4 r5
                subst r1 r2 r3 r4 r5
                go_wp2_with fail
                go_ret
                exact ⟨rfl, hB⟩
end Go.Proofs.YtbpghbbcghlcaaaDoor
