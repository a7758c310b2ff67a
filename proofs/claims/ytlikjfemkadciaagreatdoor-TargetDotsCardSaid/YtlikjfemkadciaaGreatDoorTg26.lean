/- The document's own answer for package target: a path and a query; a URI of a host, a port, a place. -/
import Derived.Test.YtlikjfemkadciaaGreatDoorTg25
import Derived.Deep.CutBlock
namespace Go.Proofs.YtlikjfemkadciaaGreatDoor
open Go.RowKit

/-- Where the first octet stands that p names. -/
theorem ahead_facts (p : UInt8 → Bool) (s : ByteArray) : ∃ N, N = Tg.ahead p s.data.toList ∧ N ≤ s.size ∧ (∀ k (hk : k < s.size), k < N → p s[k] = false) ∧ (∀ hk : N < s.size, p s[N] = true) := by
  have hz : s.data.toList.length = s.size := by simp
  have hle := Tg.ahead_le p s.data.toList
  refine ⟨_, rfl, by omega, ?_, ?_⟩
  · intro k hk h
    refine Tg.ahead_take p s.data.toList s[k] ?_
    have h1 := Lib.data_getElem? s k hk
    refine List.mem_of_getElem? (i := k) ?_
    rw [List.getElem?_take_of_lt h, h1]
  · intro hk
    rcases Tg.ahead_drop p s.data.toList with h | ⟨c, t, h, hc⟩
    · have := congrArg List.length h
      rw [List.length_drop] at this; simp at this; omega
    · have h1 := Lib.data_getElem? s _ hk
      have h2 : (s.data.toList.drop (Tg.ahead p s.data.toList))[0]? = some c := by rw [h]; rfl
      rw [List.getElem?_drop, Nat.add_zero, h1] at h2
      rw [Option.some.inj h2]; exact hc
theorem qm_false {c : UInt8} (h : Tg.qm c = false) : ((c.toNat : Int) != 63) = true := ne8 c 63 63 rfl (fun e => by rw [e] at h; cases h)
theorem qm_true {c : UInt8} (h : Tg.qm c = true) : (c.toNat : Int) = 63 := by
  have : c = 63 := by simpa [Tg.qm] using h
  rw [this]; rfl
theorem p_path (c : UInt8) : Tg.pathc c = (Tg.free c || has [33, 36, 38, 39, 40, 41, 42, 43, 44, 59, 61, 58, 64, 47] c || (false && c == 63)) := by
  rw [← p_query]; rfl
theorem p_quer (c : UInt8) : Tg.queryc c = (Tg.free c || has [33, 36, 38, 39, 40, 41, 42, 43, 44, 59, 61, 58, 64, 47] c || (true && c == 63)) := by
  rw [← p_query]; rfl

set_option maxHeartbeats 6400000 in
set_option maxRecDepth 100000 in
theorem rplace_s (l : List UInt8) (w : World) (hl : l.length ≤ 90000) (hbg : Tg.Begins l) :
    Calls Tryz.prog 47 #[.string (str l)] w fun e w' => (∃ x, e = .returned (.tuple #[.string x, .bool (Tg.place (Tg.slash l)).isSome]) ∧ ∀ m, Tg.place (Tg.slash l) = some m → x = str m) ∧ Below w.heap.size w w' := by
  obtain ⟨s, hs⟩ : ∃ s, s = str l := ⟨_, rfl⟩
  have hsd : s.data.toList = l := by rw [hs, str_list]
  have hsz : s.size = l.length := by rw [hs, str_size]
  rw [← hs]
  have HV0 := Lib.hid (@Tg.place_none1 l hbg)
  have HV1 := Lib.hid (fun a => @Tg.place_end l hbg a)
  have HV2 := Lib.hid (fun a => @Tg.place_more l hbg a)
  have hfull := fun a => @Tg.full_head l hbg a
  have hpath := hbg.path
  have cC := fun (W : World) => rcoded_s Tg.pathc false (l.take (Tg.ahead Tg.qm l)) W (by rw [List.length_take]; omega) p_path
  have cQ := fun (W : World) => rcoded_s Tg.queryc true (l.drop (Tg.ahead Tg.qm l + 1)) W (by rw [List.length_drop]; omega) p_quer
  have hql : ∀ q, Tg.coded Tg.queryc (l.drop (Tg.ahead Tg.qm l + 1)) = some q → q.length ≤ 90000 := fun q hq => by
    have := Tg.coded_len _ _ hq
    rw [List.length_drop] at this; omega
  change ∀ W, Calls Tryz.prog 18 _ W fun e w' => e = .returned (eres (Tg.pathOf l)) ∧ Below W.heap.size W w' at cC
  obtain ⟨N, hN, f1, f2, f3⟩ := ahead_facts Tg.qm s
  rw [hsd] at hN
  rw [← hN] at cC cQ hql
  simp only [← hN] at HV1 HV2
  have ex0 : s.extract 0 N = str (l.take N) := str_same (by rw [Lib.extract_data, hsd]; simp)
  have ex1 : s.extract (N + 1) s.size = str (l.drop (N + 1)) := str_same (by rw [Lib.extract_data, hsd, List.take_of_length_le]; rw [List.length_drop]; omega)
  rw [← ex0] at cC
  rw [← ex1] at cQ
  generalize Tg.place (Tg.slash l) = R at *
  generalize Tg.pathOf l = po at *
  generalize Tg.coded Tg.queryc (l.drop (N + 1)) = qo at *
  have F2 := Lib.hid f2
  have F3 := Lib.hid f3
  have HLN : Hid (s.size = l.length) := Lib.hid hsz
  have hs6 : s.size ≤ 90000 := by omega
  have hNi : (N : Int) ≤ s.size := by omega
  have hN0 : (0 : Int) ≤ N := by omega
  clear f2 f3 ex0 ex1 hN hs hsd hsz
  cases po with
  | none =>
    have HV : Hid (R = none) := Lib.hid (HV0.out rfl)
    have e0 : eres none = .tuple #[.string ⟨#[]⟩, .bool false] := rfl
    rw [e0] at cC
    clear HV0 HV1 HV2 cQ hql hfull hpath
    go_enter Tryz.func47, Tryz.ntmps47
    go_upto_block 0 with fail
    go_cut [4] from 8 to 19 (fun i wx => i = .int .i64 N ∧ wx = w)
    case first =>
      go_wp2_with fail
      go_loop [4] (fun i => ∃ k : Nat, k ≤ N ∧ i = .int .i64 k) (fun i => N - (intOf i).toNat)
      case atStart => exact ⟨0, by omega, rfl⟩
      case round =>
        obtain ⟨k, hk, rfl⟩ := hrel
        by_cases hlt : k < N
        · have hks : k < s.size := by omega
          have b63 := qm_false (F2.out k hks hlt)
          have hki : (k : Int) < s.size := by omega
          have hk0 : (0 : Int) ≤ k := by omega
          go_wp2_with fail
          go_round
          case rel => exact ⟨k + 1, by omega, by go_num⟩
          case measure => simp [intOf]; omega
        · obtain rfl : k = N := by omega
          by_cases hks : k < s.size
          · have i63 := qm_true (F3.out hks)
            have hki : (k : Int) < s.size := by omega
            go_wp2_with fail
            go_meet
            case rel => exact ⟨rfl, rfl⟩
          · have hki : ¬ ((k : Int) < s.size) := by omega
            go_wp2_with fail
            go_meet
            case rel => exact ⟨rfl, rfl⟩
    case rest =>
      obtain ⟨rfl, rfl⟩ := hcut
      go_wp2_with fail
      refine (cC _).mono ?_
      rintro e W1 ⟨rfl, hb1⟩
      have hb1 := bt' (Below.refl _ _) hb1
      go_wp2_with fail
      go_ret2
      exact ⟨⟨_, by rw [HV.out] <;> rfl, fun m h => by rw [HV.out] at h; cases h⟩, hb1⟩
  | some a =>
    obtain ⟨b, hb, hbl⟩ := hfull a rfl
    have e0 : eres (some a) = .tuple #[.string (str a), .bool true] := rfl
    rw [e0] at cC
    have cD := fun (W : World) => rdots_s b W (by omega)
    have hsl := Tg.straight_len b
    have HE1 := Lib.hid (HV1.out a rfl)
    have HE2 := Lib.hid (HV2.out a rfl)
    clear HV0 HV1 HV2
    rw [hb] at HE1 HE2
    obtain ⟨G, hG⟩ : ∃ G, G = str (Tg.straight (47 :: b)) := ⟨_, rfl⟩
    rw [← hG] at cD
    have hGz : G.size ≤ 90001 := by rw [hG, str_size]; omega
    have HG := Lib.hid hG
    clear hG
    rcases hpath with h | h | ⟨b2, h⟩
    · cases h
    · obtain rfl := Option.some.inj h
      obtain rfl : b = [] := by
        have : Tg.full [] = [47] := rfl
        rw [this] at hb; exact (List.cons.inj hb).2.symm
      rw [show str [] = ⟨#[]⟩ from rfl] at cC
      rw [show str [47] = ⟨#[47]⟩ from rfl] at cD
      clear h hb hsl hfull e0
      by_cases hNs : N = s.size
      · have bN : ((N : Int) == (s.size : Int)) = true := by rw [hNs]; exact beq_self_eq_true _
        have HV : Hid (R = some (Tg.straight [47])) := Lib.hid (HE1.out (by rw [hNs]; exact HLN.out))
        clear HE1 HE2 cQ hql hNs
        go_enter Tryz.func47, Tryz.ntmps47
        go_upto_block 0 with fail
        go_cut [4] from 8 to 19 (fun i wx => i = .int .i64 N ∧ wx = w)
        case first =>
          go_wp2_with fail
          go_loop [4] (fun i => ∃ k : Nat, k ≤ N ∧ i = .int .i64 k) (fun i => N - (intOf i).toNat)
          case atStart => exact ⟨0, by omega, rfl⟩
          case round =>
            obtain ⟨k, hk, rfl⟩ := hrel
            by_cases hlt : k < N
            · have hks : k < s.size := by omega
              have b63 := qm_false (F2.out k hks hlt)
              have hki : (k : Int) < s.size := by omega
              have hk0 : (0 : Int) ≤ k := by omega
              go_wp2_with fail
              go_round
              case rel => exact ⟨k + 1, by omega, by go_num⟩
              case measure => simp [intOf]; omega
            · obtain rfl : k = N := by omega
              by_cases hks : k < s.size
              · have i63 := qm_true (F3.out hks)
                have hki : (k : Int) < s.size := by omega
                go_wp2_with fail
                go_meet
                case rel => exact ⟨rfl, rfl⟩
              · have hki : ¬ ((k : Int) < s.size) := by omega
                go_wp2_with fail
                go_meet
                case rel => exact ⟨rfl, rfl⟩
        case rest =>
          obtain ⟨rfl, rfl⟩ := hcut
          go_wp2_with fail
          refine (cC _).mono ?_
          rintro e W1 ⟨rfl, hb1⟩
          have hb1 := bt' (Below.refl _ _) hb1
          go_wp2_with fail
          refine (cD _).mono ?_
          rintro e W2 ⟨rfl, rfl⟩
          go_wp2_with fail
          go_ret2
          exact ⟨⟨_, by rw [HV.out] <;> rfl, fun m h => by rw [HV.out] at h; rw [← Option.some.inj h]; exact HG.out⟩, hb1⟩
      · have bN : ((N : Int) == (s.size : Int)) = false := beq_eq_false_iff_ne.2 (by omega)
        have hN1 : (N : Int) + 1 ≤ s.size := by omega
        have hw1 : IntKind.i64.wrap ((N : Int) + 1) = (N : Int) + 1 := by rw [IntKind.wrap_i64]; omega
        have HVm := Lib.hid (HE2.out (by have := HLN.out; omega))
        cases qo with
        | none =>
          have HV : Hid (R = none) := Lib.hid HVm.out
          have e0 : eres none = .tuple #[.string ⟨#[]⟩, .bool false] := rfl
          rw [e0] at cQ
          clear HE1 HE2 hql hNs HVm
          go_enter Tryz.func47, Tryz.ntmps47
          go_upto_block 0 with fail
          go_cut [4] from 8 to 19 (fun i wx => i = .int .i64 N ∧ wx = w)
          case first =>
            go_wp2_with fail
            go_loop [4] (fun i => ∃ k : Nat, k ≤ N ∧ i = .int .i64 k) (fun i => N - (intOf i).toNat)
            case atStart => exact ⟨0, by omega, rfl⟩
            case round =>
              obtain ⟨k, hk, rfl⟩ := hrel
              by_cases hlt : k < N
              · have hks : k < s.size := by omega
                have b63 := qm_false (F2.out k hks hlt)
                have hki : (k : Int) < s.size := by omega
                have hk0 : (0 : Int) ≤ k := by omega
                go_wp2_with fail
                go_round
                case rel => exact ⟨k + 1, by omega, by go_num⟩
                case measure => simp [intOf]; omega
              · obtain rfl : k = N := by omega
                by_cases hks : k < s.size
                · have i63 := qm_true (F3.out hks)
                  have hki : (k : Int) < s.size := by omega
                  go_wp2_with fail
                  go_meet
                  case rel => exact ⟨rfl, rfl⟩
                · have hki : ¬ ((k : Int) < s.size) := by omega
                  go_wp2_with fail
                  go_meet
                  case rel => exact ⟨rfl, rfl⟩
          case rest =>
            obtain ⟨rfl, rfl⟩ := hcut
            go_wp2_with fail
            refine (cC _).mono ?_
            rintro e W1 ⟨rfl, hb1⟩
            have hb1 := bt' (Below.refl _ _) hb1
            go_wp2_with fail
            refine (cD _).mono ?_
            rintro e W2 ⟨rfl, rfl⟩
            go_wp2_with fail
            refine (cQ _).mono ?_
            rintro e W3 ⟨rfl, hb3⟩
            have hb3 := bt' hb1 hb3
            have hzs : (G ++ ⟨#[63]⟩ : ByteArray).size ≤ 90002 := by rw [ByteArray.size_append]; show G.size + 1 ≤ _; omega
            go_wp2_with fail
            go_ret2
            exact ⟨⟨_, by rw [HV.out] <;> rfl, fun m h => by rw [HV.out] at h; cases h⟩, hb3⟩
        | some q =>
          have HV : Hid (R = some (Tg.straight [47] ++ 63 :: q)) := Lib.hid HVm.out
          have e0 : eres (some q) = .tuple #[.string (str q), .bool true] := rfl
          rw [e0] at cQ
          have hqz : (str q).size ≤ 90000 := by rw [str_size]; exact hql q rfl
          have HS : Hid (G ++ ⟨#[63]⟩ ++ str q = str (Tg.straight [47] ++ 63 :: q)) := Lib.hid (str_same (by rw [app_data, app_data, HG.out, str_list, str_list]; simp))
          clear HE1 HE2 hql hNs HVm
          generalize str q = Q at *
          go_enter Tryz.func47, Tryz.ntmps47
          go_upto_block 0 with fail
          go_cut [4] from 8 to 19 (fun i wx => i = .int .i64 N ∧ wx = w)
          case first =>
            go_wp2_with fail
            go_loop [4] (fun i => ∃ k : Nat, k ≤ N ∧ i = .int .i64 k) (fun i => N - (intOf i).toNat)
            case atStart => exact ⟨0, by omega, rfl⟩
            case round =>
              obtain ⟨k, hk, rfl⟩ := hrel
              by_cases hlt : k < N
              · have hks : k < s.size := by omega
                have b63 := qm_false (F2.out k hks hlt)
                have hki : (k : Int) < s.size := by omega
                have hk0 : (0 : Int) ≤ k := by omega
                go_wp2_with fail
                go_round
                case rel => exact ⟨k + 1, by omega, by go_num⟩
                case measure => simp [intOf]; omega
              · obtain rfl : k = N := by omega
                by_cases hks : k < s.size
                · have i63 := qm_true (F3.out hks)
                  have hki : (k : Int) < s.size := by omega
                  go_wp2_with fail
                  go_meet
                  case rel => exact ⟨rfl, rfl⟩
                · have hki : ¬ ((k : Int) < s.size) := by omega
                  go_wp2_with fail
                  go_meet
                  case rel => exact ⟨rfl, rfl⟩
          case rest =>
            obtain ⟨rfl, rfl⟩ := hcut
            go_wp2_with fail
            refine (cC _).mono ?_
            rintro e W1 ⟨rfl, hb1⟩
            have hb1 := bt' (Below.refl _ _) hb1
            go_wp2_with fail
            refine (cD _).mono ?_
            rintro e W2 ⟨rfl, rfl⟩
            go_wp2_with fail
            refine (cQ _).mono ?_
            rintro e W3 ⟨rfl, hb3⟩
            have hb3 := bt' hb1 hb3
            have hzs : (G ++ ⟨#[63]⟩ : ByteArray).size ≤ 90002 := by rw [ByteArray.size_append]; show G.size + 1 ≤ _; omega
            go_wp2_with fail
            go_ret2
            exact ⟨⟨_, by rw [HV.out] <;> rfl, fun m h => by rw [HV.out] at h; rw [← Option.some.inj h]; exact HS.out⟩, hb3⟩
    · obtain rfl := Option.some.inj h
      obtain rfl : b = b2 := by
        have : Tg.full (47 :: b2) = 47 :: b2 := rfl
        rw [this] at hb; exact (List.cons.inj hb).2.symm
      obtain ⟨PT, hPT⟩ : ∃ PT, PT = str (47 :: b) := ⟨_, rfl⟩
      rw [← hPT] at cC cD
      have hPz : 0 < PT.size := by rw [hPT, str_size]; simp
      have hPzi : (0 : Int) < PT.size := by omega
      have i47 : ((PT[0]'hPz).toNat : Int) = 47 := by rw [idx0 PT 47 b hPT hPz]; rfl
      obtain ⟨nP1, nP2, nP3⟩ := list_ne (a := PT) (l := []) (by rw [hPT, str_list]; simp)
      clear h hb hsl hfull hPT e0
      by_cases hNs : N = s.size
      · have bN : ((N : Int) == (s.size : Int)) = true := by rw [hNs]; exact beq_self_eq_true _
        have HV : Hid (R = some (Tg.straight (47 :: b))) := Lib.hid (HE1.out (by rw [hNs]; exact HLN.out))
        clear HE1 HE2 cQ hql hNs
        go_enter Tryz.func47, Tryz.ntmps47
        go_upto_block 0 with fail
        go_cut [4] from 8 to 19 (fun i wx => i = .int .i64 N ∧ wx = w)
        case first =>
          go_wp2_with fail
          go_loop [4] (fun i => ∃ k : Nat, k ≤ N ∧ i = .int .i64 k) (fun i => N - (intOf i).toNat)
          case atStart => exact ⟨0, by omega, rfl⟩
          case round =>
            obtain ⟨k, hk, rfl⟩ := hrel
            by_cases hlt : k < N
            · have hks : k < s.size := by omega
              have b63 := qm_false (F2.out k hks hlt)
              have hki : (k : Int) < s.size := by omega
              have hk0 : (0 : Int) ≤ k := by omega
              go_wp2_with fail
              go_round
              case rel => exact ⟨k + 1, by omega, by go_num⟩
              case measure => simp [intOf]; omega
            · obtain rfl : k = N := by omega
              by_cases hks : k < s.size
              · have i63 := qm_true (F3.out hks)
                have hki : (k : Int) < s.size := by omega
                go_wp2_with fail
                go_meet
                case rel => exact ⟨rfl, rfl⟩
              · have hki : ¬ ((k : Int) < s.size) := by omega
                go_wp2_with fail
                go_meet
                case rel => exact ⟨rfl, rfl⟩
        case rest =>
          obtain ⟨rfl, rfl⟩ := hcut
          go_wp2_with fail
          refine (cC _).mono ?_
          rintro e W1 ⟨rfl, hb1⟩
          have hb1 := bt' (Below.refl _ _) hb1
          go_wp2_with fail
          refine (cD _).mono ?_
          rintro e W2 ⟨rfl, rfl⟩
          go_wp2_with fail
          go_ret2
          exact ⟨⟨_, by rw [HV.out] <;> rfl, fun m h => by rw [HV.out] at h; rw [← Option.some.inj h]; exact HG.out⟩, hb1⟩
      · have bN : ((N : Int) == (s.size : Int)) = false := beq_eq_false_iff_ne.2 (by omega)
        have hN1 : (N : Int) + 1 ≤ s.size := by omega
        have hw1 : IntKind.i64.wrap ((N : Int) + 1) = (N : Int) + 1 := by rw [IntKind.wrap_i64]; omega
        have HVm := Lib.hid (HE2.out (by have := HLN.out; omega))
        cases qo with
        | none =>
          have HV : Hid (R = none) := Lib.hid HVm.out
          have e0 : eres none = .tuple #[.string ⟨#[]⟩, .bool false] := rfl
          rw [e0] at cQ
          clear HE1 HE2 hql hNs HVm
          go_enter Tryz.func47, Tryz.ntmps47
          go_upto_block 0 with fail
          go_cut [4] from 8 to 19 (fun i wx => i = .int .i64 N ∧ wx = w)
          case first =>
            go_wp2_with fail
            go_loop [4] (fun i => ∃ k : Nat, k ≤ N ∧ i = .int .i64 k) (fun i => N - (intOf i).toNat)
            case atStart => exact ⟨0, by omega, rfl⟩
            case round =>
              obtain ⟨k, hk, rfl⟩ := hrel
              by_cases hlt : k < N
              · have hks : k < s.size := by omega
                have b63 := qm_false (F2.out k hks hlt)
                have hki : (k : Int) < s.size := by omega
                have hk0 : (0 : Int) ≤ k := by omega
                go_wp2_with fail
                go_round
                case rel => exact ⟨k + 1, by omega, by go_num⟩
                case measure => simp [intOf]; omega
              · obtain rfl : k = N := by omega
                by_cases hks : k < s.size
                · have i63 := qm_true (F3.out hks)
                  have hki : (k : Int) < s.size := by omega
                  go_wp2_with fail
                  go_meet
                  case rel => exact ⟨rfl, rfl⟩
                · have hki : ¬ ((k : Int) < s.size) := by omega
                  go_wp2_with fail
                  go_meet
                  case rel => exact ⟨rfl, rfl⟩
          case rest =>
            obtain ⟨rfl, rfl⟩ := hcut
            go_wp2_with fail
            refine (cC _).mono ?_
            rintro e W1 ⟨rfl, hb1⟩
            have hb1 := bt' (Below.refl _ _) hb1
            go_wp2_with fail
            refine (cD _).mono ?_
            rintro e W2 ⟨rfl, rfl⟩
            go_wp2_with fail
            refine (cQ _).mono ?_
            rintro e W3 ⟨rfl, hb3⟩
            have hb3 := bt' hb1 hb3
            have hzs : (G ++ ⟨#[63]⟩ : ByteArray).size ≤ 90002 := by rw [ByteArray.size_append]; show G.size + 1 ≤ _; omega
            go_wp2_with fail
            go_ret2
            exact ⟨⟨_, by rw [HV.out] <;> rfl, fun m h => by rw [HV.out] at h; cases h⟩, hb3⟩
        | some q =>
          have HV : Hid (R = some (Tg.straight (47 :: b) ++ 63 :: q)) := Lib.hid HVm.out
          have e0 : eres (some q) = .tuple #[.string (str q), .bool true] := rfl
          rw [e0] at cQ
          have hqz : (str q).size ≤ 90000 := by rw [str_size]; exact hql q rfl
          have HS : Hid (G ++ ⟨#[63]⟩ ++ str q = str (Tg.straight (47 :: b) ++ 63 :: q)) := Lib.hid (str_same (by rw [app_data, app_data, HG.out, str_list, str_list]; simp))
          clear HE1 HE2 hql hNs HVm
          generalize str q = Q at *
          go_enter Tryz.func47, Tryz.ntmps47
          go_upto_block 0 with fail
          go_cut [4] from 8 to 19 (fun i wx => i = .int .i64 N ∧ wx = w)
          case first =>
            go_wp2_with fail
            go_loop [4] (fun i => ∃ k : Nat, k ≤ N ∧ i = .int .i64 k) (fun i => N - (intOf i).toNat)
            case atStart => exact ⟨0, by omega, rfl⟩
            case round =>
              obtain ⟨k, hk, rfl⟩ := hrel
              by_cases hlt : k < N
              · have hks : k < s.size := by omega
                have b63 := qm_false (F2.out k hks hlt)
                have hki : (k : Int) < s.size := by omega
                have hk0 : (0 : Int) ≤ k := by omega
                go_wp2_with fail
                go_round
                case rel => exact ⟨k + 1, by omega, by go_num⟩
                case measure => simp [intOf]; omega
              · obtain rfl : k = N := by omega
                by_cases hks : k < s.size
                · have i63 := qm_true (F3.out hks)
                  have hki : (k : Int) < s.size := by omega
                  go_wp2_with fail
                  go_meet
                  case rel => exact ⟨rfl, rfl⟩
                · have hki : ¬ ((k : Int) < s.size) := by omega
                  go_wp2_with fail
                  go_meet
                  case rel => exact ⟨rfl, rfl⟩
          case rest =>
            obtain ⟨rfl, rfl⟩ := hcut
            go_wp2_with fail
            refine (cC _).mono ?_
            rintro e W1 ⟨rfl, hb1⟩
            have hb1 := bt' (Below.refl _ _) hb1
            go_wp2_with fail
            refine (cD _).mono ?_
            rintro e W2 ⟨rfl, rfl⟩
            go_wp2_with fail
            refine (cQ _).mono ?_
            rintro e W3 ⟨rfl, hb3⟩
            have hb3 := bt' hb1 hb3
            have hzs : (G ++ ⟨#[63]⟩ : ByteArray).size ≤ 90002 := by rw [ByteArray.size_append]; show G.size + 1 ≤ _; omega
            go_wp2_with fail
            go_ret2
            exact ⟨⟨_, by rw [HV.out] <;> rfl, fun m h => by rw [HV.out] at h; rw [← Option.some.inj h]; exact HS.out⟩, hb3⟩

set_option maxHeartbeats 1600000 in
set_option maxRecDepth 100000 in
theorem rat_s (h : List UInt8) (k : Int) (l : List UInt8) (w : World) (hl : l.length ≤ 90000) (hbg : Tg.Begins l) :
    Calls Tryz.prog 27 #[.string (str h), .int .i64 k, .string (str l)] w fun e w' => e = .returned (ures (Tg.atU h k (Tg.slash l))) ∧ Below w.heap.size w w' := by
  have cP := fun (W : World) => rplace_s l W hl hbg
  have hR0 := Res.start w (.string ⟨#[]⟩) (.int .i64 0) (.string ⟨#[]⟩)
  have HAT : Hid (∀ r, Tg.place (Tg.slash l) = r → Tg.atU h k (Tg.slash l) = match r with | none => (Tg.zero, 10) | some m => (⟨h, k, m⟩, 0)) := Lib.hid (by rintro r rfl; rfl)
  generalize str l = s at *
  cases hp : Tg.place (Tg.slash l) with
  | none =>
    have HV : Hid (Tg.atU h k (Tg.slash l) = (Tg.zero, 10)) := Lib.hid (HAT.out none hp)
    rw [hp, show (none : Option (List UInt8)).isSome = false from rfl] at cP
    generalize str h = H at *
    clear HAT hp hl hbg
    go_enter Tryz.func27, Tryz.ntmps27
    go_upto_region 1 with fail
    generalize w.alloc (.cells #[.string ⟨#[]⟩, .int .i64 0, .string ⟨#[]⟩] 24) = W0 at hR0 ⊢
    go_wp2_with fail
    refine (cP _).mono ?_
    rintro e W1 ⟨⟨x, rfl, _⟩, hb1⟩
    have hR1 := hR0.later hb1
    go_wp2_with (refine stU hR1 rfl (.tmp 6) (.tmp 17) rfl _ _ _ rfl rfl ?_; intro W2 hR2 _)
    (try simp only [Exit.inBlock, Exit.then])
    refine ret_uri rfl w.heap.size _ _ _ rfl hR2.cell rfl ?_
    exact ⟨by rw [HV.out]; rfl, hR2.below⟩
  | some m =>
    have HV : Hid (Tg.atU h k (Tg.slash l) = (⟨h, k, m⟩, 0)) := Lib.hid (HAT.out (some m) hp)
    have HU : Hid (ures (⟨h, k, m⟩, 0) = .tuple #[.agg #[.string (str h), .int .i64 k, .string (str m)], .int .i64 0]) := Lib.hid rfl
    rw [hp, show (some m : Option (List UInt8)).isSome = true from rfl] at cP
    generalize str h = H at *
    clear HAT hp hl hbg
    go_enter Tryz.func27, Tryz.ntmps27
    go_upto_region 1 with fail
    generalize w.alloc (.cells #[.string ⟨#[]⟩, .int .i64 0, .string ⟨#[]⟩] 24) = W0 at hR0 ⊢
    go_wp2_with fail
    refine (cP _).mono ?_
    rintro e W1 ⟨⟨x, rfl, hx⟩, hb1⟩
    have hR1 := hR0.later hb1
    obtain rfl := hx m rfl
    go_wp2_with (refine stU hR1 rfl (.tmp 6) (.tmp 21) rfl _ _ _ rfl rfl ?_; intro W2 hR2 _)
    (try simp only [Exit.inBlock, Exit.then])
    refine ret_uri rfl w.heap.size _ _ _ rfl hR2.cell rfl ?_
    exact ⟨by rw [HV.out, HU.out]; rfl, hR2.below⟩
end Go.Proofs.YtlikjfemkadciaaGreatDoor
