/- The statements of layer 5: TargetDots. -/
import Derived.Test.YtlikjfemkadciaaGreatDoorTg27
namespace Go.Proofs.YtlikjfemkadciaaGreatDoor
open Go.RowKit

theorem seg_plain {seg : ByteArray} (h : Tg.plainSeg seg.data.toList) : (¬ seg.toList = [46] ∧ (seg.toList == [46]) = false) ∧ (¬ seg.toList = [46, 46] ∧ (seg.toList == [46, 46]) = false) :=
  ⟨⟨(list_ne h.1).1, (list_ne h.1).2.1⟩, ⟨(list_ne h.2).1, (list_ne h.2).2.1⟩⟩
theorem drop_at (P : ByteArray) (D : List UInt8) (h : P.data.toList = D) (k : Nat) (hk : k < P.size) : D.drop k = P[k] :: D.drop (k + 1) := by
  have h1 := Lib.data_getElem? P k hk
  rw [h] at h1
  obtain ⟨h2, h3⟩ := List.getElem?_eq_some_iff.1 h1
  rw [List.drop_eq_getElem_cons h2, h3]

set_option maxHeartbeats 6400000 in
set_option maxRecDepth 100000 in
theorem tdots_w (s : ByteArray) (w : World) (hs : s.size ≤ 9223372036854775807) (hm : MaxOk w) (hT : Tabs w) :
    Calls Tryz.prog 6 #[.string s] w fun e w' => e = .returned (.bool true) ∧ Below w.heap.size w w' := by
  have cA := fun (W : World) (hb : Below w.heap.size w W) => tawake_w W (hm.later hb) (hT.later hb)
  by_cases h1 : (4000 : Int) < s.size
  · clear hm hT hs
    go_enter Tryz.func6, Tryz.ntmps6
    go_wp2_with fail
    refine (cA _ (Below.refl _ _)).mono ?_
    rintro e1 w1 ⟨rfl, hb1⟩
    go_wp2_with fail
    refine (cA _ hb1).mono ?_
    rintro e2 w2 ⟨rfl, hb2⟩
    go_wp2_with fail
    go_ret
    exact ⟨rfl, bt' hb1 hb2⟩
  obtain ⟨l, rfl⟩ : ∃ l, s = str l := ⟨s.data.toList, (str_of s).symm⟩
  have hl : l.length ≤ 4000 := by rw [str_size] at h1; omega
  have cO := fun (W : World) (hb : Below w.heap.size w W) => Of_s l [97] W (by omega) (by decide) (hm.later hb) (hT.later hb)
  rw [show str [97] = ⟨#[97]⟩ from rfl] at cO
  by_cases he : (Tg.ofT l [97]).2 = 0
  · have hok := Tg.ofT_ok he
    obtain ⟨u, hu⟩ : ∃ u, Tg.ofT l [97] = (u, 0) := ⟨_, Prod.ext rfl he⟩
    rw [hu] at hok
    obtain ⟨ra, K, rc⟩ := u
    obtain ⟨pt, hpt⟩ := hok.1.head
    have hpl := hok.1.place
    have hlen := hok.2.2.1
    simp only [] at hpt hpl hlen
    subst hpt
    rw [hu, ures_u] at cO
    obtain ⟨q, hq, hD, hPct⟩ := Tg.place_parts hpl
    obtain ⟨P, hP⟩ : ∃ P, P = str (47 :: pt) := ⟨_, rfl⟩
    rw [← hP] at cO
    have hPd : P.data.toList = 47 :: pt := by rw [hP, str_list]
    have hPz : P.size = pt.length + 1 := by rw [hP, str_size]; rfl
    obtain ⟨D, hDe⟩ : ∃ D, D = 47 :: pt := ⟨_, rfl⟩
    have hp0 : 0 < P.size := by omega
    have hp0i : (0 : Int) < P.size := by omega
    have ip0 : ((P[0]'hp0).toNat : Int) = 47 := by rw [idx0 P 47 pt hP hp0]; rfl
    rw [← hDe] at hD hPct hPd
    have hps : P.size ≤ 5000 := by simp at hlen; omega
    have HD := Lib.hid (fun k hk => drop_at P D hPd k hk)
    have HPd := Lib.hid hPd
    have HS0 : Hid (Tg.DSt q (D.drop 0) (⟨#[]⟩ : ByteArray).data.toList) := Lib.hid hD
    have HPC := Lib.hid hPct
    have HQ := Lib.hid hq
    have HPZ : Hid (P.size = D.length) := Lib.hid (by rw [hPz, hDe]; rfl)
    generalize str l = s at *
    generalize str ra = H at *
    clear hD hPct hDe hP hPd hPz hpl hlen hok hu hm hT hs hq hl he
    go_enter Tryz.func6, Tryz.ntmps6
    go_wp2_with fail
    refine (cA _ (Below.refl _ _)).mono ?_
    rintro e1 w1 ⟨rfl, hb1⟩
    go_wp2_with fail
    refine (cO _ hb1).mono ?_
    rintro e2 w2 ⟨rfl, hb2⟩
    have hU3 := Res.fresh (bt' hb1 hb2) (.string H) (.int .i64 K) (.string P)
    clear cA cO hb1 hb2
    go_upto_region 4 with fail
    generalize w2.alloc (.cells #[.string H, .int .i64 K, .string P] 24) = w3 at hU3 ⊢
    generalize w2.heap.size = gU at hU3 ⊢
    obtain ⟨c0, c1, c2⟩ := box_cell hU3.cell
    have hB3 := hU3.below
    clear hU3
    go_wp2_with fail
    go_loopw [6, 7, 8] (fun sg qy i wr => ∃ (k : Nat) (seg : ByteArray) (qb : Bool), k ≤ P.size + 1 ∧ i = .int .i64 k ∧ sg = .string seg ∧ qy = .bool qb ∧ seg.size ≤ k ∧ Hid (qb = false → k ≤ P.size → Tg.DSt q (D.drop k) seg.data.toList) ∧ Below w.heap.size w wr) (fun _ _ i _ => P.size + 1 - (intOf i).toNat)
    case atStart => exact ⟨0, ⟨#[]⟩, false, by omega, rfl, rfl, rfl, Nat.le_refl _, Lib.hid (fun _ _ => HS0.out), hB3⟩
    case round =>
      obtain ⟨k, seg, qb, hk, rfl, rfl, rfl, hseg, HI, hB⟩ := hrel
      have hk0 : (0 : Int) ≤ k := by omega
      have hw1 : IntKind.i64.wrap ((k : Int) + 1) = (k : Int) + 1 := by rw [IntKind.wrap_i64]; omega
      have hgs : seg.size ≤ 5001 := by omega
      by_cases hk1 : k = P.size + 1
      · have hki : ¬ ((k : Int) ≤ P.size) := by omega
        clear hk1
        go_wp2_with fail
        go_ret
        exact ⟨rfl, hB⟩
      have hki : (k : Int) ≤ P.size := by omega
      by_cases hk2 : k = P.size
      · have bk : ((k : Int) == (P.size : Int)) = true := by rw [hk2]; exact beq_self_eq_true _
        have hkn : ¬ ((k : Int) < P.size) := by omega
        have hk3 : k + 1 ≤ P.size + 1 := by omega
        have HN : ∀ b : Bool, Hid (b = false → k + 1 ≤ P.size → Tg.DSt q (D.drop (k + 1)) (⟨#[]⟩ : ByteArray).data.toList) := fun b => Lib.hid (fun _ h => by omega)
        cases qb with
        | true =>
          clear hk1 hk2
          go_wp2_with fail
          go_roundw
          case rel => exact ⟨k + 1, ⟨#[]⟩, true, hk3, by go_num, rfl, rfl, Nat.zero_le _, HN _, hB⟩
          case measure => simp [intOf]; omega
        | false =>
          have hpl : Tg.plainSeg seg.data.toList := by
            have h := HI.out rfl (by omega)
            rw [List.drop_eq_nil_of_le (by have := HPZ.out; omega)] at h
            exact h.nil
          obtain ⟨⟨s1, s2⟩, s3, s4⟩ := seg_plain hpl
          clear hk1 hk2 hpl
          go_wp2_with fail
          go_roundw
          case rel => exact ⟨k + 1, ⟨#[]⟩, false, hk3, by go_num, rfl, rfl, Nat.zero_le _, HN _, hB⟩
          case measure => simp [intOf]; omega
      have hks : k < P.size := by omega
      have hksi : (k : Int) < P.size := by omega
      have bk : ((k : Int) == (P.size : Int)) = false := beq_eq_false_iff_ne.2 (by omega)
      have hk1i : (k : Int) + 1 ≤ P.size := by omega
      have hk3 : k + 1 ≤ P.size + 1 := by omega
      have hdk := HD.out k hks
      obtain ⟨X, hX⟩ : ∃ X, X = P.extract k (k + 1) := ⟨_, rfl⟩
      have hXd : X.data.toList = [P[k]] := by
        rw [hX, Lib.extract_data, HPd.out, hdk]
        simp
      have hXz : X.size ≤ 1 := by rw [hX]; simp; omega
      have eX := hX.symm
      have HXd := Lib.hid hXd
      have hXs : (seg ++ X).size ≤ k + 1 := by rw [ByteArray.size_append]; omega
      have hEsc : P[k] = 37 → k + 3 ≤ P.size ∧ ∃ Y : ByteArray, Y = P.extract k (k + 3) ∧ ∀ W, Calls Tryz.prog 18 #[.string Y, .bool true] W fun e w' => e = .returned (.tuple #[.string Y, .bool true]) ∧ Below W.heap.size W w' := fun h37 => by
        have h37' : D[k]? = some 37 := by
          have := Lib.data_getElem? P k hks
          rw [HPd.out, h37] at this; exact this
        obtain ⟨a, b, r, e1, e2⟩ := HPC.out k h37'
        have hlen := congrArg List.length e1
        rw [List.length_drop, ← HPZ.out] at hlen
        simp at hlen
        refine ⟨by omega, P.extract k (k + 3), rfl, fun W => ?_⟩
        have eY : P.extract k (k + 3) = str [37, a, b] := by
          refine str_same ?_
          rw [Lib.extract_data, HPd.out, e1]
          simp
        have c := rcoded_s Tg.queryc true [37, a, b] W (by simp) p_quer
        rw [e2] at c
        rw [eY]; exact c
      have HE := Lib.hid hEsc
      clear hEsc hX hXd hk1 hk2
      cases qb with
      | true =>
        have HN : Hid (true = false → k + 1 ≤ P.size → Tg.DSt q (D.drop (k + 1)) (seg ++ X).data.toList) := Lib.hid (fun h _ => by cases h)
        by_cases h37 : P[k] = 37
        · obtain ⟨h3, Y, hY, cC⟩ := HE.out h37
          have i37 : (P[k].toNat : Int) = 37 := by rw [h37]; rfl
          have eY := hY.symm
          have hw2 : IntKind.i64.wrap ((k : Int) + 2) = (k : Int) + 2 := by rw [IntKind.wrap_i64]; omega
          have hw3 : IntKind.i64.wrap ((k : Int) + 3) = (k : Int) + 3 := by rw [IntKind.wrap_i64]; omega
          have hk2i : ¬ ((P.size : Int) ≤ (k : Int) + 2) := by omega
          have hk3i : (k : Int) + 3 ≤ P.size := by omega
          clear hY h37 hdk
          go_wp2_with fail
          refine (cC _).mono ?_
          rintro e5 w5 ⟨rfl, hb5⟩
          have hB := hB.trans (hb5.mono hB.size)
          go_wp2_with fail
          go_roundw
          case rel => exact ⟨k + 1, seg ++ X, true, hk3, by go_num, rfl, rfl, hXs, HN, hB⟩
          case measure => simp [intOf]; omega
        · have b37 := ne8 P[k] 37 37 rfl h37
          have n37 : ¬ ((P[k].toNat : Int) = 37) := beq_eq_false_iff_ne.1 (nq8 P[k] 37 37 rfl h37)
          clear h37 hdk
          go_wp2_with fail
          go_roundw
          case rel => exact ⟨k + 1, seg ++ X, true, hk3, by go_num, rfl, rfl, hXs, HN, hB⟩
          case measure => simp [intOf]; omega
      | false =>
        have hD := HI.out rfl (by omega)
        rw [hdk] at hD
        by_cases h47 : P[k] = 47
        · have i47 : (P[k].toNat : Int) = 47 := by rw [h47]; rfl
          rw [h47] at hD
          obtain ⟨hpl, hD2⟩ := hD.slash HQ.out
          obtain ⟨⟨s1, s2⟩, s3, s4⟩ := seg_plain hpl
          have HN : Hid (false = false → k + 1 ≤ P.size → Tg.DSt q (D.drop (k + 1)) (⟨#[]⟩ : ByteArray).data.toList) := Lib.hid (fun _ _ => hD2)
          clear hpl hD2 hD h47 hdk
          go_wp2_with fail
          go_roundw
          case rel => exact ⟨k + 1, ⟨#[]⟩, false, hk3, by go_num, rfl, rfl, Nat.zero_le _, HN, hB⟩
          case measure => simp [intOf]; omega
        by_cases h63 : P[k] = 63
        · have i63 : (P[k].toNat : Int) = 63 := by rw [h63]; rfl
          rw [h63] at hD
          have hpl := hD.ask
          obtain ⟨⟨s1, s2⟩, s3, s4⟩ := seg_plain hpl
          have HN : Hid (true = false → k + 1 ≤ P.size → Tg.DSt q (D.drop (k + 1)) (⟨#[]⟩ : ByteArray).data.toList) := Lib.hid (fun h _ => by cases h)
          clear hpl hD h63 h47 hdk
          go_wp2_with fail
          go_roundw
          case rel => exact ⟨k + 1, ⟨#[]⟩, true, hk3, by go_num, rfl, rfl, Nat.zero_le _, HN, hB⟩
          case measure => simp [intOf]; omega
        have HN : Hid (k + 1 ≤ P.size → Tg.DSt q (D.drop (k + 1)) (seg ++ X).data.toList) := Lib.hid (fun _ => by rw [app_data, HXd.out]; exact hD.other HQ.out h47 h63)
        have b47 := nq8 P[k] 47 47 rfl h47
        have b63 := nq8 P[k] 63 63 rfl h63
        clear hD
        by_cases h37 : P[k] = 37
        · clear b47 b63 h47 h63
          obtain ⟨h3, Y, hY, cC⟩ := HE.out h37
          have i37 : (P[k].toNat : Int) = 37 := by rw [h37]; rfl
          have eY := hY.symm
          have hw2 : IntKind.i64.wrap ((k : Int) + 2) = (k : Int) + 2 := by rw [IntKind.wrap_i64]; omega
          have hw3 : IntKind.i64.wrap ((k : Int) + 3) = (k : Int) + 3 := by rw [IntKind.wrap_i64]; omega
          have hk2i : ¬ ((P.size : Int) ≤ (k : Int) + 2) := by omega
          have hk3i : (k : Int) + 3 ≤ P.size := by omega
          clear hY h37 hdk
          go_wp2_with fail
          refine (cC _).mono ?_
          rintro e5 w5 ⟨rfl, hb5⟩
          have hB := hB.trans (hb5.mono hB.size)
          go_wp2_with fail
          go_roundw
          case rel => exact ⟨k + 1, seg ++ X, false, hk3, by go_num, rfl, rfl, hXs, Lib.hid (fun _ => HN.out), hB⟩
          case measure => simp [intOf]; omega
        · have b37 := ne8 P[k] 37 37 rfl h37
          have n37 : ¬ ((P[k].toNat : Int) = 37) := beq_eq_false_iff_ne.1 (nq8 P[k] 37 37 rfl h37)
          have n47 : ¬ ((P[k].toNat : Int) = 47) := beq_eq_false_iff_ne.1 b47
          have n63 : ¬ ((P[k].toNat : Int) = 63) := beq_eq_false_iff_ne.1 b63
          clear h37 h47 h63 hdk
          go_wp2_with fail
          go_roundw
          case rel => exact ⟨k + 1, seg ++ X, false, hk3, by go_num, rfl, rfl, hXs, Lib.hid (fun _ => HN.out), hB⟩
          case measure => simp [intOf]; omega
  · obtain ⟨u, e, hu⟩ : ∃ u e, Tg.ofT l [97] = (u, e) := ⟨_, _, rfl⟩
    rw [hu] at he
    obtain ⟨ra, K, rc⟩ := u
    rw [hu, ures_u] at cO
    have be : (e != 0) = true := by rw [bne, beq_eq_false_iff_ne.2 he]; rfl
    generalize str l = s at *
    generalize str ra = H at *
    generalize str rc = P at *
    clear he hu hm hT hs hl
    go_enter Tryz.func6, Tryz.ntmps6
    go_wp2_with fail
    refine (cA _ (Below.refl _ _)).mono ?_
    rintro e1 w1 ⟨rfl, hb1⟩
    go_wp2_with fail
    refine (cO _ hb1).mono ?_
    rintro e2 w2 ⟨rfl, hb2⟩
    have hU3 := Res.fresh (bt' hb1 hb2) (.string H) (.int .i64 K) (.string P)
    clear cA cO hb1 hb2
    go_upto_region 4 with fail
    generalize w2.alloc (.cells #[.string H, .int .i64 K, .string P] 24) = w3 at hU3 ⊢
    have hB3 := hU3.below
    clear hU3
    go_wp2_with fail
    go_ret
    exact ⟨rfl, hB3⟩
end Go.Proofs.YtlikjfemkadciaaGreatDoor
