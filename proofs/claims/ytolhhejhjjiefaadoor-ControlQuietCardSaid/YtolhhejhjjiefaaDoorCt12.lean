/- The statements of layer 4: ControlQuiet. -/
import Derived.Test.YtolhhejhjjiefaaDoorCt5
import Derived.Test.YtolhhejhjjiefaaDoorCt9
import Derived.Test.YtolhhejhjjiefaaDoorCt7
import Derived.Deep.DeepCutAuto
namespace Go.Proofs.YtolhhejhjjiefaaDoor
open Go.RowKit

theorem known_len : Ctl.known.length = 11 := rfl
/-- 'control.Parse(s, t, u)'. -/
theorem parse3 (W : World) (s t u : ByteArray) (l m n : List UInt8) (h : s = str l) (h' : t = str m) (h'' : u = str n) (hl : l.length ≤ 1000000 ∧ m.length ≤ 1000000 ∧ n.length ≤ 1000000) (hm : MaxOk W) :
    Calls Tryd.prog 9 #[.slice (some ⟨W.heap.size, 0, none⟩) 3 3] (W.alloc (.cells #[.string s, .string t, .string u] 9)) fun e w' => e = .returned (cval (Ctl.parse [l, m, n])) ∧ Below W.heap.size W w' := by
  have hb : Below W.heap.size W (W.alloc (.cells #[.string s, .string t, .string u] 9)) := (Below.refl _ W).alloc (Nat.le_refl _) _
  refine (Parse_w _ [l, m, n] _ (SIn.three W s t u l m n h h' h'') (by simp) (fun x hx => by simp only [List.mem_cons, List.not_mem_nil, or_false] at hx; rcases hx with rfl | rfl | rfl <;> omega) (hm.later hb)).mono ?_
  rintro e w' ⟨he, hb'⟩
  exact ⟨he, hb.trans (hb'.mono hb.size)⟩
set_option maxHeartbeats 3200000 in
set_option maxRecDepth 100000 in
theorem cquiet_w (nm ar : ByteArray) (w : World) (hn : nm.size ≤ 9223372036854775807) (ha : ar.size ≤ 9223372036854775807) (hm : MaxOk w) :
    Calls Tryd.prog 7 #[.string nm, .string ar] w fun e w' => e = .returned (.bool true) ∧ Below w.heap.size w w' := by
  have cA := fun (w1 : World) (hb : Below w.heap.size w w1) => cawake_w w1 (hm.later hb)
  have HM := Lib.hid hm
  have hwb : Below w.heap.size w w := Below.refl _ _
  clear hm
  by_cases h1 : (100 : Int) < nm.size
  · go_enter Tryd.func7, Tryd.ntmps7
    go_wp2_with fail
    refine (cA w hwb).mono ?_
    rintro e w1 ⟨rfl, hb1⟩
    go_wp2_with fail
    refine (cA w1 hb1).mono ?_
    rintro e w2 ⟨rfl, hb2⟩
    go_wp2_with fail
    go_ret
    exact ⟨rfl, bt hb1 hb2⟩
  have h1' : (nm.size : Int) ≤ 100 := by omega
  by_cases h2 : (100 : Int) < ar.size
  · go_enter Tryd.func7, Tryd.ntmps7
    go_wp2_with fail
    refine (cA w hwb).mono ?_
    rintro e w1 ⟨rfl, hb1⟩
    go_wp2_with fail
    refine (cA w1 hb1).mono ?_
    rintro e w2 ⟨rfl, hb2⟩
    go_wp2_with fail
    go_ret
    exact ⟨rfl, bt hb1 hb2⟩
  have h2' : (ar.size : Int) ≤ 100 := by omega
  have cT1 := fun (W : World) => rToken_s nm W (by omega)
  have cT2 := fun (W : World) => rToken_s ar W (by omega)
  by_cases t1 : Oct.token nm.data.toList = true
  case neg =>
    have t1' : Oct.token nm.data.toList = false := by simpa using t1
    rw [t1'] at cT1
    clear t1 t1'
    go_enter Tryd.func7, Tryd.ntmps7
    go_wp2_with fail
    refine (cA w hwb).mono ?_
    rintro e w1 ⟨rfl, hb1⟩
    go_wp2_with fail
    refine (cT1 w1).mono ?_
    rintro e w2 ⟨rfl, hb2⟩
    have hb2 := bt hb1 hb2
    go_wp2_with fail
    refine (cA w2 hb2).mono ?_
    rintro e w3 ⟨rfl, hb3⟩
    go_wp2_with fail
    go_ret
    exact ⟨rfl, bt hb2 hb3⟩
  by_cases t2 : Oct.token ar.data.toList = true
  case neg =>
    have t2' : Oct.token ar.data.toList = false := by simpa using t2
    rw [t2'] at cT2
    rw [t1] at cT1
    clear t2 t2' t1
    go_enter Tryd.func7, Tryd.ntmps7
    go_wp2_with fail
    refine (cA w hwb).mono ?_
    rintro e w1 ⟨rfl, hb1⟩
    go_wp2_with fail
    refine (cT1 w1).mono ?_
    rintro e w2 ⟨rfl, hb2⟩
    have hb2 := bt hb1 hb2
    go_wp2_with fail
    refine (cT2 w2).mono ?_
    rintro e w3 ⟨rfl, hb3⟩
    have hb3 := bt hb2 hb3
    go_wp2_with fail
    refine (cA w3 hb3).mono ?_
    rintro e w4 ⟨rfl, hb4⟩
    go_wp2_with fail
    go_ret
    exact ⟨rfl, bt hb3 hb4⟩
  have HQK : Hid (Oct.lower nm.data.toList ∈ Ctl.known → Ctl.parse [nm.data.toList] ≠ Ctl.none0 ∧ Ctl.parse [nm.data.toList ++ 61 :: ar.data.toList] ≠ Ctl.none0) := Lib.hid (Ctl.quiet_known t1 t2)
  have HQO : Hid (Oct.lower nm.data.toList ∉ Ctl.known → Ctl.parse [nm.data.toList, nm.data.toList ++ 61 :: ar.data.toList, nm.data.toList ++ 61 :: (34 :: ar.data.toList ++ [34])] = Ctl.none0) := Lib.hid (Ctl.quiet_other t1 t2)
  rw [t1] at cT1
  rw [t2] at cT2
  clear t1 t2
  have e1 : nm = str nm.data.toList := (str_of nm).symm
  have e2 : nm ++ ⟨#[61]⟩ ++ ar = str (nm.data.toList ++ 61 :: ar.data.toList) := str_same (by rw [app_list, app_list]; simp)
  have e3 : nm ++ ⟨#[61, 34]⟩ ++ ar ++ ⟨#[34]⟩ = str (nm.data.toList ++ 61 :: (34 :: ar.data.toList ++ [34])) := str_same (by rw [app_list, app_list, app_list]; simp)
  have zn : nm.data.toList.length ≤ 100 := by rw [Oct.length_size]; omega
  have za : ar.data.toList.length ≤ 100 := by rw [Oct.length_size]; omega
  have cP1 := fun (W : World) (hb : Below w.heap.size w W) => parse1 W _ _ e1 (by omega) (HM.out.later hb)
  have cP2 := fun (W : World) (hb : Below w.heap.size w W) => parse1 W _ _ e2 (by simp; simp at zn za; omega) (HM.out.later hb)
  have cP3 := fun (W : World) (hb : Below w.heap.size w W) => parse3 W _ _ _ _ _ _ e1 e2 e3 ⟨by omega, by simp; simp at zn za; omega, by simp; simp at zn za; omega⟩ (HM.out.later hb)
  have cN := fun (W : World) => None_w W
  have cL := fun (W : World) => rLower_s nm W (by omega)
  generalize Oct.lower nm.data.toList = ln at *
  generalize Ctl.parse [nm.data.toList] = x1 at *
  generalize Ctl.parse [nm.data.toList ++ 61 :: ar.data.toList] = x2 at *
  generalize Ctl.parse [nm.data.toList, nm.data.toList ++ 61 :: ar.data.toList, nm.data.toList ++ 61 :: (34 :: ar.data.toList ++ [34])] = x3 at *
  clear e1 e2 e3 zn za
  go_enter Tryd.func7, Tryd.ntmps7
  go_wp2_with fail
  refine (cA w hwb).mono ?_
  rintro e w1 ⟨rfl, hb1⟩
  go_wp2_with fail
  refine (cT1 w1).mono ?_
  rintro e w2 ⟨rfl, hb2⟩
  have hb2 := bt hb1 hb2
  go_wp2_with fail
  refine (cT2 w2).mono ?_
  rintro e w3 ⟨rfl, hb3⟩
  have hb3 := bt hb2 hb3
  have hs := SIn.lits w3 Ctl.known
  have hb4 := hb3.alloc hb3.size (.cells (strCells Ctl.known).toArray 9)
  change SIn (w3.alloc (.cells #[.string ⟨#[110, 111, 45, 115, 116, 111, 114, 101]⟩, .string ⟨#[110, 111, 45, 99, 97, 99, 104, 101]⟩, .string ⟨#[112, 117, 98, 108, 105, 99]⟩, .string ⟨#[112, 114, 105, 118, 97, 116, 101]⟩, .string ⟨#[109, 117, 115, 116, 45, 114, 101, 118, 97, 108, 105, 100, 97, 116, 101]⟩, .string ⟨#[112, 114, 111, 120, 121, 45, 114, 101, 118, 97, 108, 105, 100, 97, 116, 101]⟩, .string ⟨#[111, 110, 108, 121, 45, 105, 102, 45, 99, 97, 99, 104, 101, 100]⟩, .string ⟨#[109, 97, 120, 45, 97, 103, 101]⟩, .string ⟨#[115, 45, 109, 97, 120, 97, 103, 101]⟩, .string ⟨#[109, 97, 120, 45, 115, 116, 97, 108, 101]⟩, .string ⟨#[109, 105, 110, 45, 102, 114, 101, 115, 104]⟩] 9)) (.slice (some ⟨w3.heap.size, 0, none⟩) 11 11) Ctl.known at hs
  change Below w.heap.size w (w3.alloc (.cells #[.string ⟨#[110, 111, 45, 115, 116, 111, 114, 101]⟩, .string ⟨#[110, 111, 45, 99, 97, 99, 104, 101]⟩, .string ⟨#[112, 117, 98, 108, 105, 99]⟩, .string ⟨#[112, 114, 105, 118, 97, 116, 101]⟩, .string ⟨#[109, 117, 115, 116, 45, 114, 101, 118, 97, 108, 105, 100, 97, 116, 101]⟩, .string ⟨#[112, 114, 111, 120, 121, 45, 114, 101, 118, 97, 108, 105, 100, 97, 116, 101]⟩, .string ⟨#[111, 110, 108, 121, 45, 105, 102, 45, 99, 97, 99, 104, 101, 100]⟩, .string ⟨#[109, 97, 120, 45, 97, 103, 101]⟩, .string ⟨#[115, 45, 109, 97, 120, 97, 103, 101]⟩, .string ⟨#[109, 97, 120, 45, 115, 116, 97, 108, 101]⟩, .string ⟨#[109, 105, 110, 45, 102, 114, 101, 115, 104]⟩] 9)) at hb4
  go_upto_region 4 with fail
  generalize hG : w3.heap.size = G at *
  generalize w3.alloc (.cells #[.string ⟨#[110, 111, 45, 115, 116, 111, 114, 101]⟩, .string ⟨#[110, 111, 45, 99, 97, 99, 104, 101]⟩, .string ⟨#[112, 117, 98, 108, 105, 99]⟩, .string ⟨#[112, 114, 105, 118, 97, 116, 101]⟩, .string ⟨#[109, 117, 115, 116, 45, 114, 101, 118, 97, 108, 105, 100, 97, 116, 101]⟩, .string ⟨#[112, 114, 111, 120, 121, 45, 114, 101, 118, 97, 108, 105, 100, 97, 116, 101]⟩, .string ⟨#[111, 110, 108, 121, 45, 105, 102, 45, 99, 97, 99, 104, 101, 100]⟩, .string ⟨#[109, 97, 120, 45, 97, 103, 101]⟩, .string ⟨#[115, 45, 109, 97, 120, 97, 103, 101]⟩, .string ⟨#[109, 97, 120, 45, 115, 116, 97, 108, 101]⟩, .string ⟨#[109, 105, 110, 45, 102, 114, 101, 115, 104]⟩] 9) = w4 at *
  clear hb3 hb2 hb1 cA cT1 cT2 hG
  go_wp2_with fail
  go_loopw [6] (fun i wr => ∃ k : Nat, k ≤ 11 ∧ i = .int .i64 k ∧ Below w.heap.size w wr ∧ SIn wr (.slice (some ⟨G, 0, none⟩) 11 11) Ctl.known ∧ Hid (∀ j (hj : j < Ctl.known.length), j < k → ln ≠ Ctl.known[j])) (fun i _ => 11 - (intOf i).toNat)
  case atStart => exact ⟨0, by omega, rfl, hb4, hs, Lib.hid (fun j _ h => by omega)⟩
  case round =>
    clear hb4 hs
    obtain ⟨k, hk, rfl, hb, hs, HNE⟩ := hrel
    obtain ⟨wo, rfl⟩ : ∃ wo : World, wo = wr := ⟨_, rfl⟩
    by_cases hlt : k < 11
    · have hkl : k < Ctl.known.length := hlt
      have hcell := hs.at_ k hkl
      rw [Nat.zero_add] at hcell
      by_cases he : ln = Ctl.known[k]
      · have hq := HQK.out (he ▸ List.getElem_mem hkl)
        rw [← he] at hcell
        have G1 := fun W => guard_ctl .neq (.inr rfl) 46 47 x1 Ctl.none0 W
        have G2 := fun W => guard_ctl .neq (.inr rfl) 55 56 x2 Ctl.none0 W
        have N1 := fun W => neq_ctl x1 Ctl.none0 W
        have N2 := fun W => neq_ctl x2 Ctl.none0 W
        rw [decide_eq_true hq.1] at N1
        rw [decide_eq_true hq.2] at N2
        have hz1 : nm.size ≤ 100 := by omega
        have hz2 : ar.size ≤ 100 := by omega
        clear hq
        generalize cval Ctl.none0 = v0 at *
        generalize cval x1 = v1 at *
        generalize cval x2 = v2 at *
        generalize str ln = sl at *
        have l1 := fun p : LateOf wo => p.cell hcell
        have l2 := fun p : LateOf wo => late p (cL p.w)
        go_wp2_with fail
        refine wp_region_late (by kernel_rfl) (by kernel_rfl) ?_
        repeat (quiet_step (fail))
        quiet_step ((go_at_call 18; exact l2 _))
        repeat (quiet_step (fail))
        refine wpQuiet_nil ?_
        intro w5 hw'
        have hb5 : Below wo.heap.size wo w5 := by obtain ⟨p, rfl⟩ := hw'; exact p.h
        have hb5 := bt hb hb5
        clear hw' l1 l2
        go_wp2_with fail
        refine (cP1 _ hb5).mono ?_
        rintro e w6 ⟨rfl, hb6⟩
        have hb6 := bt hb5 hb6
        go_wp2_with fail
        refine (cN _).mono ?_
        rintro e w7 ⟨rfl, hb7⟩
        have hb7 := bt hb6 hb7
        go_wp2_with fail
        refine (cP2 _ hb7).mono ?_
        rintro e w8 ⟨rfl, hb8⟩
        have hb8 := bt hb7 hb8
        go_wp2_with fail
        refine (cN _).mono ?_
        rintro e w9 ⟨rfl, hb9⟩
        have hb9 := bt hb8 hb9
        go_wp2_with fail
        go_ret
        exact ⟨rfl, hb9⟩
      · have hbe : ((str ln).toList == (str Ctl.known[k]).toList) = false := by rw [str_toList, str_toList, beq_eq_false_iff_ne]; exact he
        have HN2 : Hid (∀ j (hj : j < Ctl.known.length), j < k + 1 → ln ≠ Ctl.known[j]) := Lib.hid (fun j hj h => by
          by_cases hjk : j = k
          · subst hjk; exact he
          · exact HNE.out j hj (by omega))
        have HS := Lib.hid hs
        generalize str ln = sl at *
        generalize str Ctl.known[k] = sk at *
        clear he hs HNE
        have l1 := fun p : LateOf wo => p.cell hcell
        have l2 := fun p : LateOf wo => late p (cL p.w)
        go_wp2_with fail
        refine wp_region_late (by kernel_rfl) (by kernel_rfl) ?_
        repeat (quiet_step (fail))
        quiet_step ((go_at_call 18; exact l2 _))
        repeat (quiet_step (fail))
        refine wpQuiet_nil ?_
        intro w5 hw'
        have hb5 : Below wo.heap.size wo w5 := by obtain ⟨p, rfl⟩ := hw'; exact p.h
        have hs5 := HS.out.later hb5
        have hb5 := bt hb hb5
        clear hw' l1 l2
        go_wp2_with fail
        go_roundw
        case rel => exact ⟨k + 1, by omega, by go_num, hb5, hs5, HN2⟩
        case measure => simp [intOf]; omega
    · obtain rfl : k = 11 := by omega
      have hx3 : x3 = Ctl.none0 := HQO.out (fun h => by
        obtain ⟨j, hj, e⟩ := List.getElem_of_mem h
        exact HNE.out j hj hj e.symm)
      have G1 := fun W => guard_ctl .eql (.inl rfl) 70 71 x3 Ctl.none0 W
      have N1 := fun W => eql_ctl x3 Ctl.none0 W
      rw [decide_eq_true hx3] at N1
      have hz1 : nm.size ≤ 100 := by omega
      have hz2 : ar.size ≤ 100 := by omega
      clear hx3 HNE hs
      generalize cval Ctl.none0 = v0 at *
      generalize cval x3 = v3 at *
      go_wp2_with fail
      refine (cP3 _ hb).mono ?_
      rintro e w5 ⟨rfl, hb5⟩
      have hb5 := bt hb hb5
      go_wp2_with fail
      refine (cN _).mono ?_
      rintro e w6 ⟨rfl, hb6⟩
      have hb6 := bt hb5 hb6
      go_wp2_with fail
      go_ret
      exact ⟨rfl, hb6⟩
end Go.Proofs.YtolhhejhjjiefaaDoor
