/- The document's own answer for package date: texts of other lengths. -/
import Derived.Test.YtlmcolpoaedclaaDoorDt15
namespace Go.Proofs.YtlmcolpoaedclaaDoor
open Go.RowKit

set_option maxHeartbeats 6400000 in
set_option maxRecDepth 100000 in
theorem rParse_X (s : ByteArray) (w : World) (_hs : s.size ≤ 500) (h29 : ¬ s.size = 29) (h24 : ¬ s.size = 24) :
    Calls Tryd.prog 10 #[.string s] w fun e w' => e = .returned (.tuple #[.int .i64 (Dt.asked s.data.toList).1, .int .i64 (Dt.asked s.data.toList).2]) ∧ Below w.heap.size w w' := by
  have hlen : s.data.toList.length = s.size := Oct.length_size s
  have g29 : ((s.size : Int) == 29) = false := beq_eq_false_iff_ne.2 (by omega)
  have g24 : ((s.size : Int) == 24) = false := beq_eq_false_iff_ne.2 (by omega)
  have HNo := Lib.hid (@askedX_no s.data.toList (by omega) (by omega))
  have HNeg := Lib.hid (fun k hk hn hy => @askedX_neg s.data.toList (by omega) (by omega) k hk hn hy)
  have HL := Lib.hid hlen
  have HFb := Lib.hid (form_bytes s)
  clear h29 h24 hlen
  go_enter Tryd.func10, Tryd.ntmps10
  go_wp2_with fail
  go_loopw [7] (fun i wr => ∃ k : Nat, k ≤ 7 ∧ i = .int .i64 k ∧ Hid (∀ j, j < k → ¬ Dt.Hit s.data.toList j) ∧ Below w.heap.size w wr) (fun i _ => 7 - (intOf i).toNat)
  case atStart => exact ⟨0, by omega, rfl, Lib.hid (fun j hj => by omega), Below.refl _ _⟩
  case round =>
    obtain ⟨k, hk, rfl, HN, hB⟩ := hrel
    by_cases hlt : k < 7
    · have hD := Day_c k
      have hz := dn_size k hlt
      obtain ⟨K, hK⟩ : ∃ K, (Dt.dayNames.getD k []).length = K := ⟨_, rfl⟩
      have hzK : (str (Dt.dayNames.getD k [])).size = K := by rw [str_size, hK]
      obtain ⟨DN, hDN⟩ : ∃ x, str (Dt.dayNames.getD k []) = x := ⟨_, rfl⟩
      have HDN := Lib.hid hDN
      rw [hDN] at hD hz hzK
      rw [hzK] at hz
      clear hDN
      obtain ⟨z0, z1⟩ := hz
      have HK := Lib.hid hK
      clear hK
      have hlt' : (k : Int) < 7 := by omega
      have hgo : ¬ Dt.Hit s.data.toList k → ∀ j, j < k + 1 → ¬ Dt.Hit s.data.toList j := fun h j hj => by
        by_cases hjk : j = k
        · rw [hjk]; exact h
        · exact HN.out j (by omega)
      have HGo := Lib.hid hgo
      clear hgo HN
      by_cases hsz : s.size = K + 24
      · by_cases hpre : Dt.cut s.data.toList 0 K = DN.data.toList
        · have hnamed : Dt.Named s.data.toList k := ⟨by rw [HL.out, HK.out, hsz], by
            have h2 := hpre
            unfold Dt.cut at h2
            rw [List.drop_zero] at h2
            rw [HK.out, h2, ← HDN.out, str_list]⟩
          have HNamed := Lib.hid hnamed
          have HBd : Hid (0 ≤ Dt.at1 s.data.toList K → 0 ≤ Dt.y1 s.data.toList K → Dt.at1 s.data.toList K ≤ Dt.last) := fun h h' => Int.le_trans (Dt.at1_bd _ _ h h') Dt.lastForms_last
          have HYes : Hid (0 ≤ Dt.at1 s.data.toList K → 0 ≤ Dt.y1 s.data.toList K → s.data.toList = Dt.form (Dt.at1 s.data.toList K) 1 → Dt.asked s.data.toList = (Dt.at1 s.data.toList K, 0)) := fun h h' h2 => by
            have hs := Dt.hit_says (l := s.data.toList) (w := k) ⟨hnamed, by rw [HK.out]; exact h, by rw [HK.out]; exact h2⟩ (by rw [HK.out]; exact h')
            rw [HK.out] at hs
            exact Dt.asked_yes hs
          have HNegY : Hid (Dt.y1 s.data.toList K < 0 → Dt.asked s.data.toList = (0, 10)) := fun h => HNeg.out k hlt hnamed (by rw [HK.out]; exact h)
          have HGo' : Hid (¬ (0 ≤ Dt.at1 s.data.toList K ∧ s.data.toList = Dt.form (Dt.at1 s.data.toList K) 1) → ∀ j, j < k + 1 → ¬ Dt.Hit s.data.toList j) := fun h => HGo.out (fun hh => h (by
            have h2 := hh.2
            rw [HK.out] at h2
            exact h2))
          have HAt : Hid (Dt.at1 s.data.toList K = Dt.momR ((if Dt.y1 s.data.toList K < 70 then Dt.y1 s.data.toList K + 100 else Dt.y1 s.data.toList K) + 1900) (Dt.finR (Dt.cut s.data.toList (K + 5) (K + 8))) (Dt.numR (Dt.cut s.data.toList (K + 2) (K + 4))) (Dt.numR (Dt.cut s.data.toList (K + 12) (K + 14))) (Dt.numR (Dt.cut s.data.toList (K + 15) (K + 17))) (Dt.numR (Dt.cut s.data.toList (K + 18) (K + 20)))) := rfl
          have HY1 : Hid (Dt.y1 s.data.toList K = Dt.numR (Dt.cut s.data.toList (K + 9) (K + 11))) := rfl
          have hbx : ((s.extract 0 K).toList == DN.toList) = true := by rw [ext_eq, decide_eq_true hpre]
          have hby : ((s.extract 0 K).toList != DN.toList) = false := by rw [bne, hbx]; rfl
          have hq1 : ((s.size : Int) == (K : Int) + 24) = true := beq_iff_eq.2 (by omega)
          have hq2 : ((s.size : Int) != (K : Int) + 24) = false := by rw [bne, hq1]; rfl
          have hj3 : (K : Int) ≤ (s.size : Int) := by omega
          have hNY : ∀ w, Calls Tryd.prog 19 #[.string s, .int .i64 ((K : Int) + 9), .int .i64 ((K : Int) + 11)] w fun e w' => e = .returned (.int .i64 (Dt.numR (Dt.cut s.data.toList (K + 9) (K + 11)))) ∧ w = w' := fun w => num_c s (K + 9) (K + 11) w (by omega) (by omega) (by omega) (by omega)
          have bNY := Dt.numR_2 s.data.toList (K + 9) (K + 11) (by omega)
          have hND : ∀ w, Calls Tryd.prog 19 #[.string s, .int .i64 ((K : Int) + 2), .int .i64 ((K : Int) + 4)] w fun e w' => e = .returned (.int .i64 (Dt.numR (Dt.cut s.data.toList (K + 2) (K + 4)))) ∧ w = w' := fun w => num_c s (K + 2) (K + 4) w (by omega) (by omega) (by omega) (by omega)
          have bND := Dt.numR_2 s.data.toList (K + 2) (K + 4) (by omega)
          have hNH : ∀ w, Calls Tryd.prog 19 #[.string s, .int .i64 ((K : Int) + 12), .int .i64 ((K : Int) + 14)] w fun e w' => e = .returned (.int .i64 (Dt.numR (Dt.cut s.data.toList (K + 12) (K + 14)))) ∧ w = w' := fun w => num_c s (K + 12) (K + 14) w (by omega) (by omega) (by omega) (by omega)
          have bNH := Dt.numR_2 s.data.toList (K + 12) (K + 14) (by omega)
          have hNI : ∀ w, Calls Tryd.prog 19 #[.string s, .int .i64 ((K : Int) + 15), .int .i64 ((K : Int) + 17)] w fun e w' => e = .returned (.int .i64 (Dt.numR (Dt.cut s.data.toList (K + 15) (K + 17)))) ∧ w = w' := fun w => num_c s (K + 15) (K + 17) w (by omega) (by omega) (by omega) (by omega)
          have bNI := Dt.numR_2 s.data.toList (K + 15) (K + 17) (by omega)
          have hNS : ∀ w, Calls Tryd.prog 19 #[.string s, .int .i64 ((K : Int) + 18), .int .i64 ((K : Int) + 20)] w fun e w' => e = .returned (.int .i64 (Dt.numR (Dt.cut s.data.toList (K + 18) (K + 20)))) ∧ w = w' := fun w => num_c s (K + 18) (K + 20) w (by omega) (by omega) (by omega) (by omega)
          have bNS := Dt.numR_2 s.data.toList (K + 18) (K + 20) (by omega)
          have hNM : ∀ w, Calls Tryd.prog 20 #[.string s, .int .i64 ((K : Int) + 5)] w fun e w' => e = .returned (.int .i64 (Dt.finR (Dt.cut s.data.toList (K + 5) (K + 8)))) ∧ Below w.heap.size w w' := fun w => find_c s (K + 5) w (by omega) (by omega)
          have bNM := Dt.finR_bd (Dt.cut s.data.toList (K + 5) (K + 8))
          generalize Dt.numR (Dt.cut s.data.toList (K + 9) (K + 11)) = NY at hNY bNY HAt HY1
          generalize Dt.numR (Dt.cut s.data.toList (K + 2) (K + 4)) = ND at hND bND HAt HY1
          generalize Dt.numR (Dt.cut s.data.toList (K + 12) (K + 14)) = NH at hNH bNH HAt HY1
          generalize Dt.numR (Dt.cut s.data.toList (K + 15) (K + 17)) = NI at hNI bNI HAt HY1
          generalize Dt.numR (Dt.cut s.data.toList (K + 18) (K + 20)) = NS at hNS bNS HAt HY1
          generalize Dt.finR (Dt.cut s.data.toList (K + 5) (K + 8)) = NM at hNM bNM HAt
          obtain ⟨lNY, uNY⟩ := bNY
          obtain ⟨lNM, uNM⟩ := bNM
          obtain ⟨lND, uND⟩ := bND
          obtain ⟨lNH, uNH⟩ := bNH
          obtain ⟨lNI, uNI⟩ := bNI
          obtain ⟨lNS, uNS⟩ := bNS
          rw [HY1.out] at HAt HBd HYes HNegY
          clear hpre hnamed HY1 HGo HNo HNeg hsz
          go_wp2_with fail
          refine (hD _ hlt).mono ?_
          rintro e w8 ⟨rfl, hb8⟩
          have hB8 := hB.trans (hb8.mono hB.size)
          clear hB hb8
          go_wp2_with fail
          have j0 : (K : Int) ≤ (K : Int) + 24 := by omega
          have j1 : ((K : Int) + 24).toNat = K + 24 := by omega
          have j2 := IntWalk.i64_in ((K : Int) + 24) (by omega)
          refine wp_region_late (by kernel_rfl) (by kernel_rfl) ?_
          repeat (quiet_step ((go_at_call 21; exact late _ (hD _ hlt))))
          refine wpQuiet_nil ?_
          intro w9 hw'
          have hb9 : Below w8.heap.size w8 w9 := by obtain ⟨p, rfl⟩ := hw'; exact p.h
          have hB9 := bt hB8 hb9
          clear hw' j0 j1 j2 hB8 hb9
          go_wp2_with fail
          refine (hNY _).mono ?_
          rintro e w' ⟨rfl, rfl⟩
          clear hNY
          by_cases hy0 : NY < 0
          · have HR := Lib.hid (HNegY.out hy0)
            go_wp2_with fail
            go_ret2
            exact ⟨by rw [HR.out]; rfl, hB9⟩
          · have hy0' : 0 ≤ NY := by omega
            have HBd := Lib.hid (fun h => HBd.out h hy0')
            have HYes := Lib.hid (fun h h2 => HYes.out h hy0' h2)
            clear hy0 HNegY
            by_cases hy70 : NY < 70
            · have HAt' := Lib.hid HAt.out
              rw [if_pos hy70] at HAt'
              clear HAt
              have hMo := fun w => mom_c (NY + 100 + 1900) NM ND NH NI NS w (by omega) (by omega) (by omega) (by omega) (by omega) (by omega) (by omega) (by omega) (by omega)
              rw [← HAt'.out] at hMo
              generalize Dt.at1 s.data.toList K = A at hMo HBd HYes HGo'
              clear HAt'
              go_wp2_with fail
              refine (hNM _).mono ?_
              rintro e w11 ⟨rfl, hb11⟩
              have hB11 := bt hB9 hb11
              clear hB9 hb11
              go_wp2_with fail
              refine (hND _).mono ?_
              rintro e w' ⟨rfl, rfl⟩
              go_wp2_with fail
              refine (hNH _).mono ?_
              rintro e w' ⟨rfl, rfl⟩
              go_wp2_with fail
              refine (hNI _).mono ?_
              rintro e w' ⟨rfl, rfl⟩
              go_wp2_with fail
              refine (hNS _).mono ?_
              rintro e w' ⟨rfl, rfl⟩
              go_wp2_with fail
              refine (hMo _).mono ?_
              rintro e w12 ⟨rfl, hb12⟩
              have hB12 := bt hB11 hb12
              clear hB11 hb12 hNM hND hNH hNI hNS hMo lNY lNM lND lNH lNI lNS uNY uNM uND uNH uNI uNS
              by_cases hA : 0 ≤ A
              · have hAl := HBd.out hA
                have hF := Form_1 A w12 hA hAl
                have hfb := HFb.out A 1
                by_cases he : s.data.toList = Dt.form A 1
                · have HR := Lib.hid (HYes.out hA he)
                  rw [decide_eq_true he] at hfb
                  clear he hAl
                  generalize str (Dt.form A 1) = x at hF hfb
                  go_wp2_with fail
                  refine hF.mono ?_
                  rintro e w13 ⟨rfl, hb13⟩
                  have hB13 := bt hB12 hb13
                  clear hF hb13
                  go_wp2_with fail
                  go_ret2
                  exact ⟨by rw [HR.out]; rfl, hB13⟩
                · have HNext := Lib.hid (HGo'.out (fun h => he h.2))
                  rw [decide_eq_false he] at hfb
                  clear he hAl
                  generalize str (Dt.form A 1) = x at hF hfb
                  go_wp2_with fail
                  refine hF.mono ?_
                  rintro e w13 ⟨rfl, hb13⟩
                  have hB13 := bt hB12 hb13
                  clear hF hb13 hB12 HBd HYes HFb HGo'
                  go_wp2_with fail
                  go_roundw
                  case rel => exact ⟨k + 1, by omega, by go_num, HNext, hB13⟩
                  case measure => simp [intOf]; omega
              · have HNext := Lib.hid (HGo'.out (fun h => hA h.1))
                have hA' : A < 0 := by omega
                clear HBd HYes HFb HGo' hA
                go_wp2_with fail
                go_roundw
                case rel => exact ⟨k + 1, by omega, by go_num, HNext, hB12⟩
                case measure => simp [intOf]; omega
            · have HAt' := Lib.hid HAt.out
              rw [if_neg hy70] at HAt'
              clear HAt
              have hMo := fun w => mom_c (NY + 1900) NM ND NH NI NS w (by omega) (by omega) (by omega) (by omega) (by omega) (by omega) (by omega) (by omega) (by omega)
              rw [← HAt'.out] at hMo
              generalize Dt.at1 s.data.toList K = A at hMo HBd HYes HGo'
              clear HAt'
              go_wp2_with fail
              refine (hNM _).mono ?_
              rintro e w11 ⟨rfl, hb11⟩
              have hB11 := bt hB9 hb11
              clear hB9 hb11
              go_wp2_with fail
              refine (hND _).mono ?_
              rintro e w' ⟨rfl, rfl⟩
              go_wp2_with fail
              refine (hNH _).mono ?_
              rintro e w' ⟨rfl, rfl⟩
              go_wp2_with fail
              refine (hNI _).mono ?_
              rintro e w' ⟨rfl, rfl⟩
              go_wp2_with fail
              refine (hNS _).mono ?_
              rintro e w' ⟨rfl, rfl⟩
              go_wp2_with fail
              refine (hMo _).mono ?_
              rintro e w12 ⟨rfl, hb12⟩
              have hB12 := bt hB11 hb12
              clear hB11 hb12 hNM hND hNH hNI hNS hMo lNY lNM lND lNH lNI lNS uNY uNM uND uNH uNI uNS
              by_cases hA : 0 ≤ A
              · have hAl := HBd.out hA
                have hF := Form_1 A w12 hA hAl
                have hfb := HFb.out A 1
                by_cases he : s.data.toList = Dt.form A 1
                · have HR := Lib.hid (HYes.out hA he)
                  rw [decide_eq_true he] at hfb
                  clear he hAl
                  generalize str (Dt.form A 1) = x at hF hfb
                  go_wp2_with fail
                  refine hF.mono ?_
                  rintro e w13 ⟨rfl, hb13⟩
                  have hB13 := bt hB12 hb13
                  clear hF hb13
                  go_wp2_with fail
                  go_ret2
                  exact ⟨by rw [HR.out]; rfl, hB13⟩
                · have HNext := Lib.hid (HGo'.out (fun h => he h.2))
                  rw [decide_eq_false he] at hfb
                  clear he hAl
                  generalize str (Dt.form A 1) = x at hF hfb
                  go_wp2_with fail
                  refine hF.mono ?_
                  rintro e w13 ⟨rfl, hb13⟩
                  have hB13 := bt hB12 hb13
                  clear hF hb13 hB12 HBd HYes HFb HGo'
                  go_wp2_with fail
                  go_roundw
                  case rel => exact ⟨k + 1, by omega, by go_num, HNext, hB13⟩
                  case measure => simp [intOf]; omega
              · have HNext := Lib.hid (HGo'.out (fun h => hA h.1))
                have hA' : A < 0 := by omega
                clear HBd HYes HFb HGo' hA
                go_wp2_with fail
                go_roundw
                case rel => exact ⟨k + 1, by omega, by go_num, HNext, hB12⟩
                case measure => simp [intOf]; omega
        · have HNext : Hid (∀ j, j < k + 1 → ¬ Dt.Hit s.data.toList j) := HGo.out (fun h => hpre (by
            have h2 := h.1.2
            rw [HK.out] at h2
            unfold Dt.cut
            rw [List.drop_zero, h2, ← HDN.out, str_list]))
          have hbx : ((s.extract 0 K).toList == DN.toList) = false := by rw [ext_eq, decide_eq_false hpre]
          have hby : ((s.extract 0 K).toList != DN.toList) = true := by rw [bne, hbx]; rfl
          have hq1 : ((s.size : Int) == (K : Int) + 24) = true := beq_iff_eq.2 (by omega)
          have hq2 : ((s.size : Int) != (K : Int) + 24) = false := by rw [bne, hq1]; rfl
          have hj3 : (K : Int) ≤ (s.size : Int) := by omega
          clear hpre HGo HNo HNeg HFb hsz
          go_wp2_with fail
          refine (hD _ hlt).mono ?_
          rintro e w8 ⟨rfl, hb8⟩
          have hB8 := hB.trans (hb8.mono hB.size)
          clear hB hb8
          go_wp2_with fail
          have j0 : (K : Int) ≤ (K : Int) + 24 := by omega
          have j1 : ((K : Int) + 24).toNat = K + 24 := by omega
          have j2 := IntWalk.i64_in ((K : Int) + 24) (by omega)
          refine wp_region_late (by kernel_rfl) (by kernel_rfl) ?_
          repeat (quiet_step ((go_at_call 21; exact late _ (hD _ hlt))))
          refine wpQuiet_nil ?_
          intro w9 hw'
          have hb9 : Below w8.heap.size w8 w9 := by obtain ⟨p, rfl⟩ := hw'; exact p.h
          clear hw' j0 j1 j2
          go_wp2_with fail
          go_roundw
          case rel => exact ⟨k + 1, by omega, by go_num, HNext, hB8.trans (hb9.mono hB8.size)⟩
          case measure => simp [intOf]; omega
      · have HNext : Hid (∀ j, j < k + 1 → ¬ Dt.Hit s.data.toList j) := HGo.out (fun h => hsz (by have h2 := h.1.1; rw [HK.out, HL.out] at h2; exact h2))
        have hne : ((s.size : Int) == (K : Int) + 24) = false := beq_eq_false_iff_ne.2 (by omega)
        have hne2 : ((s.size : Int) != (K : Int) + 24) = true := by rw [bne, hne]; rfl
        clear hsz HGo HNo HNeg HFb
        go_wp2_with fail
        refine (hD _ hlt).mono ?_
        rintro e w8 ⟨rfl, hb8⟩
        have hB8 := hB.trans (hb8.mono hB.size)
        clear hB hb8
        go_wp2_with fail
        have j2 := IntWalk.i64_in ((K : Int) + 24) (by omega)
        refine wp_region_late (by kernel_rfl) (by kernel_rfl) ?_
        repeat (quiet_step (fail))
        refine wpQuiet_nil ?_
        intro w9 hw'
        have hb9 : Below w8.heap.size w8 w9 := by obtain ⟨p, rfl⟩ := hw'; exact p.h
        clear hw' j2
        go_wp2_with fail
        go_roundw
        case rel => exact ⟨k + 1, by omega, by go_num, HNext, hB8.trans (hb9.mono hB8.size)⟩
        case measure => simp [intOf]; omega
    · have hlt' : ¬ (k : Int) < 7 := by omega
      have HR := Lib.hid (HNo.out (fun j hj => HN.out j (by omega)))
      go_wp2_with fail
      go_ret2
      exact ⟨by rw [HR.out]; rfl, hB⟩

end Go.Proofs.YtlmcolpoaedclaaDoor
