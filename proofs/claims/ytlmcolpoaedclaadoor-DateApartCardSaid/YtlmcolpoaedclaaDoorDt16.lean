/- The document's own answer for package date: texts of 29 octets. -/
import Derived.Test.YtlmcolpoaedclaaDoorDt15
namespace Go.Proofs.YtlmcolpoaedclaaDoor
open Go.RowKit

set_option maxHeartbeats 3200000 in
set_option maxRecDepth 100000 in
theorem rParse_29 (s : ByteArray) (w : World) (hs : s.size = 29) :
    Calls Tryd.prog 10 #[.string s] w fun e w' => e = .returned (.tuple #[.int .i64 (Dt.asked s.data.toList).1, .int .i64 (Dt.asked s.data.toList).2]) ∧ Below w.heap.size w w' := by
  have hlen : s.data.toList.length = 29 := by rw [Oct.length_size, hs]
  have HAt : Hid (Dt.at0 s.data.toList = Dt.momR (Dt.numR (Dt.cut s.data.toList 12 16)) (Dt.finR (Dt.cut s.data.toList 8 11)) (Dt.numR (Dt.cut s.data.toList 5 7)) (Dt.numR (Dt.cut s.data.toList 17 19)) (Dt.numR (Dt.cut s.data.toList 20 22)) (Dt.numR (Dt.cut s.data.toList 23 25))) := rfl
  have hNY := fun w => num_c s 12 16 w (by omega) (by omega) (by omega) (by omega)
  have bNY := Dt.numR_4 s.data.toList 12 16 (by omega)
  have hND := fun w => num_c s 5 7 w (by omega) (by omega) (by omega) (by omega)
  have bND := Dt.numR_2 s.data.toList 5 7 (by omega)
  have hNH := fun w => num_c s 17 19 w (by omega) (by omega) (by omega) (by omega)
  have bNH := Dt.numR_2 s.data.toList 17 19 (by omega)
  have hNI := fun w => num_c s 20 22 w (by omega) (by omega) (by omega) (by omega)
  have bNI := Dt.numR_2 s.data.toList 20 22 (by omega)
  have hNS := fun w => num_c s 23 25 w (by omega) (by omega) (by omega) (by omega)
  have bNS := Dt.numR_2 s.data.toList 23 25 (by omega)
  have hNM := fun w => find_c s 8 w (by omega) (by omega)
  have bNM := Dt.finR_bd (Dt.cut s.data.toList 8 11)
  generalize Dt.numR (Dt.cut s.data.toList 12 16) = NY at hNY bNY HAt
  generalize Dt.numR (Dt.cut s.data.toList 5 7) = ND at hND bND HAt
  generalize Dt.numR (Dt.cut s.data.toList 17 19) = NH at hNH bNH HAt
  generalize Dt.numR (Dt.cut s.data.toList 20 22) = NI at hNI bNI HAt
  generalize Dt.numR (Dt.cut s.data.toList 23 25) = NS at hNS bNS HAt
  have hNM' : ∀ w, Calls Tryd.prog 20 #[.string s, .int .i64 8] w fun e w' => e = .returned (.int .i64 (Dt.finR (Dt.cut s.data.toList 8 11))) ∧ Below w.heap.size w w' := hNM
  generalize Dt.finR (Dt.cut s.data.toList 8 11) = NM at hNM' bNM HAt
  clear hNM
  obtain ⟨lNY, uNY⟩ := bNY
  obtain ⟨lNM, uNM⟩ := bNM
  obtain ⟨lND, uND⟩ := bND
  obtain ⟨lNH, uNH⟩ := bNH
  obtain ⟨lNI, uNI⟩ := bNI
  obtain ⟨lNS, uNS⟩ := bNS
  have hMo := fun w => mom_c NY NM ND NH NI NS w (by omega) (by omega) (by omega) (by omega) (by omega) (by omega) (by omega) (by omega) (by omega)
  have HBd := Lib.hid (Dt.at0_bd s.data.toList)
  have HYes := Lib.hid (@asked29_yes s.data.toList)
  have HNo := Lib.hid (@asked29_no s.data.toList hlen)
  have HFb := Lib.hid (form_bytes s)
  rw [← HAt.out] at hMo
  generalize Dt.at0 s.data.toList = A at hMo HBd HYes HNo
  clear HAt hlen
  go_enter Tryd.func10, Tryd.ntmps10
  go_wp2_with fail
  refine (hNY _).mono ?_
  rintro e w' ⟨rfl, rfl⟩
  go_wp2_with fail
  refine (hNM' _).mono ?_
  rintro e w1 ⟨rfl, hb1⟩
  go_wp2_with fail
  refine (hND _).mono ?_
  rintro e w' ⟨rfl, rfl⟩
  go_wp2_with fail
  refine (hNH _).mono ?_
  rintro e w' ⟨rfl, rfl⟩
  go_wp2_with fail
  refine (hNI _).mono ?_
  rintro e w' ⟨rfl, rfl⟩
  go_wp2_with fail
  refine (hNS _).mono ?_
  rintro e w' ⟨rfl, rfl⟩
  go_wp2_with fail
  refine (hMo _).mono ?_
  rintro e w2 ⟨rfl, hb2⟩
  have hB2 := bt hb1 hb2
  clear hb1 hb2 hNY hNM' hND hNH hNI hNS hMo lNY lNM lND lNH lNI lNS uNY uNM uND uNH uNI uNS
  by_cases hA : 0 ≤ A
  · have hAl := HBd.out hA
    have hF := Form_0 A w2 hA hAl
    have hfb := HFb.out A 0
    by_cases he : s.data.toList = Dt.form A 0
    · have HR := Lib.hid (HYes.out hA he)
      rw [decide_eq_true he] at hfb
      clear he hAl
      generalize str (Dt.form A 0) = x at hF hfb
      go_wp2_with fail
      refine hF.mono ?_
      rintro e w3 ⟨rfl, hb3⟩
      have hB3 := bt hB2 hb3
      clear hF hb3
      go_wp2_with fail
      go_ret2
      exact ⟨by rw [HR.out]; rfl, hB3⟩
    · have HR := Lib.hid (HNo.out (fun h => he h.2))
      rw [decide_eq_false he] at hfb
      clear he hAl
      generalize str (Dt.form A 0) = x at hF hfb
      go_wp2_with fail
      refine hF.mono ?_
      rintro e w3 ⟨rfl, hb3⟩
      have hB3 := bt hB2 hb3
      clear hF hb3 hB2 HBd HYes HNo HFb
      go_wp2_with fail
      go_loopw [7] (fun i wr => ∃ k : Nat, k ≤ 7 ∧ i = .int .i64 k ∧ Below w.heap.size w wr) (fun i _ => 7 - (intOf i).toNat)
      case atStart => exact ⟨0, by omega, rfl, hB3⟩
      case round =>
        obtain ⟨k, hk, rfl, hB⟩ := hrel
        by_cases hlt : k < 7
        · have hD := Day_c k
          have hz := dn_size k hlt
          obtain ⟨DN, hDN⟩ : ∃ x, str (Dt.dayNames.getD k []) = x := ⟨_, rfl⟩
          rw [hDN] at hD hz
          clear hDN
          obtain ⟨z0, z1⟩ := hz
          have hlt' : (k : Int) < 7 := by omega
          have hne : ((29 : Int) == (DN.size : Int) + 24) = false := beq_eq_false_iff_ne.2 (by omega)
          have hne2 : ((29 : Int) != (DN.size : Int) + 24) = true := by rw [bne, hne]; rfl
          go_wp2_with fail
          refine (hD _ hlt).mono ?_
          rintro e w8 ⟨rfl, hb8⟩
          have hB8 := hB.trans (hb8.mono hB.size)
          clear hB hb8
          go_wp2_with fail
          have j2 := IntWalk.i64_in ((DN.size : Int) + 24) (by omega)
          refine wp_region_late (by kernel_rfl) (by kernel_rfl) ?_
          repeat (quiet_step (fail))
          refine wpQuiet_nil ?_
          intro w9 hw'
          have hb9 : Below w8.heap.size w8 w9 := by obtain ⟨p, rfl⟩ := hw'; exact p.h
          clear hw' j2
          go_wp2_with fail
          go_roundw
          case rel => exact ⟨k + 1, by omega, by go_num, hB8.trans (hb9.mono hB8.size)⟩
          case measure => simp [intOf]; omega
        · have hlt' : ¬ (k : Int) < 7 := by omega
          go_wp2_with fail
          go_ret2
          exact ⟨by rw [HR.out]; rfl, hB⟩
  · have HR := Lib.hid (HNo.out (fun h => hA h.1))
    have hA' : A < 0 := by omega
    clear HBd HYes HNo HFb hA
    go_wp2_with fail
    go_loopw [7] (fun i wr => ∃ k : Nat, k ≤ 7 ∧ i = .int .i64 k ∧ Below w.heap.size w wr) (fun i _ => 7 - (intOf i).toNat)
    case atStart => exact ⟨0, by omega, rfl, hB2⟩
    case round =>
      obtain ⟨k, hk, rfl, hB⟩ := hrel
      by_cases hlt : k < 7
      · have hD := Day_c k
        have hz := dn_size k hlt
        obtain ⟨DN, hDN⟩ : ∃ x, str (Dt.dayNames.getD k []) = x := ⟨_, rfl⟩
        rw [hDN] at hD hz
        clear hDN
        obtain ⟨z0, z1⟩ := hz
        have hlt' : (k : Int) < 7 := by omega
        have hne : ((29 : Int) == (DN.size : Int) + 24) = false := beq_eq_false_iff_ne.2 (by omega)
        have hne2 : ((29 : Int) != (DN.size : Int) + 24) = true := by rw [bne, hne]; rfl
        go_wp2_with fail
        refine (hD _ hlt).mono ?_
        rintro e w8 ⟨rfl, hb8⟩
        have hB8 := hB.trans (hb8.mono hB.size)
        clear hB hb8
        go_wp2_with fail
        have j2 := IntWalk.i64_in ((DN.size : Int) + 24) (by omega)
        refine wp_region_late (by kernel_rfl) (by kernel_rfl) ?_
        repeat (quiet_step (fail))
        refine wpQuiet_nil ?_
        intro w9 hw'
        have hb9 : Below w8.heap.size w8 w9 := by obtain ⟨p, rfl⟩ := hw'; exact p.h
        clear hw' j2
        go_wp2_with fail
        go_roundw
        case rel => exact ⟨k + 1, by omega, by go_num, hB8.trans (hb9.mono hB8.size)⟩
        case measure => simp [intOf]; omega
      · have hlt' : ¬ (k : Int) < 7 := by omega
        go_wp2_with fail
        go_ret2
        exact ⟨by rw [HR.out]; rfl, hB⟩


end Go.Proofs.YtlmcolpoaedclaaDoor
