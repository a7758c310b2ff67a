/- The document's own answer for package start: Right, Print. -/
import Derived.Test.YtbpghbbcghlcaaaDoorSt2
import Derived.Test.YtbpghbbcghlcaaaDoorQuiet
namespace Go.Proofs.YtbpghbbcghlcaaaDoor
open Go.RowKit

theorem nonempty {a : ByteArray} (h : ¬ a = ⟨#[]⟩) : ¬ a.toList = [] ∧ (a.toList == []) = false ∧ (a.toList != []) = true :=
  list_no (fun e => h (str_eq e))
theorem empty_dec (l : List UInt8) : l.isEmpty = decide (str l = (⟨#[]⟩ : ByteArray)) := by
  cases l with
  | nil => rfl
  | cons c t => exact (decide_eq_false (fun e => by have := str_inj (b := []) e; cases this)).symm
theorem len_dec (l : List UInt8) (n : Nat) : decide (l.length ≤ n) = decide (((str l).size : Int) ≤ n) := by
  rw [str_size]; exact decide_eq_decide.2 (by omega)

set_option maxHeartbeats 3200000 in
set_option maxRecDepth 100000 in
theorem rRight_s (s : St.S) (w : World) (h1 : s.method.length ≤ 1000000) (h2 : s.target.length ≤ 1000000) (h3 : s.reason.length ≤ 1000000) :
    Calls Tryd.prog 14 #[sval s] w fun e w' => e = .returned (.bool (St.right s)) ∧ Below w.heap.size w w' := by
  rw [sval_s]
  have h0 := SAt.start w (.string (str s.method)) (.string (str s.target)) (.int .i64 s.status) (.string (str s.reason)) (.int .i64 s.minor)
  have cT := fun (W : World) => rToken_s (str s.method) W (by rw [str_size]; omega)
  have cV := fun (W : World) => rvisible_s (str s.target) W (by rw [str_size]; omega)
  have cX := fun (W : World) => rValue_s (str s.reason) W (by rw [str_size]; omega)
  rw [str_list] at cT cV cX
  obtain ⟨m, t, st, r, k⟩ := s
  simp only [] at *
  have HV : Hid (St.right ⟨m, t, st, r, k⟩ = (decide (0 ≤ k) && decide (k ≤ 1) && (if st = 0 then Oct.token m && decide (((str m).size : Int) ≤ 32) && St.visible t && decide (((str t).size : Int) ≤ 8000) && decide (str r = (⟨#[]⟩ : ByteArray))
      else decide (str m = (⟨#[]⟩ : ByteArray)) && decide (str t = (⟨#[]⟩ : ByteArray)) && decide (100 ≤ st) && decide (st ≤ 999) && Oct.value r && decide (((str r).size : Int) ≤ 200)))) := Lib.hid (by
    show (_ && _ && (if st = 0 then St.rightQ _ else St.rightA _)) = _
    unfold St.rightQ St.rightA
    simp only [empty_dec, len_dec]; rfl)
  generalize St.right ⟨m, t, st, r, k⟩ = Z at *
  generalize Oct.token m = tk at *
  generalize St.visible t = vs at *
  generalize Oct.value r = vl at *
  generalize str m = M at *
  generalize str t = T at *
  generalize str r = D at *
  generalize st = C at *
  generalize k = K at *
  clear h1 h2 h3
  by_cases k0 : 0 ≤ K
  · by_cases k1 : K ≤ 1
    · by_cases z : C = 0
      · subst z
        cases tk with
        | false =>
          have HR : Hid (Z = false) := Lib.hid (HV.out.trans (by simp [*]))
          clear HV
          go_enter Tryd.func14, Tryd.ntmps14
          go_upto_region 1 with fail
          generalize w.alloc _ = W0 at h0 ⊢
          obtain ⟨c0, c1, c2, c3, c4⟩ := h0.cells
          have hB0 := h0.below
          go_wp2_with fail
          refine (cT _).mono ?_
          rintro e W1 ⟨rfl, hb1⟩
          have h1 := h0.later hb1
          obtain ⟨d0, d1, d2, d3, d4⟩ := h1.cells
          have hB0 := h1.below
          clear c0 c1 c2 c3 c4 h0 h1 hb1
          go_wp2_with fail
          go_ret
          exact ⟨ret_bool (by rw [HR.out] <;> simp [*]), hB0⟩
        | true =>
          by_cases g1 : (M.size : Int) ≤ 32
          · cases vs with
            | false =>
              have HR : Hid (Z = false) := Lib.hid (HV.out.trans (by simp [*]))
              clear HV
              go_enter Tryd.func14, Tryd.ntmps14
              go_upto_region 1 with fail
              generalize w.alloc _ = W0 at h0 ⊢
              obtain ⟨c0, c1, c2, c3, c4⟩ := h0.cells
              have hB0 := h0.below
              go_wp2_with fail
              refine (cT _).mono ?_
              rintro e W1 ⟨rfl, hb1⟩
              have h1 := h0.later hb1
              obtain ⟨d0, d1, d2, d3, d4⟩ := h1.cells
              have hB0 := h1.below
              clear c0 c1 c2 c3 c4 h0 h1 hb1
              go_wp2_with fail
              refine (cV _).mono ?_
              rintro e W2 ⟨rfl, rfl⟩
              go_wp2_with fail
              go_ret
              exact ⟨ret_bool (by rw [HR.out] <;> simp [*]), hB0⟩
            | true =>
              by_cases g2 : (T.size : Int) ≤ 8000
              · cases De : decide (D = (⟨#[]⟩ : ByteArray)) with
                | true =>
                  obtain rfl : D = ⟨#[]⟩ := of_decide_eq_true De
                  clear De
                  have HR : Hid (Z = true) := Lib.hid (HV.out.trans (by simp [*]))
                  clear HV
                  go_enter Tryd.func14, Tryd.ntmps14
                  go_upto_region 1 with fail
                  generalize w.alloc _ = W0 at h0 ⊢
                  obtain ⟨c0, c1, c2, c3, c4⟩ := h0.cells
                  have hB0 := h0.below
                  go_wp2_with fail
                  refine (cT _).mono ?_
                  rintro e W1 ⟨rfl, hb1⟩
                  have h1 := h0.later hb1
                  obtain ⟨d0, d1, d2, d3, d4⟩ := h1.cells
                  have hB0 := h1.below
                  clear c0 c1 c2 c3 c4 h0 h1 hb1
                  go_wp2_with fail
                  refine (cV _).mono ?_
                  rintro e W2 ⟨rfl, rfl⟩
                  go_wp2_with fail
                  go_ret
                  exact ⟨ret_bool (by rw [HR.out] <;> simp [*]), hB0⟩
                | false =>
                  obtain ⟨n1, n2, n3⟩ := nonempty (of_decide_eq_false De)
                  have HR : Hid (Z = false) := Lib.hid (HV.out.trans (by simp [*]))
                  clear HV
                  go_enter Tryd.func14, Tryd.ntmps14
                  go_upto_region 1 with fail
                  generalize w.alloc _ = W0 at h0 ⊢
                  obtain ⟨c0, c1, c2, c3, c4⟩ := h0.cells
                  have hB0 := h0.below
                  go_wp2_with fail
                  refine (cT _).mono ?_
                  rintro e W1 ⟨rfl, hb1⟩
                  have h1 := h0.later hb1
                  obtain ⟨d0, d1, d2, d3, d4⟩ := h1.cells
                  have hB0 := h1.below
                  clear c0 c1 c2 c3 c4 h0 h1 hb1
                  go_wp2_with fail
                  refine (cV _).mono ?_
                  rintro e W2 ⟨rfl, rfl⟩
                  go_wp2_with fail
                  go_ret
                  exact ⟨ret_bool (by rw [HR.out] <;> simp [*]), hB0⟩
              · have HR : Hid (Z = false) := Lib.hid (HV.out.trans (by simp [*]))
                clear HV
                go_enter Tryd.func14, Tryd.ntmps14
                go_upto_region 1 with fail
                generalize w.alloc _ = W0 at h0 ⊢
                obtain ⟨c0, c1, c2, c3, c4⟩ := h0.cells
                have hB0 := h0.below
                go_wp2_with fail
                refine (cT _).mono ?_
                rintro e W1 ⟨rfl, hb1⟩
                have h1 := h0.later hb1
                obtain ⟨d0, d1, d2, d3, d4⟩ := h1.cells
                have hB0 := h1.below
                clear c0 c1 c2 c3 c4 h0 h1 hb1
                go_wp2_with fail
                refine (cV _).mono ?_
                rintro e W2 ⟨rfl, rfl⟩
                go_wp2_with fail
                go_ret
                exact ⟨ret_bool (by rw [HR.out] <;> simp [*]), hB0⟩
          · have HR : Hid (Z = false) := Lib.hid (HV.out.trans (by simp [*]))
            clear HV
            go_enter Tryd.func14, Tryd.ntmps14
            go_upto_region 1 with fail
            generalize w.alloc _ = W0 at h0 ⊢
            obtain ⟨c0, c1, c2, c3, c4⟩ := h0.cells
            have hB0 := h0.below
            go_wp2_with fail
            refine (cT _).mono ?_
            rintro e W1 ⟨rfl, hb1⟩
            have h1 := h0.later hb1
            obtain ⟨d0, d1, d2, d3, d4⟩ := h1.cells
            have hB0 := h1.below
            clear c0 c1 c2 c3 c4 h0 h1 hb1
            go_wp2_with fail
            go_ret
            exact ⟨ret_bool (by rw [HR.out] <;> simp [*]), hB0⟩
      · have bz : (C == 0) = false := beq_eq_false_iff_ne.2 z
        cases Me : decide (M = (⟨#[]⟩ : ByteArray)) with
        | true =>
          obtain rfl : M = ⟨#[]⟩ := of_decide_eq_true Me
          clear Me
          cases Te : decide (T = (⟨#[]⟩ : ByteArray)) with
          | true =>
            obtain rfl : T = ⟨#[]⟩ := of_decide_eq_true Te
            clear Te
            by_cases g1 : 100 ≤ C
            · by_cases g2 : C ≤ 999
              · cases vl with
                | false =>
                  have HR : Hid (Z = false) := Lib.hid (HV.out.trans (by simp [*]))
                  clear HV
                  go_enter Tryd.func14, Tryd.ntmps14
                  go_upto_region 1 with fail
                  generalize w.alloc _ = W0 at h0 ⊢
                  obtain ⟨c0, c1, c2, c3, c4⟩ := h0.cells
                  have hB0 := h0.below
                  go_wp2_with fail
                  refine (cX _).mono ?_
                  rintro e W2 ⟨rfl, rfl⟩
                  go_wp2_with fail
                  go_ret
                  exact ⟨ret_bool (by rw [HR.out] <;> simp [*]), hB0⟩
                | true =>
                  by_cases g3 : (D.size : Int) ≤ 200
                  · have HR : Hid (Z = true) := Lib.hid (HV.out.trans (by simp [*]))
                    clear HV
                    go_enter Tryd.func14, Tryd.ntmps14
                    go_upto_region 1 with fail
                    generalize w.alloc _ = W0 at h0 ⊢
                    obtain ⟨c0, c1, c2, c3, c4⟩ := h0.cells
                    have hB0 := h0.below
                    go_wp2_with fail
                    refine (cX _).mono ?_
                    rintro e W2 ⟨rfl, rfl⟩
                    go_wp2_with fail
                    go_ret
                    exact ⟨ret_bool (by rw [HR.out] <;> simp [*]), hB0⟩
                  · have HR : Hid (Z = false) := Lib.hid (HV.out.trans (by simp [*]))
                    clear HV
                    go_enter Tryd.func14, Tryd.ntmps14
                    go_upto_region 1 with fail
                    generalize w.alloc _ = W0 at h0 ⊢
                    obtain ⟨c0, c1, c2, c3, c4⟩ := h0.cells
                    have hB0 := h0.below
                    go_wp2_with fail
                    refine (cX _).mono ?_
                    rintro e W2 ⟨rfl, rfl⟩
                    go_wp2_with fail
                    go_ret
                    exact ⟨ret_bool (by rw [HR.out] <;> simp [*]), hB0⟩
              · have HR : Hid (Z = false) := Lib.hid (HV.out.trans (by simp [*]))
                clear HV
                go_enter Tryd.func14, Tryd.ntmps14
                go_upto_region 1 with fail
                generalize w.alloc _ = W0 at h0 ⊢
                obtain ⟨c0, c1, c2, c3, c4⟩ := h0.cells
                have hB0 := h0.below
                go_wp2_with fail
                go_ret
                exact ⟨ret_bool (by rw [HR.out] <;> simp [*]), hB0⟩
            · have HR : Hid (Z = false) := Lib.hid (HV.out.trans (by simp [*]))
              clear HV
              go_enter Tryd.func14, Tryd.ntmps14
              go_upto_region 1 with fail
              generalize w.alloc _ = W0 at h0 ⊢
              obtain ⟨c0, c1, c2, c3, c4⟩ := h0.cells
              have hB0 := h0.below
              go_wp2_with fail
              go_ret
              exact ⟨ret_bool (by rw [HR.out] <;> simp [*]), hB0⟩
          | false =>
            obtain ⟨n1, n2, n3⟩ := nonempty (of_decide_eq_false Te)
            have HR : Hid (Z = false) := Lib.hid (HV.out.trans (by simp [*]))
            clear HV
            go_enter Tryd.func14, Tryd.ntmps14
            go_upto_region 1 with fail
            generalize w.alloc _ = W0 at h0 ⊢
            obtain ⟨c0, c1, c2, c3, c4⟩ := h0.cells
            have hB0 := h0.below
            go_wp2_with fail
            go_ret
            exact ⟨ret_bool (by rw [HR.out] <;> simp [*]), hB0⟩
        | false =>
          obtain ⟨n1, n2, n3⟩ := nonempty (of_decide_eq_false Me)
          have HR : Hid (Z = false) := Lib.hid (HV.out.trans (by simp [*]))
          clear HV
          go_enter Tryd.func14, Tryd.ntmps14
          go_upto_region 1 with fail
          generalize w.alloc _ = W0 at h0 ⊢
          obtain ⟨c0, c1, c2, c3, c4⟩ := h0.cells
          have hB0 := h0.below
          go_wp2_with fail
          go_ret
          exact ⟨ret_bool (by rw [HR.out] <;> simp [*]), hB0⟩
    · have HR : Hid (Z = false) := Lib.hid (HV.out.trans (by simp [*]))
      clear HV
      go_enter Tryd.func14, Tryd.ntmps14
      go_upto_region 1 with fail
      generalize w.alloc _ = W0 at h0 ⊢
      obtain ⟨c0, c1, c2, c3, c4⟩ := h0.cells
      have hB0 := h0.below
      go_wp2_with fail
      go_ret
      exact ⟨ret_bool (by rw [HR.out] <;> simp [*]), hB0⟩
  · have HR : Hid (Z = false) := Lib.hid (HV.out.trans (by simp [*]))
    clear HV
    go_enter Tryd.func14, Tryd.ntmps14
    go_upto_region 1 with fail
    generalize w.alloc _ = W0 at h0 ⊢
    obtain ⟨c0, c1, c2, c3, c4⟩ := h0.cells
    have hB0 := h0.below
    go_wp2_with fail
    go_ret
    exact ⟨ret_bool (by rw [HR.out] <;> simp [*]), hB0⟩

set_option maxHeartbeats 3200000 in
set_option maxRecDepth 100000 in
theorem rPrint_st (s : St.S) (w : World) (h1 : s.method.length ≤ 1000000) (h2 : s.target.length ≤ 1000000) (h3 : s.reason.length ≤ 1000000) (h4 : s.status ≤ 9223372036854775807) (h5 : s.minor ≤ 9223372036854775807) :
    Calls Tryd.prog 16 #[sval s] w fun e w' => e = .returned (.string (str (St.text s))) ∧ Below w.heap.size w w' := by
  rw [sval_s]
  have h0 := SAt.start w (.string (str s.method)) (.string (str s.target)) (.int .i64 s.status) (.string (str s.reason)) (.int .i64 s.minor)
  have cK := fun (W : World) => rPrint_is s.minor 10 _ W h5 rfl
  have cC := fun (W : World) => rPrint_is s.status 10 _ W h4 rfl
  have z1 : (str s.method).size ≤ 1000000 := by rw [str_size]; exact h1
  have z2 : (str s.target).size ≤ 1000000 := by rw [str_size]; exact h2
  have z3 : (str s.reason).size ≤ 1000000 := by rw [str_size]; exact h3
  have z4 : (str (Oct.print s.minor 10)).size ≤ 100 := by rw [str_size]; exact Oct.dgs_len10 s.minor.toNat (by omega)
  have z5 : (str (Oct.print s.status 10)).size ≤ 100 := by rw [str_size]; exact Oct.dgs_len10 s.status.toNat (by omega)
  have HV : Hid (str (St.text s) = if s.status = 0 then str s.method ++ ⟨#[32]⟩ ++ str s.target ++ ⟨#[32]⟩ ++ ((⟨#[72, 84, 84, 80, 47, 49, 46]⟩ : ByteArray) ++ str (Oct.print s.minor 10)) ++ ⟨#[13, 10]⟩
      else ((⟨#[72, 84, 84, 80, 47, 49, 46]⟩ : ByteArray) ++ str (Oct.print s.minor 10)) ++ ⟨#[32]⟩ ++ str (Oct.print s.status 10) ++ ⟨#[32]⟩ ++ str s.reason ++ ⟨#[13, 10]⟩) := Lib.hid (by
    unfold St.text St.body
    split
    · refine (str_eq ?_).symm
      simp only [app_two, str_list]
      simp [St.ver, St.http]
    · refine (str_eq ?_).symm
      simp only [app_two, str_list]
      simp [St.ver, St.http])
  generalize str (St.text s) = Z at *
  generalize str (Oct.print s.minor 10) = DK at *
  generalize str (Oct.print s.status 10) = DC at *
  generalize str s.method = M at *
  generalize str s.target = T at *
  generalize str s.reason = D at *
  generalize s.status = C at *
  generalize s.minor = K at *
  clear h1 h2 h3 h4 h5
  have zv : ((⟨#[72, 84, 84, 80, 47, 49, 46]⟩ : ByteArray) ++ DK).size ≤ 107 := by rw [ByteArray.size_append]; show 7 + DK.size ≤ _; omega
  by_cases z : C = 0
  · subst z
    have HR : Hid (Z = _) := Lib.hid (HV.out.trans (if_pos rfl))
    clear HV cC z5 z3
    go_enter Tryd.func16, Tryd.ntmps16
    go_upto_region 1 with fail
    generalize w.alloc (.cells #[.string M, .string T, .int .i64 0, .string D, .int .i64 K] 25) = W0 at h0 ⊢
    obtain ⟨c0, c1, c2, c3, c4⟩ := h0.cells
    go_wp2_with fail
    refine (cK _).mono ?_
    rintro e W1 ⟨rfl, hb1⟩
    have h1 := h0.later hb1
    obtain ⟨d0, d1, d2, d3, d4⟩ := h1.cells
    have hB := h1.below
    clear c0 c1 c2 c3 c4 h0 h1 hb1 cK
    go_upto_region 2 with fail
    generalize (⟨#[72, 84, 84, 80, 47, 49, 46]⟩ : ByteArray) ++ DK = V at *
    have y1 : (M ++ ⟨#[32]⟩ : ByteArray).size ≤ 1000001 := by rw [ByteArray.size_append]; show _ + 1 ≤ _; omega
    have y2 : (M ++ ⟨#[32]⟩ ++ T : ByteArray).size ≤ 2000001 := by rw [ByteArray.size_append]; omega
    have y3 : (M ++ ⟨#[32]⟩ ++ T ++ ⟨#[32]⟩ : ByteArray).size ≤ 2000002 := by rw [ByteArray.size_append]; show _ + 1 ≤ _; omega
    have y4 : (M ++ ⟨#[32]⟩ ++ T ++ ⟨#[32]⟩ ++ V : ByteArray).size ≤ 2000109 := by rw [ByteArray.size_append]; omega
    go_wp2_with fail
    go_ret
    exact ⟨by rw [HR.out]; rfl, hB⟩
  · have bz : (C == 0) = false := beq_eq_false_iff_ne.2 z
    have HR : Hid (Z = _) := Lib.hid (HV.out.trans (if_neg z))
    clear HV z1 z2
    go_enter Tryd.func16, Tryd.ntmps16
    go_upto_region 1 with fail
    generalize w.alloc (.cells #[.string M, .string T, .int .i64 C, .string D, .int .i64 K] 25) = W0 at h0 ⊢
    obtain ⟨c0, c1, c2, c3, c4⟩ := h0.cells
    go_wp2_with fail
    refine (cK _).mono ?_
    rintro e W1 ⟨rfl, hb1⟩
    have h1 := h0.later hb1
    obtain ⟨d0, d1, d2, d3, d4⟩ := h1.cells
    clear c0 c1 c2 c3 c4 h0 hb1 cK
    go_upto_region 4 with fail
    generalize (⟨#[72, 84, 84, 80, 47, 49, 46]⟩ : ByteArray) ++ DK = V at *
    obtain ⟨S1, e1⟩ : ∃ S1 : ByteArray, V ++ ⟨#[32]⟩ = S1 := ⟨_, rfl⟩
    have y1 : S1.size ≤ 108 := by rw [← e1, ByteArray.size_append]; show _ + 1 ≤ _; omega
    obtain ⟨S2, e2⟩ : ∃ S2 : ByteArray, S1 ++ DC = S2 := ⟨_, rfl⟩
    have y2 : S2.size ≤ 208 := by rw [← e2, ByteArray.size_append]; omega
    obtain ⟨S3, e3⟩ : ∃ S3 : ByteArray, S2 ++ ⟨#[32]⟩ = S3 := ⟨_, rfl⟩
    have y3 : S3.size ≤ 209 := by rw [← e3, ByteArray.size_append]; show _ + 1 ≤ _; omega
    obtain ⟨S4, e4⟩ : ∃ S4 : ByteArray, S3 ++ D = S4 := ⟨_, rfl⟩
    have y4 : S4.size ≤ 1000209 := by rw [← e4, ByteArray.size_append]; omega
    obtain ⟨S5, e5⟩ : ∃ S5 : ByteArray, S4 ++ ⟨#[13, 10]⟩ = S5 := ⟨_, rfl⟩
    have HS : Hid (Z = S5) := Lib.hid (by rw [HR.out, e1, e2, e3, e4, e5])
    have x1 : ¬ 9223372036854775807 < V.size + 1 := by omega
    have x2 : ¬ 9223372036854775807 < S1.size + DC.size := by omega
    have x3 : ¬ 9223372036854775807 < S2.size + 1 := by omega
    have x4 : ¬ 9223372036854775807 < S3.size + D.size := by omega
    have x5 : ¬ 9223372036854775807 < S4.size + 2 := by omega
    have v1 : V.size + 1 ≤ 9223372036854775807 := by omega
    have v2 : S1.size + DC.size ≤ 9223372036854775807 := by omega
    have v3 : S2.size + 1 ≤ 9223372036854775807 := by omega
    have v4 : S3.size + D.size ≤ 9223372036854775807 := by omega
    have v5 : S4.size + 2 ≤ 9223372036854775807 := by omega
    have k2 := fun p : LateOf W1 => p.cell d2
    have k3 := fun p : LateOf W1 => p.cell d3
    have GC := fun p : LateOf W1 => late p (cC p.w)
    have HB := Lib.hid (fun p : LateOf W1 => h1.below.trans (p.h.mono h1.below.size))
    clear d0 d1 d2 d3 d4 h1 cC HR
    refine wp_region_late (by kernel_rfl) (by kernel_rfl) ?_
    quiet_step (fail)
    quiet_step (fail)
    quiet_step (fail)
    quiet_step (fail)
    quiet_step ((go_at_call 30; exact GC _))
    quiet_step (fail)
    quiet_step (fail)
    quiet_step (fail)
    quiet_step (fail)
    quiet_step (fail)
    quiet_step (fail)
    quiet_step (fail)
    refine wpQuiet_nil ?_
    intro w6 hw'
    obtain ⟨p, rfl⟩ := hw'
    have hB := HB.out p
    go_wp2_with fail
    go_ret
    exact ⟨by rw [HS.out]; rfl, hB⟩
end Go.Proofs.YtbpghbbcghlcaaaDoor
