/- Package start: whether there may be such a line; its text. -/
import Derived.Test.YtbpghbbcghlcaaaDoorSt3
import Derived.Test.YtbpghbbcghlcaaaDoorStP1
namespace Go.Proofs.YtbpghbbcghlcaaaDoor
open Go.RowKit

theorem long_dec (l : List UInt8) (n : Nat) : decide (n < l.length) = decide ((n : Int) < ((str l).size : Int)) := by
  rw [str_size]; exact decide_eq_decide.2 (by omega)
set_option maxHeartbeats 3200000 in
set_option maxRecDepth 100000 in
theorem formed_s (s : St.S) (w : World) (h1 : s.method.length ≤ 1000000) (h2 : s.target.length ≤ 1000000) (h3 : s.reason.length ≤ 1000000) :
    Calls Tryd.prog 28 #[sval s] w fun e w' => e = .returned (.bool (St.formed s)) ∧ Below w.heap.size w w' := by
  rw [sval_s]
  have h0 := SAt.start w (.string (str s.method)) (.string (str s.target)) (.int .i64 s.status) (.string (str s.reason)) (.int .i64 s.minor)
  have cT := fun (W : World) => Token_s (str s.method) W (by rw [str_size]; omega)
  have cV := fun (W : World) => visible_s (str s.target) W (by rw [str_size]; omega)
  have cX := fun (W : World) => Value_s (str s.reason) W (by rw [str_size]; omega)
  rw [str_list] at cT cV cX
  obtain ⟨m, t, st, r, k⟩ := s
  simp only [] at *
  have HV : Hid (St.formed ⟨m, t, st, r, k⟩ = (decide (0 ≤ k) && decide (k ≤ 1) && (if st = 0 then Oct.token m && !decide (str t = (⟨#[]⟩ : ByteArray)) && t.all St.vis && decide (str r = (⟨#[]⟩ : ByteArray))
      else decide (str m = (⟨#[]⟩ : ByteArray)) && decide (str t = (⟨#[]⟩ : ByteArray)) && decide (100 ≤ st) && decide (st ≤ 999) && Oct.value r))) := Lib.hid (by
    show (_ && _ && (if st = 0 then St.formedQ _ else St.formedA _)) = _
    unfold St.formedQ St.formedA
    simp only [empty_dec])
  generalize St.formed ⟨m, t, st, r, k⟩ = Z at *
  generalize Oct.token m = tk at *
  generalize t.all St.vis = vs at *
  generalize Oct.value r = vl at *
  generalize str m = M at *
  generalize str t = T at *
  generalize str r = D at *
  generalize st = C at *
  generalize k = K at *
  clear h1 h2 h3
  by_cases k0 : 0 ≤ K
  · by_cases k1 : K ≤ 1
    · by_cases z : C = 0
      · subst z
        cases tk with
        | false =>
          have HR : Hid (Z = false) := Lib.hid (HV.out.trans (by simp [*]))
          clear HV
          go_enter Tryd.func28, Tryd.ntmps28
          go_upto_region 1 with fail
          generalize w.alloc _ = W0 at h0 ⊢
          obtain ⟨c0, c1, c2, c3, c4⟩ := h0.cells
          have hB0 := h0.below
          go_wp2_with fail
          refine (cT _).mono ?_
          rintro e W1 ⟨rfl, rfl⟩
          go_wp2_with fail
          go_ret
          exact ⟨ret_bool (by rw [HR.out] <;> simp [*]), hB0⟩
        | true =>
          cases Te : decide (T = (⟨#[]⟩ : ByteArray)) with
          | true =>
            obtain rfl : T = ⟨#[]⟩ := of_decide_eq_true Te
            clear Te
            have HR : Hid (Z = false) := Lib.hid (HV.out.trans (by simp [*]))
            clear HV
            go_enter Tryd.func28, Tryd.ntmps28
            go_upto_region 1 with fail
            generalize w.alloc _ = W0 at h0 ⊢
            obtain ⟨c0, c1, c2, c3, c4⟩ := h0.cells
            have hB0 := h0.below
            go_wp2_with fail
            refine (cT _).mono ?_
            rintro e W1 ⟨rfl, rfl⟩
            go_wp2_with fail
            go_ret
            exact ⟨ret_bool (by rw [HR.out] <;> simp [*]), hB0⟩
          | false =>
            obtain ⟨p1, p2, p3⟩ := nonempty (of_decide_eq_false Te)
            cases vs with
            | false =>
              have HR : Hid (Z = false) := Lib.hid (HV.out.trans (by simp [*]))
              clear HV
              go_enter Tryd.func28, Tryd.ntmps28
              go_upto_region 1 with fail
              generalize w.alloc _ = W0 at h0 ⊢
              obtain ⟨c0, c1, c2, c3, c4⟩ := h0.cells
              have hB0 := h0.below
              go_wp2_with fail
              refine (cT _).mono ?_
              rintro e W1 ⟨rfl, rfl⟩
              go_wp2_with fail
              refine (cV _).mono ?_
              rintro e W2 ⟨rfl, rfl⟩
              go_wp2_with fail
              go_ret
              exact ⟨ret_bool (by rw [HR.out] <;> simp [*]), hB0⟩
            | true =>
              cases De : decide (D = (⟨#[]⟩ : ByteArray)) with
              | true =>
                obtain rfl : D = ⟨#[]⟩ := of_decide_eq_true De
                clear De
                have HR : Hid (Z = true) := Lib.hid (HV.out.trans (by simp [*]))
                clear HV
                go_enter Tryd.func28, Tryd.ntmps28
                go_upto_region 1 with fail
                generalize w.alloc _ = W0 at h0 ⊢
                obtain ⟨c0, c1, c2, c3, c4⟩ := h0.cells
                have hB0 := h0.below
                go_wp2_with fail
                refine (cT _).mono ?_
                rintro e W1 ⟨rfl, rfl⟩
                go_wp2_with fail
                refine (cV _).mono ?_
                rintro e W2 ⟨rfl, rfl⟩
                go_wp2_with fail
                go_ret
                exact ⟨ret_bool (by rw [HR.out] <;> simp [*]), hB0⟩
              | false =>
                obtain ⟨n1, n2, n3⟩ := nonempty (of_decide_eq_false De)
                have HR : Hid (Z = false) := Lib.hid (HV.out.trans (by simp [*]))
                clear HV
                go_enter Tryd.func28, Tryd.ntmps28
                go_upto_region 1 with fail
                generalize w.alloc _ = W0 at h0 ⊢
                obtain ⟨c0, c1, c2, c3, c4⟩ := h0.cells
                have hB0 := h0.below
                go_wp2_with fail
                refine (cT _).mono ?_
                rintro e W1 ⟨rfl, rfl⟩
                go_wp2_with fail
                refine (cV _).mono ?_
                rintro e W2 ⟨rfl, rfl⟩
                go_wp2_with fail
                go_ret
                exact ⟨ret_bool (by rw [HR.out] <;> simp [*]), hB0⟩
      · have bz : (C == 0) = false := beq_eq_false_iff_ne.2 z
        cases Me : decide (M = (⟨#[]⟩ : ByteArray)) with
        | true =>
          obtain rfl : M = ⟨#[]⟩ := of_decide_eq_true Me
          clear Me
          cases Te : decide (T = (⟨#[]⟩ : ByteArray)) with
          | true =>
            obtain rfl : T = ⟨#[]⟩ := of_decide_eq_true Te
            clear Te
            by_cases g1 : 100 ≤ C
            · by_cases g2 : C ≤ 999
              · cases vl with
                | false =>
                  have HR : Hid (Z = false) := Lib.hid (HV.out.trans (by simp [*]))
                  clear HV
                  go_enter Tryd.func28, Tryd.ntmps28
                  go_upto_region 1 with fail
                  generalize w.alloc _ = W0 at h0 ⊢
                  obtain ⟨c0, c1, c2, c3, c4⟩ := h0.cells
                  have hB0 := h0.below
                  go_wp2_with fail
                  refine (cX _).mono ?_
                  rintro e W1 ⟨rfl, hb1⟩
                  have h1 := h0.later hb1
                  obtain ⟨d0, d1, d2, d3, d4⟩ := h1.cells
                  have hB0 := h1.below
                  clear c0 c1 c2 c3 c4 h0 h1 hb1
                  go_wp2_with fail
                  go_ret
                  exact ⟨ret_bool (by rw [HR.out] <;> simp [*]), hB0⟩
                | true =>
                  have HR : Hid (Z = true) := Lib.hid (HV.out.trans (by simp [*]))
                  clear HV
                  go_enter Tryd.func28, Tryd.ntmps28
                  go_upto_region 1 with fail
                  generalize w.alloc _ = W0 at h0 ⊢
                  obtain ⟨c0, c1, c2, c3, c4⟩ := h0.cells
                  have hB0 := h0.below
                  go_wp2_with fail
                  refine (cX _).mono ?_
                  rintro e W1 ⟨rfl, hb1⟩
                  have h1 := h0.later hb1
                  obtain ⟨d0, d1, d2, d3, d4⟩ := h1.cells
                  have hB0 := h1.below
                  clear c0 c1 c2 c3 c4 h0 h1 hb1
                  go_wp2_with fail
                  go_ret
                  exact ⟨ret_bool (by rw [HR.out] <;> simp [*]), hB0⟩
              · have HR : Hid (Z = false) := Lib.hid (HV.out.trans (by simp [*]))
                clear HV
                go_enter Tryd.func28, Tryd.ntmps28
                go_upto_region 1 with fail
                generalize w.alloc _ = W0 at h0 ⊢
                obtain ⟨c0, c1, c2, c3, c4⟩ := h0.cells
                have hB0 := h0.below
                go_wp2_with fail
                go_ret
                exact ⟨ret_bool (by rw [HR.out] <;> simp [*]), hB0⟩
            · have HR : Hid (Z = false) := Lib.hid (HV.out.trans (by simp [*]))
              clear HV
              go_enter Tryd.func28, Tryd.ntmps28
              go_upto_region 1 with fail
              generalize w.alloc _ = W0 at h0 ⊢
              obtain ⟨c0, c1, c2, c3, c4⟩ := h0.cells
              have hB0 := h0.below
              go_wp2_with fail
              go_ret
              exact ⟨ret_bool (by rw [HR.out] <;> simp [*]), hB0⟩
          | false =>
            obtain ⟨n1, n2, n3⟩ := nonempty (of_decide_eq_false Te)
            have HR : Hid (Z = false) := Lib.hid (HV.out.trans (by simp [*]))
            clear HV
            go_enter Tryd.func28, Tryd.ntmps28
            go_upto_region 1 with fail
            generalize w.alloc _ = W0 at h0 ⊢
            obtain ⟨c0, c1, c2, c3, c4⟩ := h0.cells
            have hB0 := h0.below
            go_wp2_with fail
            go_ret
            exact ⟨ret_bool (by rw [HR.out] <;> simp [*]), hB0⟩
        | false =>
          obtain ⟨n1, n2, n3⟩ := nonempty (of_decide_eq_false Me)
          have HR : Hid (Z = false) := Lib.hid (HV.out.trans (by simp [*]))
          clear HV
          go_enter Tryd.func28, Tryd.ntmps28
          go_upto_region 1 with fail
          generalize w.alloc _ = W0 at h0 ⊢
          obtain ⟨c0, c1, c2, c3, c4⟩ := h0.cells
          have hB0 := h0.below
          go_wp2_with fail
          go_ret
          exact ⟨ret_bool (by rw [HR.out] <;> simp [*]), hB0⟩
    · have HR : Hid (Z = false) := Lib.hid (HV.out.trans (by simp [*]))
      clear HV
      go_enter Tryd.func28, Tryd.ntmps28
      go_upto_region 1 with fail
      generalize w.alloc _ = W0 at h0 ⊢
      obtain ⟨c0, c1, c2, c3, c4⟩ := h0.cells
      have hB0 := h0.below
      go_wp2_with fail
      go_ret
      exact ⟨ret_bool (by rw [HR.out] <;> simp [*]), hB0⟩
  · have HR : Hid (Z = false) := Lib.hid (HV.out.trans (by simp [*]))
    clear HV
    go_enter Tryd.func28, Tryd.ntmps28
    go_upto_region 1 with fail
    generalize w.alloc _ = W0 at h0 ⊢
    obtain ⟨c0, c1, c2, c3, c4⟩ := h0.cells
    have hB0 := h0.below
    go_wp2_with fail
    go_ret
    exact ⟨ret_bool (by rw [HR.out] <;> simp [*]), hB0⟩

set_option maxHeartbeats 3200000 in
set_option maxRecDepth 100000 in
theorem long_s (s : St.S) (w : World) :
    Calls Tryd.prog 29 #[sval s] w fun e w' => e = .returned (.bool (St.long s)) ∧ Below w.heap.size w w' := by
  rw [sval_s]
  have h0 := SAt.start w (.string (str s.method)) (.string (str s.target)) (.int .i64 s.status) (.string (str s.reason)) (.int .i64 s.minor)
  obtain ⟨m, t, st, r, k⟩ := s
  simp only [] at *
  have HV : Hid (St.long ⟨m, t, st, r, k⟩ = (decide (32 < ((str m).size : Int)) || decide (8000 < ((str t).size : Int)) || decide (200 < ((str r).size : Int)))) := Lib.hid (by
    unfold St.long
    simp only [long_dec]; rfl)
  generalize St.long ⟨m, t, st, r, k⟩ = Z at *
  generalize str m = M at *
  generalize str t = T at *
  generalize str r = D at *
  by_cases g1 : 32 < (M.size : Int)
  · go_enter Tryd.func29, Tryd.ntmps29
    go_upto_region 1 with fail
    generalize w.alloc _ = W0 at h0 ⊢
    obtain ⟨c0, c1, c2, c3, c4⟩ := h0.cells
    have hB0 := h0.below
    go_wp2_with fail
    go_ret
    exact ⟨ret_bool (by rw [HV.out] <;> simp [*]), hB0⟩
  · by_cases g2 : 8000 < (T.size : Int)
    · go_enter Tryd.func29, Tryd.ntmps29
      go_upto_region 1 with fail
      generalize w.alloc _ = W0 at h0 ⊢
      obtain ⟨c0, c1, c2, c3, c4⟩ := h0.cells
      have hB0 := h0.below
      go_wp2_with fail
      go_ret
      exact ⟨ret_bool (by rw [HV.out] <;> simp [*]), hB0⟩
    · by_cases g3 : 200 < (D.size : Int)
      · go_enter Tryd.func29, Tryd.ntmps29
        go_upto_region 1 with fail
        generalize w.alloc _ = W0 at h0 ⊢
        obtain ⟨c0, c1, c2, c3, c4⟩ := h0.cells
        have hB0 := h0.below
        go_wp2_with fail
        go_ret
        exact ⟨ret_bool (by rw [HV.out] <;> simp [*]), hB0⟩
      · go_enter Tryd.func29, Tryd.ntmps29
        go_upto_region 1 with fail
        generalize w.alloc _ = W0 at h0 ⊢
        obtain ⟨c0, c1, c2, c3, c4⟩ := h0.cells
        have hB0 := h0.below
        go_wp2_with fail
        go_ret
        exact ⟨ret_bool (by rw [HV.out] <;> simp [*]), hB0⟩

set_option maxHeartbeats 3200000 in
set_option maxRecDepth 100000 in
theorem Right_s (s : St.S) (w : World) (h1 : s.method.length ≤ 1000000) (h2 : s.target.length ≤ 1000000) (h3 : s.reason.length ≤ 1000000) :
    Calls Tryd.prog 15 #[sval s] w fun e w' => e = .returned (.bool (St.right s)) ∧ Below w.heap.size w w' := by
  have h0 := SAt.start w (.string (str s.method)) (.string (str s.target)) (.int .i64 s.status) (.string (str s.reason)) (.int .i64 s.minor)
  have cF := fun (W : World) => formed_s s W h1 h2 h3
  have cL := fun (W : World) => long_s s W
  rw [sval_s] at cF cL ⊢
  have HV := Lib.hid (St.right_formed s)
  generalize St.right s = Z at *
  generalize St.formed s = fm at *
  generalize St.long s = lg at *
  generalize str s.method = M at *
  generalize str s.target = T at *
  generalize str s.reason = D at *
  generalize s.status = C at *
  generalize s.minor = K at *
  clear h1 h2 h3
  cases fm with
  | false =>
    have HR : Hid (Z = false) := Lib.hid (HV.out.trans (by simp))
    clear HV
    go_enter Tryd.func15, Tryd.ntmps15
    go_upto_region 1 with fail
    generalize w.alloc _ = W0 at h0 ⊢
    go_wp2_with (refine ldS h0.cell rfl (.tmp 1) rfl rfl ?_)
    refine (cF _).mono ?_
    rintro e W1 ⟨rfl, hb1⟩
    have hB := (h0.later hb1).below
    clear h0 hb1
    go_wp2_with fail
    go_ret
    exact ⟨ret_bool HR.out.symm, hB⟩
  | true =>
    have HR : Hid (Z = !lg) := Lib.hid (HV.out.trans (by simp))
    clear HV
    go_enter Tryd.func15, Tryd.ntmps15
    go_upto_region 1 with fail
    generalize w.alloc _ = W0 at h0 ⊢
    go_wp2_with (refine ldS h0.cell rfl (.tmp 1) rfl rfl ?_)
    refine (cF _).mono ?_
    rintro e W1 ⟨rfl, hb1⟩
    have h1 := h0.later hb1
    clear h0 hb1
    obtain ⟨c0, c1, c2, c3, c4⟩ := h1.cells
    go_wp2_with fail
    refine (cL _).mono ?_
    rintro e W2 ⟨rfl, hb2⟩
    have hB := (h1.later hb2).below
    clear h1 hb2
    go_wp2_with fail
    go_ret
    exact ⟨ret_bool (by rw [HR.out]), hB⟩
end Go.Proofs.YtbpghbbcghlcaaaDoor
