/- Package start: a line's text. -/
import Derived.Test.YtbpghbbcghlcaaaDoorSt6
import Derived.Test.YtbpghbbcghlcaaaDoorStP2
import Derived.Test.YtbpghbbcghlcaaaDoorTail
namespace Go.Proofs.YtbpghbbcghlcaaaDoor
open Go.RowKit

theorem bin_nil (w : World) : BIn w (.slice none 0 0) [] ∧ NilOk (.slice none 0 0) :=
  ⟨⟨none, 0, rfl, Nat.le_refl _, by decide, .inl rfl⟩, fun c h => by injection h with _ _ h; exact h.symm⟩
set_option maxHeartbeats 3200000 in
set_option maxRecDepth 100000 in
theorem Print_st (s : St.S) (w : World) (h1 : s.method.length ≤ 100000) (h2 : s.target.length ≤ 100000) (h3 : s.reason.length ≤ 100000) (h4 : s.status ≤ 9223372036854775807) (h5 : s.minor ≤ 9223372036854775807) (hT : Tabs w) :
    Calls Tryd.prog 13 #[sval s] w fun e w' => (∃ v, e = .returned (.tuple #[v, .int .i64 (if St.right s then 0 else 10)]) ∧ BIn w' v (if St.right s then St.text s else []) ∧ NilOk v) ∧ Below w.heap.size w w' := by
  have cR := fun (W : World) => Right_s s W (by omega) (by omega) (by omega)
  rw [sval_s] at cR ⊢
  have h0 := SAt.start w (.string (str s.method)) (.string (str s.target)) (.int .i64 s.status) (.string (str s.reason)) (.int .i64 s.minor)
  have cK := fun (W : World) (h : Tabs W) => Print_is s.minor 10 _ W h5 h rfl
  have cC := fun (W : World) (h : Tabs W) => Print_is s.status 10 _ W h4 h rfl
  have z1 : (str s.method).size ≤ 100000 := by rw [str_size]; exact h1
  have z2 : (str s.target).size ≤ 100000 := by rw [str_size]; exact h2
  have z3 : (str s.reason).size ≤ 100000 := by rw [str_size]; exact h3
  have z4 : (str (Oct.print s.minor 10)).size ≤ 100 := by rw [str_size]; exact Oct.dgs_len10 s.minor.toNat (by omega)
  have z5 : (str (Oct.print s.status 10)).size ≤ 100 := by rw [str_size]; exact Oct.dgs_len10 s.status.toNat (by omega)
  have HV : Hid (St.text s = (if s.status = 0 then str s.method ++ ⟨#[32]⟩ ++ str s.target ++ ⟨#[32]⟩ ++ ((⟨#[72, 84, 84, 80, 47, 49, 46]⟩ : ByteArray) ++ str (Oct.print s.minor 10)) ++ ⟨#[13, 10]⟩
      else ((⟨#[72, 84, 84, 80, 47, 49, 46]⟩ : ByteArray) ++ str (Oct.print s.minor 10)) ++ ⟨#[32]⟩ ++ str (Oct.print s.status 10) ++ ⟨#[32]⟩ ++ str s.reason ++ ⟨#[13, 10]⟩).data.toList) := Lib.hid (by
    unfold St.text St.body
    split
    · simp only [app_two, str_list]
      simp [St.ver, St.http]
    · simp only [app_two, str_list]
      simp [St.ver, St.http])
  generalize St.text s = Z at *
  cases hr : St.right s with
  | false =>
    rw [hr] at cR
    generalize str s.method = M at *
    generalize str s.target = T at *
    generalize str s.reason = D at *
    generalize s.status = C at *
    generalize s.minor = K at *
    clear h1 h2 h3 h4 h5 hr HV cK cC z1 z2 z3 z4 z5 hT
    go_enter Tryd.func13, Tryd.ntmps13
    go_upto_region 1 with fail
    generalize w.alloc _ = W0 at h0 ⊢
    obtain ⟨c0, c1, c2, c3, c4⟩ := h0.cells
    go_wp2_with fail
    refine (cR _).mono ?_
    rintro e W1 ⟨rfl, hb1⟩
    have hB := (h0.later hb1).below
    go_wp2_with fail
    go_ret2
    exact ⟨⟨_, rfl, bin_nil _⟩, hB⟩
  | true =>
    rw [hr] at cR
    have HT := Lib.hid (fun (W : World) (h : Below w.heap.size w W) => hT.later h)
    generalize str (Oct.print s.minor 10) = DK at *
    generalize str (Oct.print s.status 10) = DC at *
    generalize str s.method = M at *
    generalize str s.target = T at *
    generalize str s.reason = D at *
    generalize s.status = C at *
    generalize s.minor = K at *
    clear h1 h2 h3 h4 h5 hr hT
    have zv : ((⟨#[72, 84, 84, 80, 47, 49, 46]⟩ : ByteArray) ++ DK).size ≤ 107 := by rw [ByteArray.size_append]; show 7 + DK.size ≤ _; omega
    by_cases z : C = 0
    · subst z
      have HR : Hid (Z = _) := Lib.hid (HV.out.trans (congrArg (fun x : ByteArray => x.data.toList) (if_pos rfl)))
      clear HV cC z5 z3
      go_enter Tryd.func13, Tryd.ntmps13
      go_upto_region 1 with fail
      generalize w.alloc (.cells #[.string M, .string T, .int .i64 0, .string D, .int .i64 K] 25) = W0 at h0 ⊢
      obtain ⟨c0, c1, c2, c3, c4⟩ := h0.cells
      go_wp2_with fail
      refine (cR _).mono ?_
      rintro e W1 ⟨rfl, hb1⟩
      have h1 := h0.later hb1
      clear c0 c1 c2 c3 c4 h0 hb1 cR
      obtain ⟨c0, c1, c2, c3, c4⟩ := h1.cells
      have cK1 := cK W1 (HT.out W1 h1.below)
      clear cK
      go_wp2_with fail
      refine cK1.mono ?_
      rintro e W2 ⟨rfl, hb2⟩
      have h2 := h1.later hb2
      obtain ⟨d0, d1, d2, d3, d4⟩ := h2.cells
      have hB := h2.below
      clear c0 c1 c2 c3 c4 h1 hb2 cK1 HT
      go_upto_region 5 with fail
      generalize (⟨#[72, 84, 84, 80, 47, 49, 46]⟩ : ByteArray) ++ DK = V at *
      obtain ⟨S1, e1⟩ : ∃ S1 : ByteArray, M ++ ⟨#[32]⟩ = S1 := ⟨_, rfl⟩
      have y1 : S1.size ≤ 100001 := by rw [← e1, ByteArray.size_append]; show _ + 1 ≤ _; omega
      obtain ⟨S2, e2⟩ : ∃ S2 : ByteArray, S1 ++ T = S2 := ⟨_, rfl⟩
      have y2 : S2.size ≤ 200001 := by rw [← e2, ByteArray.size_append]; omega
      obtain ⟨S3, e3⟩ : ∃ S3 : ByteArray, S2 ++ ⟨#[32]⟩ = S3 := ⟨_, rfl⟩
      have y3 : S3.size ≤ 200002 := by rw [← e3, ByteArray.size_append]; show _ + 1 ≤ _; omega
      obtain ⟨S4, e4⟩ : ∃ S4 : ByteArray, S3 ++ V = S4 := ⟨_, rfl⟩
      have y4 : S4.size ≤ 200109 := by rw [← e4, ByteArray.size_append]; omega
      obtain ⟨S5, e5⟩ : ∃ S5 : ByteArray, S4 ++ ⟨#[13, 10]⟩ = S5 := ⟨_, rfl⟩
      have y5 : S5.size ≤ 200111 := by rw [← e5, ByteArray.size_append]; show _ + 2 ≤ _; omega
      have HS : Hid (Z = S5.data.toList) := Lib.hid (by rw [HR.out, e1, e2, e3, e4, e5])
      have x1 : ¬ 9223372036854775807 < M.size + 1 := by omega
      have x2 : ¬ 9223372036854775807 < S1.size + T.size := by omega
      have x3 : ¬ 9223372036854775807 < S2.size + 1 := by omega
      have x4 : ¬ 9223372036854775807 < S3.size + V.size := by omega
      have x5 : ¬ 9223372036854775807 < S4.size + 2 := by omega
      have v1 : M.size + 1 ≤ 9223372036854775807 := by omega
      have v2 : S1.size + T.size ≤ 9223372036854775807 := by omega
      have v3 : S2.size + 1 ≤ 9223372036854775807 := by omega
      have v4 : S3.size + V.size ≤ 9223372036854775807 := by omega
      have v5 : S4.size + 2 ≤ 9223372036854775807 := by omega
      obtain ⟨cc, W3, hcv, hbin, hb3⟩ := octets_text S5 W2 (by omega)
      have hB3 := hB.trans (hb3.mono hB.size)
      have HBin := Lib.hid hbin
      clear HR hbin hb3 hB h2
      go_wp2_with fail
      go_ret2
      exact ⟨⟨_, rfl, by rw [HS.out]; exact ⟨HBin.out, nil_ok _ _ _⟩⟩, hB3⟩
    · have bz : (C == 0) = false := beq_eq_false_iff_ne.2 z
      have HR : Hid (Z = _) := Lib.hid (HV.out.trans (congrArg (fun x : ByteArray => x.data.toList) (if_neg z)))
      clear HV z1 z2
      go_enter Tryd.func13, Tryd.ntmps13
      go_upto_region 1 with fail
      generalize w.alloc (.cells #[.string M, .string T, .int .i64 C, .string D, .int .i64 K] 25) = W0 at h0 ⊢
      obtain ⟨c0, c1, c2, c3, c4⟩ := h0.cells
      go_wp2_with fail
      refine (cR _).mono ?_
      rintro e W1 ⟨rfl, hb1⟩
      have h1 := h0.later hb1
      clear c0 c1 c2 c3 c4 h0 hb1 cR
      obtain ⟨c0, c1, c2, c3, c4⟩ := h1.cells
      have cK1 := cK W1 (HT.out W1 h1.below)
      clear cK
      go_wp2_with fail
      refine cK1.mono ?_
      rintro e W2 ⟨rfl, hb2⟩
      have h2 := h1.later hb2
      obtain ⟨d0, d1, d2, d3, d4⟩ := h2.cells
      clear c0 c1 c2 c3 c4 h1 hb2 cK1
      go_upto_region 6 with fail
      generalize (⟨#[72, 84, 84, 80, 47, 49, 46]⟩ : ByteArray) ++ DK = V at *
      obtain ⟨S1, e1⟩ : ∃ S1 : ByteArray, V ++ ⟨#[32]⟩ = S1 := ⟨_, rfl⟩
      have y1 : S1.size ≤ 108 := by rw [← e1, ByteArray.size_append]; show _ + 1 ≤ _; omega
      obtain ⟨S2, e2⟩ : ∃ S2 : ByteArray, S1 ++ DC = S2 := ⟨_, rfl⟩
      have y2 : S2.size ≤ 208 := by rw [← e2, ByteArray.size_append]; omega
      obtain ⟨S3, e3⟩ : ∃ S3 : ByteArray, S2 ++ ⟨#[32]⟩ = S3 := ⟨_, rfl⟩
      have y3 : S3.size ≤ 209 := by rw [← e3, ByteArray.size_append]; show _ + 1 ≤ _; omega
      obtain ⟨S4, e4⟩ : ∃ S4 : ByteArray, S3 ++ D = S4 := ⟨_, rfl⟩
      have y4 : S4.size ≤ 100209 := by rw [← e4, ByteArray.size_append]; omega
      obtain ⟨S5, e5⟩ : ∃ S5 : ByteArray, S4 ++ ⟨#[13, 10]⟩ = S5 := ⟨_, rfl⟩
      have y5 : S5.size ≤ 100211 := by rw [← e5, ByteArray.size_append]; show _ + 2 ≤ _; omega
      have HS : Hid (Z = S5.data.toList) := Lib.hid (by rw [HR.out, e1, e2, e3, e4, e5])
      have x1 : ¬ 9223372036854775807 < V.size + 1 := by omega
      have x2 : ¬ 9223372036854775807 < S1.size + DC.size := by omega
      have x3 : ¬ 9223372036854775807 < S2.size + 1 := by omega
      have x4 : ¬ 9223372036854775807 < S3.size + D.size := by omega
      have x5 : ¬ 9223372036854775807 < S4.size + 2 := by omega
      have v1 : V.size + 1 ≤ 9223372036854775807 := by omega
      have v2 : S1.size + DC.size ≤ 9223372036854775807 := by omega
      have v3 : S2.size + 1 ≤ 9223372036854775807 := by omega
      have v4 : S3.size + D.size ≤ 9223372036854775807 := by omega
      have v5 : S4.size + 2 ≤ 9223372036854775807 := by omega
      have k2 := fun p : LateOf W2 => p.cell d2
      have k3 := fun p : LateOf W2 => p.cell d3
      have GC := fun p : LateOf W2 => late p (cC p.w (HT.out p.w (h2.below.trans (p.h.mono h2.below.size))))
      have HB := Lib.hid (fun p : LateOf W2 => h2.below.trans (p.h.mono h2.below.size))
      have HO := Lib.hid (fun (W : World) => octets_text S5 W (by omega))
      clear d0 d1 d2 d3 d4 h2 cC HR HT
      refine wp_region_late_tail 11 (by kernel_rfl) (by kernel_rfl) ?_
      simp only [List.take_succ_cons, List.take_zero, List.drop_succ_cons, List.drop_zero]
      quiet_step (fail)
      quiet_step (fail)
      quiet_step (fail)
      quiet_step (fail)
      quiet_step ((go_at_call 27; exact GC _))
      quiet_step (fail)
      quiet_step (fail)
      quiet_step (fail)
      quiet_step (fail)
      quiet_step (fail)
      quiet_step (fail)
      refine wpQuiet_nil ?_
      intro w6 hw'
      obtain ⟨p, rfl⟩ := hw'
      have hB := HB.out p
      obtain ⟨w6, hp6⟩ := p
      simp only [] at hB ⊢
      obtain ⟨cc, W7, hcv, hbin, hb7⟩ := HO.out w6
      have hB7 := hB.trans (hb7.mono hB.size)
      have HBin := Lib.hid hbin
      clear hbin hb7 hB HO HB GC k2 k3 hp6
      go_wp2_with fail
      go_ret2
      exact ⟨⟨_, rfl, by rw [HS.out]; exact ⟨HBin.out, nil_ok _ _ _⟩⟩, hB7⟩
end Go.Proofs.YtbpghbbcghlcaaaDoor
