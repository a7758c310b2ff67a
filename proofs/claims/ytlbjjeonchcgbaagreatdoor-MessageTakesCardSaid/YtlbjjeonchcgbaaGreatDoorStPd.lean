/- What lies below, out of the texts of the layers under this one: St7, StP, StP3. -/
import Derived.Test.YtlbjjeonchcgbaaGreatDoorCkBase
import Derived.Test.YtlbjjeonchcgbaaGreatDoorStPa
import Derived.Test.YtlbjjeonchcgbaaGreatDoorTail
import Derived.Test.YtlbjjeonchcgbaaGreatDoorStPb
import Derived.Test.YtlbjjeonchcgbaaGreatDoorStPc
import Derived.Test.YtlbjjeonchcgbaaGreatDoorShape
import Derived.Test.YtlbjjeonchcgbaaGreatDoorRows
import Derived.Lib.LaidTab
import Derived.Stop.LaidErr
namespace Go.Proofs.YtlbjjeonchcgbaaGreatDoor
open Go.RowKit

/-- What the program's two readings answer, where the world is as Env says. -/
structure Read6 (Env : World → Prop) : Prop where
  later : ∀ {w w' : World}, Env w → Below w.heap.size w w' → Env w'
  request : ∀ (v : Value) (l : List UInt8) (w : World), l.length ≤ 100000 → BIn w v l → Env w →
    Calls Tryz.prog 91 #[v] w fun e w' => e = .returned (sres (St.request l)) ∧ Below w.heap.size w w'
  response : ∀ (v : Value) (l : List UInt8) (w : World), l.length ≤ 100000 → BIn w v l → Env w →
    Calls Tryz.prog 90 #[v] w fun e w' => e = .returned (sres (St.response l)) ∧ Below w.heap.size w w'
/-- What the program's calls answer, where the world is as Env says. -/
structure Prog6 (Env : World → Prop) : Prop extends Read6 Env where
  right : ∀ (s : St.S) (w : World), s.method.length ≤ 100000 → s.target.length ≤ 100000 → s.reason.length ≤ 100000 → s.status ≤ 9223372036854775807 → s.minor ≤ 9223372036854775807 → Env w →
    Calls Tryz.prog 41 #[sval s] w fun e w' => e = .returned (.bool (St.right s)) ∧ Below w.heap.size w w'
  print : ∀ (s : St.S) (w : World), s.method.length ≤ 100000 → s.target.length ≤ 100000 → s.reason.length ≤ 100000 → s.status ≤ 9223372036854775807 → s.minor ≤ 9223372036854775807 → Env w →
    Calls Tryz.prog 35 #[sval s] w fun e w' => (∃ v, e = .returned (.tuple #[v, .int .i64 (if St.right s then 0 else 10)]) ∧ BIn w' v (if St.right s then St.text s else []) ∧ NilOk v) ∧ Below w.heap.size w w'

def exQ : List UInt8 := [71, 69, 84, 32, 47, 120, 32, 72, 84, 84, 80, 47, 49, 46, 49, 13, 10, 65]
def exA : List UInt8 := [72, 84, 84, 80, 47, 49, 46, 48, 32, 50, 48, 52, 32, 13, 10]
theorem ex_q : St.request exQ = (⟨[71, 69, 84], [47, 120], 0, [], 1⟩, 17, 0) := by decide +kernel
theorem ex_a : St.response exA = (⟨[], [], 204, [], 0⟩, 15, 0) := by decide +kernel

end Go.Proofs.YtlbjjeonchcgbaaGreatDoor

namespace Go.Proofs.YtlbjjeonchcgbaaGreatDoor
open Go.RowKit

set_option maxHeartbeats 3200000 in
set_option maxRecDepth 100000 in
theorem Print_st (s : St.S) (w : World) (h1 : s.method.length ≤ 100000) (h2 : s.target.length ≤ 100000) (h3 : s.reason.length ≤ 100000) (h4 : s.status ≤ 9223372036854775807) (h5 : s.minor ≤ 9223372036854775807) (hT : Tabs w) :
    Calls Tryz.prog 35 #[sval s] w fun e w' => (∃ v, e = .returned (.tuple #[v, .int .i64 (if St.right s then 0 else 10)]) ∧ BIn w' v (if St.right s then St.text s else []) ∧ NilOk v) ∧ Below w.heap.size w w' := by
  have cR := fun (W : World) => Right_s s W (by omega) (by omega) (by omega)
  rw [sval_s] at cR ⊢
  have h0 := SAt.start w (.string (str s.method)) (.string (str s.target)) (.int .i64 s.status) (.string (str s.reason)) (.int .i64 s.minor)
  have cK := fun (W : World) (h : Tabs W) => Print_is s.minor 10 _ W h5 h rfl
  have cC := fun (W : World) (h : Tabs W) => Print_is s.status 10 _ W h4 h rfl
  have z1 : (str s.method).size ≤ 100000 := by rw [str_size]; exact h1
  have z2 : (str s.target).size ≤ 100000 := by rw [str_size]; exact h2
  have z3 : (str s.reason).size ≤ 100000 := by rw [str_size]; exact h3
  have z4 : (str (Oct.print s.minor 10)).size ≤ 100 := by rw [str_size]; exact Oct.dgs_len10 s.minor.toNat (by omega)
  have z5 : (str (Oct.print s.status 10)).size ≤ 100 := by rw [str_size]; exact Oct.dgs_len10 s.status.toNat (by omega)
  have HV : Hid (St.text s = (if s.status = 0 then str s.method ++ ⟨#[32]⟩ ++ str s.target ++ ⟨#[32]⟩ ++ ((⟨#[72, 84, 84, 80, 47, 49, 46]⟩ : ByteArray) ++ str (Oct.print s.minor 10)) ++ ⟨#[13, 10]⟩
      else ((⟨#[72, 84, 84, 80, 47, 49, 46]⟩ : ByteArray) ++ str (Oct.print s.minor 10)) ++ ⟨#[32]⟩ ++ str (Oct.print s.status 10) ++ ⟨#[32]⟩ ++ str s.reason ++ ⟨#[13, 10]⟩).data.toList) := Lib.hid (by
    unfold St.text St.body
    split
    · simp only [app_two, str_list]
      simp [St.ver, St.http]
    · simp only [app_two, str_list]
      simp [St.ver, St.http])
  generalize St.text s = Z at *
  cases hr : St.right s with
  | false =>
    rw [hr] at cR
    generalize str s.method = M at *
    generalize str s.target = T at *
    generalize str s.reason = D at *
    generalize s.status = C at *
    generalize s.minor = K at *
    clear h1 h2 h3 h4 h5 hr HV cK cC z1 z2 z3 z4 z5 hT
    go_enter Tryz.func35, Tryz.ntmps35
    go_upto_region 1 with fail
    generalize w.alloc _ = W0 at h0 ⊢
    obtain ⟨c0, c1, c2, c3, c4⟩ := h0.cells
    go_wp2_with fail
    refine (cR _).mono ?_
    rintro e W1 ⟨rfl, hb1⟩
    have hB := (h0.later hb1).below
    go_wp2_with fail
    go_ret2
    exact ⟨⟨_, rfl, bin_nil _⟩, hB⟩
  | true =>
    rw [hr] at cR
    have HT := Lib.hid (fun (W : World) (h : Below w.heap.size w W) => hT.later h)
    generalize str (Oct.print s.minor 10) = DK at *
    generalize str (Oct.print s.status 10) = DC at *
    generalize str s.method = M at *
    generalize str s.target = T at *
    generalize str s.reason = D at *
    generalize s.status = C at *
    generalize s.minor = K at *
    clear h1 h2 h3 h4 h5 hr hT
    have zv : ((⟨#[72, 84, 84, 80, 47, 49, 46]⟩ : ByteArray) ++ DK).size ≤ 107 := by rw [ByteArray.size_append]; show 7 + DK.size ≤ _; omega
    by_cases z : C = 0
    · subst z
      have HR : Hid (Z = _) := Lib.hid (HV.out.trans (congrArg (fun x : ByteArray => x.data.toList) (if_pos rfl)))
      clear HV cC z5 z3
      go_enter Tryz.func35, Tryz.ntmps35
      go_upto_region 1 with fail
      generalize w.alloc (.cells #[.string M, .string T, .int .i64 0, .string D, .int .i64 K] 25) = W0 at h0 ⊢
      obtain ⟨c0, c1, c2, c3, c4⟩ := h0.cells
      go_wp2_with fail
      refine (cR _).mono ?_
      rintro e W1 ⟨rfl, hb1⟩
      have h1 := h0.later hb1
      clear c0 c1 c2 c3 c4 h0 hb1 cR
      obtain ⟨c0, c1, c2, c3, c4⟩ := h1.cells
      have cK1 := cK W1 (HT.out W1 h1.below)
      clear cK
      go_wp2_with fail
      refine cK1.mono ?_
      rintro e W2 ⟨rfl, hb2⟩
      have h2 := h1.later hb2
      obtain ⟨d0, d1, d2, d3, d4⟩ := h2.cells
      have hB := h2.below
      clear c0 c1 c2 c3 c4 h1 hb2 cK1 HT
      go_upto_region 5 with fail
      generalize (⟨#[72, 84, 84, 80, 47, 49, 46]⟩ : ByteArray) ++ DK = V at *
      obtain ⟨S1, e1⟩ : ∃ S1 : ByteArray, M ++ ⟨#[32]⟩ = S1 := ⟨_, rfl⟩
      have y1 : S1.size ≤ 100001 := by rw [← e1, ByteArray.size_append]; show _ + 1 ≤ _; omega
      obtain ⟨S2, e2⟩ : ∃ S2 : ByteArray, S1 ++ T = S2 := ⟨_, rfl⟩
      have y2 : S2.size ≤ 200001 := by rw [← e2, ByteArray.size_append]; omega
      obtain ⟨S3, e3⟩ : ∃ S3 : ByteArray, S2 ++ ⟨#[32]⟩ = S3 := ⟨_, rfl⟩
      have y3 : S3.size ≤ 200002 := by rw [← e3, ByteArray.size_append]; show _ + 1 ≤ _; omega
      obtain ⟨S4, e4⟩ : ∃ S4 : ByteArray, S3 ++ V = S4 := ⟨_, rfl⟩
      have y4 : S4.size ≤ 200109 := by rw [← e4, ByteArray.size_append]; omega
      obtain ⟨S5, e5⟩ : ∃ S5 : ByteArray, S4 ++ ⟨#[13, 10]⟩ = S5 := ⟨_, rfl⟩
      have y5 : S5.size ≤ 200111 := by rw [← e5, ByteArray.size_append]; show _ + 2 ≤ _; omega
      have HS : Hid (Z = S5.data.toList) := Lib.hid (by rw [HR.out, e1, e2, e3, e4, e5])
      have x1 : ¬ 9223372036854775807 < M.size + 1 := by omega
      have x2 : ¬ 9223372036854775807 < S1.size + T.size := by omega
      have x3 : ¬ 9223372036854775807 < S2.size + 1 := by omega
      have x4 : ¬ 9223372036854775807 < S3.size + V.size := by omega
      have x5 : ¬ 9223372036854775807 < S4.size + 2 := by omega
      have v1 : M.size + 1 ≤ 9223372036854775807 := by omega
      have v2 : S1.size + T.size ≤ 9223372036854775807 := by omega
      have v3 : S2.size + 1 ≤ 9223372036854775807 := by omega
      have v4 : S3.size + V.size ≤ 9223372036854775807 := by omega
      have v5 : S4.size + 2 ≤ 9223372036854775807 := by omega
      obtain ⟨cc, W3, hcv, hbin, hb3⟩ := octets_text S5 W2 (by omega)
      have hB3 := hB.trans (hb3.mono hB.size)
      have HBin := Lib.hid hbin
      clear HR hbin hb3 hB h2
      go_wp2_with fail
      go_ret2
      exact ⟨⟨_, rfl, by rw [HS.out]; exact ⟨HBin.out, nil_ok _ _ _⟩⟩, hB3⟩
    · have bz : (C == 0) = false := beq_eq_false_iff_ne.2 z
      have HR : Hid (Z = _) := Lib.hid (HV.out.trans (congrArg (fun x : ByteArray => x.data.toList) (if_neg z)))
      clear HV z1 z2
      go_enter Tryz.func35, Tryz.ntmps35
      go_upto_region 1 with fail
      generalize w.alloc (.cells #[.string M, .string T, .int .i64 C, .string D, .int .i64 K] 25) = W0 at h0 ⊢
      obtain ⟨c0, c1, c2, c3, c4⟩ := h0.cells
      go_wp2_with fail
      refine (cR _).mono ?_
      rintro e W1 ⟨rfl, hb1⟩
      have h1 := h0.later hb1
      clear c0 c1 c2 c3 c4 h0 hb1 cR
      obtain ⟨c0, c1, c2, c3, c4⟩ := h1.cells
      have cK1 := cK W1 (HT.out W1 h1.below)
      clear cK
      go_wp2_with fail
      refine cK1.mono ?_
      rintro e W2 ⟨rfl, hb2⟩
      have h2 := h1.later hb2
      obtain ⟨d0, d1, d2, d3, d4⟩ := h2.cells
      clear c0 c1 c2 c3 c4 h1 hb2 cK1
      go_upto_region 6 with fail
      generalize (⟨#[72, 84, 84, 80, 47, 49, 46]⟩ : ByteArray) ++ DK = V at *
      obtain ⟨S1, e1⟩ : ∃ S1 : ByteArray, V ++ ⟨#[32]⟩ = S1 := ⟨_, rfl⟩
      have y1 : S1.size ≤ 108 := by rw [← e1, ByteArray.size_append]; show _ + 1 ≤ _; omega
      obtain ⟨S2, e2⟩ : ∃ S2 : ByteArray, S1 ++ DC = S2 := ⟨_, rfl⟩
      have y2 : S2.size ≤ 208 := by rw [← e2, ByteArray.size_append]; omega
      obtain ⟨S3, e3⟩ : ∃ S3 : ByteArray, S2 ++ ⟨#[32]⟩ = S3 := ⟨_, rfl⟩
      have y3 : S3.size ≤ 209 := by rw [← e3, ByteArray.size_append]; show _ + 1 ≤ _; omega
      obtain ⟨S4, e4⟩ : ∃ S4 : ByteArray, S3 ++ D = S4 := ⟨_, rfl⟩
      have y4 : S4.size ≤ 100209 := by rw [← e4, ByteArray.size_append]; omega
      obtain ⟨S5, e5⟩ : ∃ S5 : ByteArray, S4 ++ ⟨#[13, 10]⟩ = S5 := ⟨_, rfl⟩
      have y5 : S5.size ≤ 100211 := by rw [← e5, ByteArray.size_append]; show _ + 2 ≤ _; omega
      have HS : Hid (Z = S5.data.toList) := Lib.hid (by rw [HR.out, e1, e2, e3, e4, e5])
      have x1 : ¬ 9223372036854775807 < V.size + 1 := by omega
      have x2 : ¬ 9223372036854775807 < S1.size + DC.size := by omega
      have x3 : ¬ 9223372036854775807 < S2.size + 1 := by omega
      have x4 : ¬ 9223372036854775807 < S3.size + D.size := by omega
      have x5 : ¬ 9223372036854775807 < S4.size + 2 := by omega
      have v1 : V.size + 1 ≤ 9223372036854775807 := by omega
      have v2 : S1.size + DC.size ≤ 9223372036854775807 := by omega
      have v3 : S2.size + 1 ≤ 9223372036854775807 := by omega
      have v4 : S3.size + D.size ≤ 9223372036854775807 := by omega
      have v5 : S4.size + 2 ≤ 9223372036854775807 := by omega
      have k2 := fun p : LateOf W2 => p.cell d2
      have k3 := fun p : LateOf W2 => p.cell d3
      have GC := fun p : LateOf W2 => late p (cC p.w (HT.out p.w (h2.below.trans (p.h.mono h2.below.size))))
      have HB := Lib.hid (fun p : LateOf W2 => h2.below.trans (p.h.mono h2.below.size))
      have HO := Lib.hid (fun (W : World) => octets_text S5 W (by omega))
      clear d0 d1 d2 d3 d4 h2 cC HR HT
      refine wp_region_late_tail 11 (by kernel_rfl) (by kernel_rfl) ?_
      simp only [List.take_succ_cons, List.take_zero, List.drop_succ_cons, List.drop_zero]
      quiet_step (fail)
      quiet_step (fail)
      quiet_step (fail)
      quiet_step (fail)
      quiet_step ((go_at_call 65; exact GC _))
      quiet_step (fail)
      quiet_step (fail)
      quiet_step (fail)
      quiet_step (fail)
      quiet_step (fail)
      quiet_step (fail)
      refine wpQuiet_nil ?_
      intro w6 hw'
      obtain ⟨p, rfl⟩ := hw'
      have hB := HB.out p
      obtain ⟨w6, hp6⟩ := p
      simp only [] at hB ⊢
      obtain ⟨cc, W7, hcv, hbin, hb7⟩ := HO.out w6
      have hB7 := hB.trans (hb7.mono hB.size)
      have HBin := Lib.hid hbin
      clear hbin hb7 hB HO HB GC k2 k3 hp6
      go_wp2_with fail
      go_ret2
      exact ⟨⟨_, rfl, by rw [HS.out]; exact ⟨HBin.out, nil_ok _ _ _⟩⟩, hB7⟩
end Go.Proofs.YtlbjjeonchcgbaaGreatDoor

namespace Go.Proofs.YtlbjjeonchcgbaaGreatDoor
open Go.RowKit Go.ChangeShapes Go.WideShapes

set_option maxHeartbeats 1600000 in
set_option maxRecDepth 100000 in
theorem Request_w (v : Value) (l : List UInt8) (w : World) (hl : l.length ≤ 500000) (h : BIn w v l) (hm : MaxOk w) :
    Calls Tryz.prog 91 #[v] w fun e w' => e = .returned (sres (St.request l)) ∧ Below w.heap.size w w' := by
  have h0 := SAt.start w (.string ⟨#[]⟩) (.string ⟨#[]⟩) (.int .i64 0) (.string ⟨#[]⟩) (.int .i64 0)
  have cF := fun (W : World) (hb : Below w.heap.size w W) => first_q v l W hl (h.later hb) (hm.later hb)
  obtain ⟨⟨⟨m, t, st, r, k⟩, n, e⟩, hq⟩ : ∃ x, St.request l = x := ⟨_, rfl⟩
  rw [hq, sres_s] at cF ⊢
  generalize str m = M at *
  generalize str t = T at *
  generalize str r = D at *
  clear h hl hm hq
  go_enter Tryz.func91, Tryz.ntmps91
  go_upto_region 1 with fail
  generalize w.alloc _ = W0 at h0 ⊢
  go_wp2_with fail
  refine (cF _ h0.below).mono ?_
  rintro e1 W1 ⟨rfl, hb1⟩
  have h1 := h0.later hb1
  clear hb1 cF
  go_wp2_with (refine stS h1 rfl (.tmp 2) (.tmp 7) rfl _ _ _ _ _ rfl rfl ?_; intro W9 h9 _)
  (try simp only [Exit.inBlock, Exit.then])
  refine ret_start rfl w.heap.size _ _ _ _ _ rfl h9.cell rfl ?_
  exact ⟨rfl, h9.below⟩

set_option maxHeartbeats 1600000 in
set_option maxRecDepth 100000 in
theorem Response_w (v : Value) (l : List UInt8) (w : World) (hl : l.length ≤ 500000) (h : BIn w v l) (hm : MaxOk w) :
    Calls Tryz.prog 90 #[v] w fun e w' => e = .returned (sres (St.response l)) ∧ Below w.heap.size w w' := by
  have h0 := SAt.start w (.string ⟨#[]⟩) (.string ⟨#[]⟩) (.int .i64 0) (.string ⟨#[]⟩) (.int .i64 0)
  have cF := fun (W : World) (hb : Below w.heap.size w W) => first_a v l W hl (h.later hb) (hm.later hb)
  obtain ⟨⟨⟨m, t, st, r, k⟩, n, e⟩, hq⟩ : ∃ x, St.response l = x := ⟨_, rfl⟩
  rw [hq, sres_s] at cF ⊢
  generalize str m = M at *
  generalize str t = T at *
  generalize str r = D at *
  clear h hl hm hq
  go_enter Tryz.func90, Tryz.ntmps90
  go_upto_region 1 with fail
  generalize w.alloc _ = W0 at h0 ⊢
  go_wp2_with fail
  refine (cF _ h0.below).mono ?_
  rintro e1 W1 ⟨rfl, hb1⟩
  have h1 := h0.later hb1
  clear hb1 cF
  go_wp2_with (refine stS h1 rfl (.tmp 2) (.tmp 7) rfl _ _ _ _ _ rfl rfl ?_; intro W9 h9 _)
  (try simp only [Exit.inBlock, Exit.then])
  refine ret_start rfl w.heap.size _ _ _ _ _ rfl h9.cell rfl ?_
  exact ⟨rfl, h9.below⟩

/-- What the program asks of the world: the library's variable holds a number, its tables hold theirs. -/
def Env (w : World) : Prop := MaxOk w ∧ Tabs w
theorem read6 : Read6 MaxOk where
  later := fun h hb => h.later hb
  request := fun v l w hl h hE => Request_w v l w (by omega) h hE
  response := fun v l w hl h hE => Response_w v l w (by omega) h hE
theorem prog6 : Prog6 Env where
  later := fun h hb => ⟨h.1.later hb, h.2.later hb⟩
  right := fun s w h1 h2 h3 _ _ _ => Right_s s w (by omega) (by omega) (by omega)
  print := fun s w h1 h2 h3 h4 h5 hE => Print_st s w h1 h2 h3 h4 h5 hE.2
  request := fun v l w hl h hE => Request_w v l w (by omega) h hE.1
  response := fun v l w hl h hE => Response_w v l w (by omega) h hE.1

theorem maxOk_shape {W : World} (h : W.ShapedOpen Tryz.prog) : MaxOk W :=
  cell_of_shapedOpen_int (t := 3) (zero := #[.int .i64 0]) h (of_decide_eq_true (by kernel_rfl)) (by kernel_rfl) rfl (by kernel_rfl) (by kernel_rfl) Tryz.underlying3
/-- What a row's list gives: the library's tables hold their numbers. -/
theorem tabs_laid {W : World} {r : List (String × DataW Unit)} (h : laidMet Tryz.prog (("math/bits.deBruijn32tab", Rows.laid_math_bits_deBruijn32tab) :: ("math/bits.deBruijn64tab", Rows.laid_math_bits_deBruijn64tab) :: ("internal/strconv.uint64pow10", Rows.laid_internal_strconv_uint64pow10) :: r) W) : Tabs W := by
  have h1 := laidMet.tail h
  have h2 := laidMet.tail h1
  have e64 : (Rows.laid_math_bits_deBruijn64tab : DataW Unit) = Lib.tabData .u8 (Lib.deBruijn64tab.map fun n : Nat => (n : Int)) := by kernel_rfl
  have e10 : (Rows.laid_internal_strconv_uint64pow10 : DataW Unit) = Lib.tabData .u64 Lib.pow10Tab := by kernel_rfl
  rw [e64] at h1
  rw [e10] at h2
  have g64 : Tryz.prog.globalNamed "math/bits.deBruijn64tab" = some 3 := by kernel_rfl
  have g10 : Tryz.prog.globalNamed "internal/strconv.uint64pow10" = some 0 := by kernel_rfl
  have t64 : (Tryz.prog.globals[3]?).map (·.type) = some 186 := by kernel_rfl
  have t10 : (Tryz.prog.globals[0]?).map (·.type) = some 168 := by kernel_rfl
  have T1 := Lib.tabIs_of_head g64 t64 Tryz.underlying186 Tryz.underlying5 (by kernel_rfl) (by kernel_rfl) h1
  have T2 := Lib.tabIs_of_head g10 t10 Tryz.underlying168 Tryz.underlying143 (by kernel_rfl) (by kernel_rfl) h2
  refine ⟨fun j hj => ?_, T2⟩
  have := T1.cell g64 j (by rw [List.length_map]; exact hj)
  rw [this]
  simp [List.getD, hj]
end Go.Proofs.YtlbjjeonchcgbaaGreatDoor
