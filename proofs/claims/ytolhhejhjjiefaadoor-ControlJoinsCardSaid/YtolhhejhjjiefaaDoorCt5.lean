/- Package control: Print, the whole. -/
import Derived.Test.YtolhhejhjjiefaaDoorCt4
namespace Go.Proofs.YtolhhejhjjiefaaDoor
open Go.RowKit

/-- What fits into int64. -/
def Fits (c : Ctl.C) : Prop := c.ma ≤ 9223372036854775807 ∧ c.sa ≤ 9223372036854775807 ∧ c.ms ≤ 9223372036854775807 ∧ c.mf ≤ 9223372036854775807
/-- A literal list of texts. -/
theorem SIn.lits (w : World) (ts : List (List UInt8))  : SIn (w.alloc (.cells (strCells ts).toArray 9)) (.slice (some ⟨w.heap.size, 0, none⟩) ts.length ts.length) ts := by
  refine ⟨_, _, rfl, .inr ⟨w.heap.size, 0, rfl, by simp, fun j hj => ?_⟩⟩
  rw [World.cell?_alloc_at _ _ _ _ rfl]
  simp [strCells, hj]

set_option maxHeartbeats 3200000 in
set_option maxRecDepth 100000 in
theorem Print_w (c : Ctl.C) (w : World) (hf : Fits c) (hT : Tabs w) :
    Calls Tryd.prog 12 #[cval c] w fun e w' => e = .returned (.string (str (Ctl.print c))) ∧ Below w.heap.size w w' := by
  have HR := Lib.hid (Ctl.joinAll_texts c)
  have HTL := Lib.hid (Ctl.texts_len c hf.1 hf.2.1 hf.2.2.1 hf.2.2.2)
  obtain ⟨f1, f2, f3, f4⟩ := hf
  have hba : Below w.heap.size w (w.alloc (.cells (ccells c) 25)) := (Below.refl _ w).alloc (Nat.le_refl _) _
  have hca : CAt (w.alloc (.cells (ccells c) 25)) w.heap.size c := heap_alloc_new w _
  have FNS := fun w => flag_w Ctl.kNS c.ns w
  have FNC := fun w => flag_w Ctl.kNC c.nc w
  have FPU := fun w => flag_w Ctl.kPU c.pu w
  have FPR := fun w => flag_w Ctl.kPR c.pr w
  have FMU := fun w => flag_w Ctl.kMU c.mu w
  have FPX := fun w => flag_w Ctl.kPX c.px w
  have FOI := fun w => flag_w Ctl.kOI c.oi w
  have FMA := fun (w1 : World) (hb : Below w.heap.size w w1) => number_w Ctl.kMA c.ma w1 (by decide) f1 (hT.later hb)
  have FSA := fun (w1 : World) (hb : Below w.heap.size w w1) => number_w Ctl.kSA c.sa w1 (by decide) f2 (hT.later hb)
  have FMS := fun (w1 : World) (hb : Below w.heap.size w w1) => number_w Ctl.kMS c.ms w1 (by decide) f3 (hT.later hb)
  have FMF := fun (w1 : World) (hb : Below w.heap.size w w1) => number_w Ctl.kMF c.mf w1 (by decide) f4 (hT.later hb)
  rw [show str Ctl.kNS = ⟨#[110, 111, 45, 115, 116, 111, 114, 101]⟩ from rfl] at FNS
  rw [show str Ctl.kNC = ⟨#[110, 111, 45, 99, 97, 99, 104, 101]⟩ from rfl] at FNC
  rw [show str Ctl.kPU = ⟨#[112, 117, 98, 108, 105, 99]⟩ from rfl] at FPU
  rw [show str Ctl.kPR = ⟨#[112, 114, 105, 118, 97, 116, 101]⟩ from rfl] at FPR
  rw [show str Ctl.kMU = ⟨#[109, 117, 115, 116, 45, 114, 101, 118, 97, 108, 105, 100, 97, 116, 101]⟩ from rfl] at FMU
  rw [show str Ctl.kPX = ⟨#[112, 114, 111, 120, 121, 45, 114, 101, 118, 97, 108, 105, 100, 97, 116, 101]⟩ from rfl] at FPX
  rw [show str Ctl.kOI = ⟨#[111, 110, 108, 121, 45, 105, 102, 45, 99, 97, 99, 104, 101, 100]⟩ from rfl] at FOI
  rw [show str Ctl.kMA = ⟨#[109, 97, 120, 45, 97, 103, 101]⟩ from rfl] at FMA
  rw [show str Ctl.kSA = ⟨#[115, 45, 109, 97, 120, 97, 103, 101]⟩ from rfl] at FSA
  rw [show str Ctl.kMS = ⟨#[109, 97, 120, 45, 115, 116, 97, 108, 101]⟩ from rfl] at FMS
  rw [show str Ctl.kMF = ⟨#[109, 105, 110, 45, 102, 114, 101, 115, 104]⟩ from rfl] at FMF
  have HX : Hid (Ctl.texts c = [Ctl.flagT Ctl.kNS c.ns, Ctl.flagT Ctl.kNC c.nc, Ctl.flagT Ctl.kPU c.pu, Ctl.flagT Ctl.kPR c.pr, Ctl.flagT Ctl.kMU c.mu, Ctl.flagT Ctl.kPX c.px, Ctl.flagT Ctl.kOI c.oi, Ctl.numT Ctl.kMA c.ma, Ctl.numT Ctl.kSA c.sa, Ctl.numT Ctl.kMS c.ms, Ctl.numT Ctl.kMF c.mf]) := Lib.hid rfl
  generalize Ctl.flagT Ctl.kNS c.ns = t0 at *
  generalize Ctl.flagT Ctl.kNC c.nc = t1 at *
  generalize Ctl.flagT Ctl.kPU c.pu = t2 at *
  generalize Ctl.flagT Ctl.kPR c.pr = t3 at *
  generalize Ctl.flagT Ctl.kMU c.mu = t4 at *
  generalize Ctl.flagT Ctl.kPX c.px = t5 at *
  generalize Ctl.flagT Ctl.kOI c.oi = t6 at *
  generalize Ctl.numT Ctl.kMA c.ma = t7 at *
  generalize Ctl.numT Ctl.kSA c.sa = t8 at *
  generalize Ctl.numT Ctl.kMS c.ms = t9 at *
  generalize Ctl.numT Ctl.kMF c.mf = t10 at *
  have HP := Lib.hid (Ctl.joinAll_texts c)
  generalize Ctl.print c = pc at *
  have cL := fun (w1 : World) => list_w (.slice (some ⟨w1.heap.size, 0, none⟩) 11 11) (Ctl.texts c) (w1.alloc (.cells #[.string (str t0), .string (str t1), .string (str t2), .string (str t3), .string (str t4), .string (str t5), .string (str t6), .string (str t7), .string (str t8), .string (str t9), .string (str t10)] 9)) (by rw [HX.out]; exact SIn.lits w1 [t0, t1, t2, t3, t4, t5, t6, t7, t8, t9, t10]) (by rw [HX.out]; simp) (fun t ht => by have := HTL.out t ht; omega)
  rw [HP.out] at cL
  generalize str pc = spc at *
  generalize str t0 = s0 at *
  generalize str t1 = s1 at *
  generalize str t2 = s2 at *
  generalize str t3 = s3 at *
  generalize str t4 = s4 at *
  generalize str t5 = s5 at *
  generalize str t6 = s6 at *
  generalize str t7 = s7 at *
  generalize str t8 = s8 at *
  generalize str t9 = s9 at *
  generalize str t10 = s10 at *
  obtain ⟨b0, b1, b2, b3, b4, b5, b6, b7, b8, b9, b10⟩ := (show CAt _ _ c from hca).cells
  clear hca HX HTL HP HR f1 f2 f3 f4
  unfold cval ccells at *
  obtain ⟨ns, nc, pu, pr, mu, px, oi, ma, sa, ms, mf⟩ := c
  simp only [] at *
  go_enter Tryd.func12, Tryd.ntmps12
  go_upto_region 1 with fail
  generalize w.alloc (.cells #[.bool ns, .bool nc, .bool pu, .bool pr, .bool mu, .bool px, .bool oi, .int .i64 ma, .int .i64 sa, .int .i64 ms, .int .i64 mf] 25) = W1 at *
  have l0 := fun p : LateOf W1 => p.cell b0
  have l1 := fun p : LateOf W1 => p.cell b1
  have l2 := fun p : LateOf W1 => p.cell b2
  have l3 := fun p : LateOf W1 => p.cell b3
  have l4 := fun p : LateOf W1 => p.cell b4
  have l5 := fun p : LateOf W1 => p.cell b5
  have l6 := fun p : LateOf W1 => p.cell b6
  have l7 := fun p : LateOf W1 => p.cell b7
  have l8 := fun p : LateOf W1 => p.cell b8
  have l9 := fun p : LateOf W1 => p.cell b9
  have l10 := fun p : LateOf W1 => p.cell b10
  have GNS := fun p : LateOf W1 => late_same p (FNS p.w)
  have GNC := fun p : LateOf W1 => late_same p (FNC p.w)
  have GPU := fun p : LateOf W1 => late_same p (FPU p.w)
  have GPR := fun p : LateOf W1 => late_same p (FPR p.w)
  have GMU := fun p : LateOf W1 => late_same p (FMU p.w)
  have GPX := fun p : LateOf W1 => late_same p (FPX p.w)
  have GOI := fun p : LateOf W1 => late_same p (FOI p.w)
  have GMA := fun p : LateOf W1 => late p (FMA p.w (hba.trans (p.h.mono hba.size)))
  have GSA := fun p : LateOf W1 => late p (FSA p.w (hba.trans (p.h.mono hba.size)))
  have GMS := fun p : LateOf W1 => late p (FMS p.w (hba.trans (p.h.mono hba.size)))
  have GMF := fun p : LateOf W1 => late p (FMF p.w (hba.trans (p.h.mono hba.size)))
  have HBA := Lib.hid hba
  clear hba hT b0 FNS b1 FNC b2 FPU b3 FPR b4 FMU b5 FPX b6 FOI b7 FMA b8 FSA b9 FMS b10 FMF
  refine wp_region_late_tail 33 (by kernel_rfl) (by kernel_rfl) ?_
  simp only [List.take_succ_cons, List.take_zero, List.drop_succ_cons, List.drop_zero]
  quiet_step (fail)
  quiet_step (fail)
  quiet_step ((go_at_call 25; exact GNS _))
  quiet_step (fail)
  quiet_step (fail)
  quiet_step ((go_at_call 25; exact GNC _))
  quiet_step (fail)
  quiet_step (fail)
  quiet_step ((go_at_call 25; exact GPU _))
  quiet_step (fail)
  quiet_step (fail)
  quiet_step ((go_at_call 25; exact GPR _))
  quiet_step (fail)
  quiet_step (fail)
  quiet_step ((go_at_call 25; exact GMU _))
  quiet_step (fail)
  quiet_step (fail)
  quiet_step ((go_at_call 25; exact GPX _))
  quiet_step (fail)
  quiet_step (fail)
  quiet_step ((go_at_call 25; exact GOI _))
  quiet_step (fail)
  quiet_step (fail)
  quiet_step ((go_at_call 26; exact GMA _))
  quiet_step (fail)
  quiet_step (fail)
  quiet_step ((go_at_call 26; exact GSA _))
  quiet_step (fail)
  quiet_step (fail)
  quiet_step ((go_at_call 26; exact GMS _))
  quiet_step (fail)
  quiet_step (fail)
  quiet_step ((go_at_call 26; exact GMF _))
  refine wpQuiet_nil ?_
  intro w2 hw'
  have hb2 : Below W1.heap.size W1 w2 := by obtain ⟨p, rfl⟩ := hw'; exact p.h
  have hb3 := HBA.out.trans (hb2.mono HBA.out.size)
  clear hw' hb2 HBA l0 GNS l1 GNC l2 GPU l3 GPR l4 GMU l5 GPX l6 GOI l7 GMA l8 GSA l9 GMS l10 GMF
  have ha : Below w2.heap.size w2 (w2.alloc (.cells #[.string s0, .string s1, .string s2, .string s3, .string s4, .string s5, .string s6, .string s7, .string s8, .string s9, .string s10] 9)) := (Below.refl _ w2).alloc (Nat.le_refl _) _
  have hb4 := hb3.trans (ha.mono hb3.size)
  go_wp2_with fail
  refine (cL w2).mono ?_
  rintro e w3 ⟨rfl, hb5⟩
  have hb6 := hb4.trans (hb5.mono hb4.size)
  clear cL hb5 hb4 ha hb3
  go_wp2_with fail
  go_ret
  exact ⟨rfl, hb6⟩
end Go.Proofs.YtolhhejhjjiefaaDoor
