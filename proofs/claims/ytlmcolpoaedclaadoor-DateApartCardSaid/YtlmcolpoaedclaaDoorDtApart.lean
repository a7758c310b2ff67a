/- DateApart (P2.2): for every input the law answers true, and each argument reads as it did. Under no condition of its own: the row lists three tables of the library and three of package date (the card ties them). -/
import Derived.Test.YtlmcolpoaedclaaDoorDt22
import Derived.Test.YtlmcolpoaedclaaDoorDtTab
import Derived.Test.YtlmcolpoaedclaaDoorCards
import Derived.Test.YtlmcolpoaedclaaDoorTie
import Derived.ProofKit
import Derived.OpenShut
import Derived.LaidMore
import Derived.Lay
import Derived.Lib.LaidTab
import Derived.SevenTiedAt
import Derived.Stop.Joined
import Derived.Stop.LaidErr
import Derived.ChangeOld
namespace Go.Proofs.YtlmcolpoaedclaaDoor.lawDateApart
open Go.ChangeShapes Go.WideShapes Go.ChangeAt Go.RowKit
open Go.ChangeMaps (open_string shut_string)

theorem own : ownKnob Tryd.prog.godebug = none := by kernel_rfl
theorem laidOut : laidOutB Tryd.prog = true := by kernel_rfl

/-- What the row's list gives: the tables hold what the program's text says. -/
theorem tabs {W : World} (h : laidMetH Tryd.prog Rows.dateApartRow.laid W) : DTabs W := by
  rw [MakeChecks.laidMetH_plain _ _ _ (by kernel_rfl)] at h
  have h1 := laidMet.tail h
  have h2 := laidMet.tail h1
  have h3 := laidMet.tail h2
  have h4 := laidMet.tail h3
  have h5 := laidMet.tail h4
  have e64 : (Rows.laid_math_bits_deBruijn64tab : DataW Unit) = Lib.tabData .u8 (Lib.deBruijn64tab.map fun n : Nat => (n : Int)) := by kernel_rfl
  have e10 : (Rows.laid_internal_strconv_uint64pow10 : DataW Unit) = Lib.tabData .u64 Lib.pow10Tab := by kernel_rfl
  have eL : (Rows.laid_icehouse_date_lengths : DataW Unit) = Lib.tabData .i64 [31, 28, 31, 30, 31, 30, 31, 31, 30, 31, 30, 31] := by kernel_rfl
  have eD : (Rows.laid_icehouse_date_weekdays : DataW Unit) = textsW Dt.dayNames := by kernel_rfl
  have eM : (Rows.laid_icehouse_date_months : DataW Unit) = textsW Dt.monthNames := by kernel_rfl
  rw [e64] at h1
  rw [e10] at h2
  rw [eL] at h3
  rw [eD] at h4
  rw [eM] at h5
  have g64 : Tryd.prog.globalNamed "math/bits.deBruijn64tab" = some 6 := by kernel_rfl
  have g10 : Tryd.prog.globalNamed "internal/strconv.uint64pow10" = some 4 := by kernel_rfl
  have gL : Tryd.prog.globalNamed "icehouse/date.lengths" = some 2 := by kernel_rfl
  have gD : Tryd.prog.globalNamed "icehouse/date.weekdays" = some 0 := by kernel_rfl
  have gM : Tryd.prog.globalNamed "icehouse/date.months" = some 1 := by kernel_rfl
  have t64 : (Tryd.prog.globals[6]?).map (·.type) = some 90 := by kernel_rfl
  have t10 : (Tryd.prog.globals[4]?).map (·.type) = some 84 := by kernel_rfl
  have tL : (Tryd.prog.globals[2]?).map (·.type) = some 73 := by kernel_rfl
  have tD : (Tryd.prog.globals[0]?).map (·.type) = some 59 := by kernel_rfl
  have tM : (Tryd.prog.globals[1]?).map (·.type) = some 60 := by kernel_rfl
  have T1 := Lib.tabIs_of_head g64 t64 Tryd.underlying90 Tryd.underlying5 (by kernel_rfl) (by kernel_rfl) h1
  have T2 := Lib.tabIs_of_head g10 t10 Tryd.underlying84 Tryd.underlying78 (by kernel_rfl) (by kernel_rfl) h2
  have T3 := Lib.tabIs_of_head gL tL Tryd.underlying73 Tryd.underlying3 (by kernel_rfl) (by kernel_rfl) h3
  refine ⟨⟨fun j hj => ?_, T2⟩, fun j hj => T3.cell gL j hj, fun j hj => texts_head gD tD Tryd.underlying59 Tryd.underlying9 (by kernel_rfl) (by kernel_rfl) h4 j hj, fun j hj => texts_head gM tM Tryd.underlying60 Tryd.underlying9 (by kernel_rfl) (by kernel_rfl) h5 j hj⟩
  have := T1.cell g64 j (by rw [List.length_map]; exact hj)
  rw [this]
  simp [List.getD, hj]

set_option maxRecDepth 100000 in
theorem lifted (os : Os) (started : os.Started) (H : Type) (enc : TypeId × Value → H) :
    ReturnsInHanded {} Tryd.checked os 6 .any (fun w args => (Rows.dateApartSpec.pre enc Tryd.prog Tryd.f6 Rows.dateApartRow.domain false w args ∧ laidMetH Tryd.prog Rows.dateApartRow.laid w) ∧ sizedMet enc Tryd.prog Tryd.f6 (OpenSpec.ofChange Rows.dateApartSpec) false w args)
      (Rows.dateApartSpec.post enc Tryd.prog Tryd.f6 false true false false) := by
  refine returnsInHanded_of_change_and (C := Tryd.checked) (X := fun w _ => laidMetH Tryd.prog Rows.dateApartRow.laid w) (fun _ _ _ hh h => h.of_heap hh) own started (by kernel_rfl) Tryd.func6
    (ChangeSpec.witness_shaped (enc := enc) (C := Tryd.checked) (os := os) (X := fun w _ => laidMetH Tryd.prog Rows.dateApartRow.laid w) false (World.laidAll Tryd.prog os Rows.dateApartRow.laid) #[.int .i64 0, .int .i64 0, .agg #[.int .i64 0, .int .i64 0]] 8 (World.laidAll_os _ _ _)
      (World.shaped_of_ZipB (by kernel_rfl) (by kernel_rfl)) (by kernel_rfl) (by kernel_rfl) (by kernel_rfl)
      (by rw [MakeChecks.laidMetH_plain _ _ _ (by kernel_rfl)]; exact laidMet_laidAll _ (by kernel_rfl) (by kernel_rfl))) ?_
  intro W base args ds gs before hval0 hW hc _ hL _
  have hval : ∀ (j : Nat) t v, Tryd.f6.params[j]? = some t → args[j]? = some v → Value.okWide Tryd.prog W .any base t v := hval0
  have hW' := hW
  obtain ⟨p, q, hA0, hV, rfl, hfz, hnd⟩ := hW
  have hA : DataW.TrodAll enc Tryd.prog W 0 (fun _ => true) true Tryd.f6.params.toList args.toList ds p := hA0
  rw [Tryd.params6] at hA hval
  obtain ⟨v0, vs0, d0, ds0, p0, q0, hargs, rfl, rfl, h0, r0⟩ := trodAll_cons hA
  obtain ⟨v1, vs1, d1, ds1, p1, q1, rfl, rfl, rfl, h1, r1⟩ := trodAll_cons r0
  obtain ⟨v2, vs2, d2, ds2, p2, q2, rfl, rfl, rfl, h2, r2⟩ := trodAll_cons r1
  obtain ⟨rfl, rfl, rfl⟩ := trodAll_nil r2
  obtain rfl : args = #[v0, v1, v2] := by cases args; simp_all
  obtain ⟨rfl, rfl⟩ := trodVars_none hV
  obtain ⟨a0, rfl, rfl, rfl, w0⟩ := open_int Tryd.underlying3 (hval 0 3 v0 rfl rfl) h0
  have b0 : -9223372036854775808 ≤ a0 ∧ a0 ≤ 9223372036854775807 := by
    have h := w0
    simp only [Lit.wf, Bool.and_eq_true, decide_eq_true_eq] at h
    have hmin : IntKind.i64.min = -9223372036854775808 := rfl
    have hmax : IntKind.i64.max = 9223372036854775807 := rfl
    omega
  obtain ⟨a1, rfl, rfl, rfl, w1⟩ := open_int Tryd.underlying3 (hval 1 3 v1 rfl rfl) h1
  have b1 : -9223372036854775808 ≤ a1 ∧ a1 ≤ 9223372036854775807 := by
    have h := w1
    simp only [Lit.wf, Bool.and_eq_true, decide_eq_true_eq] at h
    have hmin : IntKind.i64.min = -9223372036854775808 := rfl
    have hmax : IntKind.i64.max = 9223372036854775807 := rfl
    omega
  obtain ⟨a2, c2, rfl, rfl, rfl, w2, x2⟩ := open_two Tryd.underlying39 Tryd.underlying3 (by kernel_rfl) (by kernel_rfl) (hval 2 39 v2 rfl rfl) h2
  clear hA0 hval0
  simp only [List.append_nil] at hW'
  have _hT := hL
  refine (apart_w a0 a1 a2 c2 W (tabs hL)).mono fun e W' ⟨he, bel⟩ => ?_
  subst he
  exact ⟨_, rfl, _, _, _, [], _, [], hW', trodAll_mk1 (shut_bool Tryd.underlying4 _), (trodAll_cons_mk (shut_int Tryd.underlying3 w0) (trodAll_cons_mk (shut_int Tryd.underlying3 w1) (trodAll_cons_mk (shut_two Tryd.underlying39 Tryd.underlying3 (by kernel_rfl) (by kernel_rfl) w2 x2) trodAll_mk0))), rfl, bel.frame _, fun h => by cases h⟩

theorem said : Rows.DateApartSaid :=
  OpenClaim.holds_of_wide 6 Tryd.f6 rfl rfl rfl rfl rfl rfl rfl ⟨rfl, rfl, rfl, rfl, rfl⟩ rfl rfl rfl rfl rfl (by kernel_rfl) Tryd.func6 (by kernel_rfl)
    (of_decide_eq_true (by kernel_rfl)) (by unfold Func.isWrapper; first | (rw [if_pos (by decide +kernel)]; kernel_rfl) | (rw [if_neg (by decide +kernel)]; exact ⟨rfl, rfl⟩))
    (fun os started H enc _ => lifted os started H enc)

theorem plain (f : FuncId) (fn : Func) (hf : Tryd.pinned.checked.prog.funcNamed "icehouse/icehouselaw02.DateApart" = some f) (hfn : Tryd.pinned.checked.prog.funcs[f]? = some fn) :
    false = Tryd.pinned.checked.prog.looks [] ∧ ∀ (j : Nat) t, fn.params[j]? = some t → Tryd.pinned.checked.prog.wantsStandIn t = false := by
  obtain rfl : f = 6 := Option.some.inj ((show Tryd.prog.funcNamed "icehouse/icehouselaw02.DateApart" = some 6 by kernel_rfl).symm.trans hf) |>.symm
  obtain rfl : fn = Tryd.f6 := (Option.some.inj (Tryd.func6.symm.trans hfn)).symm
  refine ⟨by kernel_rfl, fun j t ht => ?_⟩
  rw [Tryd.params6] at ht
  have hm : t ∈ [3, 3, 39] := by simpa using Array.mem_of_getElem? ht
  have hall : ([3, 3, 39].all fun u => !Tryd.prog.wantsStandIn u) = true := by kernel_rfl
  exact (show Tryd.prog.wantsStandIn t = false by simpa using List.all_eq_true.1 hall t hm)

theorem card : Rows.DateApartCardSaid :=
  Claim7.holds_tied_plain_at .later [] _ _ _ _ said (fun _ h => by cases h) (by kernel_rfl) (fun _ h => by cases h) dateApart_row_tie rfl ⟨rfl, rfl⟩ (by kernel_rfl) rfl plain (by kernel_rfl)
#print axioms card
end Go.Proofs.YtlmcolpoaedclaaDoor.lawDateApart
