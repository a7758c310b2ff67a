/- Package fresh: what a row's list gives. -/
import Derived.Test.YtajbeoignhnpjaaDoorFrD
import Derived.Test.YtajbeoignhnpjaaDoorTab
import Derived.Test.YtajbeoignhnpjaaDoorRows
namespace Go.Proofs.YtajbeoignhnpjaaDoor
open Go.RowKit Go.ChangeShapes Go.WideShapes

theorem maxOk_shape {W : World} (h : W.ShapedOpen Tryd.prog) : MaxOk W :=
  cell_of_shapedOpen_int (t := 3) (zero := #[.int .i64 0]) h (of_decide_eq_true (by kernel_rfl)) (by kernel_rfl) rfl (by kernel_rfl) (by kernel_rfl) Tryd.underlying3
/-- The tables hold what the program's text says. -/
theorem tabs_of {W : World} {r : List (String × DataW Unit)} (h : laidMet Tryd.prog (("math/bits.deBruijn32tab", Rows.laid_math_bits_deBruijn32tab) :: ("math/bits.deBruijn64tab", Rows.laid_math_bits_deBruijn64tab) :: ("internal/strconv.uint64pow10", Rows.laid_internal_strconv_uint64pow10) :: ("unicode/utf8.acceptRanges", Rows.laid_unicode_utf8_acceptRanges) :: ("icehouse/date.lengths", Rows.laid_icehouse_date_lengths) :: ("icehouse/date.weekdays", Rows.laid_icehouse_date_weekdays) :: ("icehouse/date.months", Rows.laid_icehouse_date_months) :: r) W) : DTabs W := by
  have h1 := laidMet.tail h
  have h2 := laidMet.tail h1
  have h3 := laidMet.tail (laidMet.tail h2)
  have h4 := laidMet.tail h3
  have h5 := laidMet.tail h4
  have e64 : (Rows.laid_math_bits_deBruijn64tab : DataW Unit) = Lib.tabData .u8 (Lib.deBruijn64tab.map fun n : Nat => (n : Int)) := by kernel_rfl
  have e10 : (Rows.laid_internal_strconv_uint64pow10 : DataW Unit) = Lib.tabData .u64 Lib.pow10Tab := by kernel_rfl
  have eL : (Rows.laid_icehouse_date_lengths : DataW Unit) = Lib.tabData .i64 [31, 28, 31, 30, 31, 30, 31, 31, 30, 31, 30, 31] := by kernel_rfl
  have eD : (Rows.laid_icehouse_date_weekdays : DataW Unit) = textsW Dt.dayNames := by kernel_rfl
  have eM : (Rows.laid_icehouse_date_months : DataW Unit) = textsW Dt.monthNames := by kernel_rfl
  rw [e64] at h1
  rw [e10] at h2
  rw [eL] at h3
  rw [eD] at h4
  rw [eM] at h5
  have g64 : Tryd.prog.globalNamed "math/bits.deBruijn64tab" = some 8 := by kernel_rfl
  have g10 : Tryd.prog.globalNamed "internal/strconv.uint64pow10" = some 6 := by kernel_rfl
  have gL : Tryd.prog.globalNamed "icehouse/date.lengths" = some 3 := by kernel_rfl
  have gD : Tryd.prog.globalNamed "icehouse/date.weekdays" = some 0 := by kernel_rfl
  have gM : Tryd.prog.globalNamed "icehouse/date.months" = some 1 := by kernel_rfl
  have t64 : (Tryd.prog.globals[8]?).map (·.type) = some 147 := by kernel_rfl
  have t10 : (Tryd.prog.globals[6]?).map (·.type) = some 142 := by kernel_rfl
  have tL : (Tryd.prog.globals[3]?).map (·.type) = some 127 := by kernel_rfl
  have tD : (Tryd.prog.globals[0]?).map (·.type) = some 105 := by kernel_rfl
  have tM : (Tryd.prog.globals[1]?).map (·.type) = some 106 := by kernel_rfl
  have T1 := Lib.tabIs_of_head g64 t64 Tryd.underlying147 Tryd.underlying5 (by kernel_rfl) (by kernel_rfl) h1
  have T2 := Lib.tabIs_of_head g10 t10 Tryd.underlying142 Tryd.underlying132 (by kernel_rfl) (by kernel_rfl) h2
  have T3 := Lib.tabIs_of_head gL tL Tryd.underlying127 Tryd.underlying3 (by kernel_rfl) (by kernel_rfl) h3
  refine ⟨⟨fun j hj => ?_, T2⟩, fun j hj => T3.cell gL j hj, fun j hj => texts_head gD tD Tryd.underlying105 Tryd.underlying9 (by kernel_rfl) (by kernel_rfl) h4 j hj, fun j hj => texts_head gM tM Tryd.underlying106 Tryd.underlying9 (by kernel_rfl) (by kernel_rfl) h5 j hj⟩
  have := T1.cell g64 j (by rw [List.length_map]; exact hj)
  rw [this]
  simp [List.getD, hj]
theorem env_of {W : World} {r : List (String × DataW Unit)} (hsh : W.ShapedOpen Tryd.prog) (h : laidMet Tryd.prog (("math/bits.deBruijn32tab", Rows.laid_math_bits_deBruijn32tab) :: ("math/bits.deBruijn64tab", Rows.laid_math_bits_deBruijn64tab) :: ("internal/strconv.uint64pow10", Rows.laid_internal_strconv_uint64pow10) :: ("unicode/utf8.acceptRanges", Rows.laid_unicode_utf8_acceptRanges) :: ("icehouse/date.lengths", Rows.laid_icehouse_date_lengths) :: ("icehouse/date.weekdays", Rows.laid_icehouse_date_weekdays) :: ("icehouse/date.months", Rows.laid_icehouse_date_months) :: r) W) : Env10 W := ⟨tabs_of h, maxOk_shape hsh⟩
end Go.Proofs.YtajbeoignhnpjaaDoor
