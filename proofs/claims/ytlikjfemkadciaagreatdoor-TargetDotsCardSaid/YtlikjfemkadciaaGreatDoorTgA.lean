/- What came in: a URI, by value; the library's variable; the library's tables. -/
import Derived.Test.YtlikjfemkadciaaGreatDoorTg5
import Derived.Test.YtlikjfemkadciaaGreatDoorShape
import Derived.Test.YtlikjfemkadciaaGreatDoorRows
import Derived.ChangeSlices
import Derived.SliceStrings
import Derived.Lib.LaidTab
import Derived.Stop.LaidErr
import Derived.LaidMore
import Derived.SevenTiedAt
import Derived.OpenShut
import Derived.Lib.SmallJoins
namespace Go.Proofs.YtlikjfemkadciaaGreatDoor
open Go.RowKit Go.ChangeShapes Go.WideShapes

theorem maxOk_shape {W : World} (h : W.ShapedOpen Tryz.prog) : MaxOk W :=
  cell_of_shapedOpen_int (t := 3) (zero := #[.int .i64 0]) h (of_decide_eq_true (by kernel_rfl)) (by kernel_rfl) rfl (by kernel_rfl) (by kernel_rfl) Tryz.underlying3

section
variable {H : Type} {enc : TypeId × Value → H} {W : World} {sp : Nat → Bool} {held : Bool} {fuel : Nat}
set_option maxRecDepth 100000 in
theorem uri_came {v : Value} {y : DataW H × List MemPlace} (hf : DataW.trod enc Tryz.prog W 0 sp held fuel 24 v.cells.toList = some y) (hv : ∃ cs, v = .agg cs ∧ cs.size = Tryz.prog.cellsOf 24) : ∃ u, v = uval u ∧ u.host.length ≤ 9223372036854775807 ∧ u.path.length ≤ 9223372036854775807 ∧ u.port ≤ 9223372036854775807 := by
  obtain ⟨cs, rfl, hsz⟩ := hv
  have hC : Tryz.prog.cellsOf 24 = 3 := by kernel_rfl
  have c3 : Tryz.prog.cellsOf 3 = 1 := by kernel_rfl
  have c9 : Tryz.prog.cellsOf 9 = 1 := by kernel_rfl
  rw [hC] at hsz
  obtain ⟨xs, n, _, _, _, hlen, hel⟩ := DataW.trod_struct Tryz.underlying24 hf
  have hl : xs.length = 3 := hlen
  obtain ⟨l⟩ := cs
  have hll : l.length = 3 := hsz
  have hx : ∀ i, i < 3 → ∃ u, xs[i]? = some u := fun i hi => ⟨_, List.getElem?_eq_getElem (by omega)⟩
  match l, hll with
  | [v0, v1, v2], _ =>
    obtain ⟨u0, x0⟩ := hx 0 (by decide)
    have k0 := (hel 0 _ rfl).trans x0
    obtain ⟨a0, e0, _, w0⟩ := DataW.trod_string Tryz.underlying9 (by simpa [Value.cells, c9] using k0 : DataW.trod enc Tryz.prog W 0 sp held n 9 [v0] = some u0)
    obtain ⟨u1, x1⟩ := hx 1 (by decide)
    have k1 := (hel 1 _ rfl).trans x1
    obtain ⟨a1, e1, _, w1⟩ := DataW.trod_int Tryz.underlying3 (by simpa [Value.cells, c3, c9] using k1 : DataW.trod enc Tryz.prog W 0 sp held n 3 [v1] = some u1)
    obtain ⟨u2, x2⟩ := hx 2 (by decide)
    have k2 := (hel 2 _ rfl).trans x2
    obtain ⟨a2, e2, _, w2⟩ := DataW.trod_string Tryz.underlying9 (by simpa [Value.cells, c3, c9] using k2 : DataW.trod enc Tryz.prog W 0 sp held n 9 [v2] = some u2)
    have e0 : v0 = .string a0 := by simpa using e0
    have e1 : v1 = .int .i64 a1 := by simpa using e1
    have e2 : v2 = .string a2 := by simpa using e2
    subst e0 e1 e2
    have b1 : a1 ≤ 9223372036854775807 := by
      simp only [Lit.wf, Bool.and_eq_true, decide_eq_true_eq] at w1
      have hmax : IntKind.i64.max = 9223372036854775807 := rfl
      omega
    refine ⟨⟨a0.data.toList, a1, a2.data.toList⟩, ?_, ?_, ?_, b1⟩
    · rw [uval_mk, str_of, str_of]
    · unfold maxLen at w0; simpa using w0
    · unfold maxLen at w2; simpa using w2
end
/-- What a row's list gives: the library's tables hold their numbers. -/
theorem tabs_laid {W : World} {r : List (String × DataW Unit)} (h : laidMet Tryz.prog (("math/bits.deBruijn32tab", Rows.laid_math_bits_deBruijn32tab) :: ("math/bits.deBruijn64tab", Rows.laid_math_bits_deBruijn64tab) :: ("internal/strconv.uint64pow10", Rows.laid_internal_strconv_uint64pow10) :: r) W) : Tabs W := by
  have h1 := laidMet.tail h
  have h2 := laidMet.tail h1
  have e64 : (Rows.laid_math_bits_deBruijn64tab : DataW Unit) = Lib.tabData .u8 (Lib.deBruijn64tab.map fun n : Nat => (n : Int)) := by kernel_rfl
  have e10 : (Rows.laid_internal_strconv_uint64pow10 : DataW Unit) = Lib.tabData .u64 Lib.pow10Tab := by kernel_rfl
  rw [e64] at h1
  rw [e10] at h2
  have g64 : Tryz.prog.globalNamed "math/bits.deBruijn64tab" = some 4 := by kernel_rfl
  have g10 : Tryz.prog.globalNamed "internal/strconv.uint64pow10" = some 1 := by kernel_rfl
  have t64 : (Tryz.prog.globals[4]?).map (·.type) = some 130 := by kernel_rfl
  have t10 : (Tryz.prog.globals[1]?).map (·.type) = some 108 := by kernel_rfl
  have T1 := Lib.tabIs_of_head g64 t64 Tryz.underlying130 Tryz.underlying5 (by kernel_rfl) (by kernel_rfl) h1
  have T2 := Lib.tabIs_of_head g10 t10 Tryz.underlying108 Tryz.underlying97 (by kernel_rfl) (by kernel_rfl) h2
  refine ⟨fun j hj => ?_, T2⟩
  have := T1.cell g64 j (by rw [List.length_map]; exact hj)
  rw [this]
  simp [List.getD, hj]
end Go.Proofs.YtlikjfemkadciaaGreatDoor
