/- What came in: what is said, by value; the library's variable; the library's tables. -/
import Derived.Test.YtolhhejhjjiefaaDoorCt5
import Derived.Test.YtolhhejhjjiefaaDoorCt2
import Derived.Test.YtolhhejhjjiefaaDoorShape
import Derived.Test.YtolhhejhjjiefaaDoorRows
import Derived.ChangeSlices
import Derived.SliceStrings
import Derived.Lib.LaidTab
import Derived.Stop.LaidErr
import Derived.LaidMore
import Derived.SevenTiedAt
import Derived.OpenShut
import Derived.Lib.SmallJoins
namespace Go.Proofs.YtolhhejhjjiefaaDoor
open Go.RowKit Go.ChangeShapes Go.WideShapes

theorem maxOk_shape {W : World} (h : W.ShapedOpen Tryd.prog) : MaxOk W :=
  cell_of_shapedOpen_int (t := 3) (zero := #[.int .i64 0]) h (of_decide_eq_true (by kernel_rfl)) (by kernel_rfl) rfl (by kernel_rfl) (by kernel_rfl) Tryd.underlying3

section
variable {H : Type} {enc : TypeId × Value → H} {W : World} {sp : Nat → Bool} {held : Bool} {fuel : Nat}
set_option maxRecDepth 100000 in
theorem ctl_came {v : Value} {y : DataW H × List MemPlace} (hf : DataW.trod enc Tryd.prog W 0 sp held fuel 25 v.cells.toList = some y) (hv : ∃ cs, v = .agg cs ∧ cs.size = Tryd.prog.cellsOf 25) : ∃ c, v = cval c ∧ Fits c := by
  obtain ⟨cs, rfl, hsz⟩ := hv
  have hC : Tryd.prog.cellsOf 25 = 11 := by kernel_rfl
  have c4 : Tryd.prog.cellsOf 4 = 1 := by kernel_rfl
  have c3 : Tryd.prog.cellsOf 3 = 1 := by kernel_rfl
  rw [hC] at hsz
  obtain ⟨xs, n, _, _, _, hlen, hel⟩ := DataW.trod_struct Tryd.underlying25 hf
  have hl : xs.length = 11 := hlen
  obtain ⟨l⟩ := cs
  have hll : l.length = 11 := hsz
  have hx : ∀ i, i < 11 → ∃ u, xs[i]? = some u := fun i hi => ⟨_, List.getElem?_eq_getElem (by omega)⟩
  match l, hll with
  | [v0, v1, v2, v3, v4, v5, v6, v7, v8, v9, v10], _ =>
    obtain ⟨u0, x0⟩ := hx 0 (by decide)
    have k0 := (hel 0 _ rfl).trans x0
    obtain ⟨a0, e0, _⟩ := DataW.trod_bool Tryd.underlying4 (by simpa [Value.cells, c4] using k0 : DataW.trod enc Tryd.prog W 0 sp held n 4 [v0] = some u0)
    obtain ⟨u1, x1⟩ := hx 1 (by decide)
    have k1 := (hel 1 _ rfl).trans x1
    obtain ⟨a1, e1, _⟩ := DataW.trod_bool Tryd.underlying4 (by simpa [Value.cells, c4] using k1 : DataW.trod enc Tryd.prog W 0 sp held n 4 [v1] = some u1)
    obtain ⟨u2, x2⟩ := hx 2 (by decide)
    have k2 := (hel 2 _ rfl).trans x2
    obtain ⟨a2, e2, _⟩ := DataW.trod_bool Tryd.underlying4 (by simpa [Value.cells, c4] using k2 : DataW.trod enc Tryd.prog W 0 sp held n 4 [v2] = some u2)
    obtain ⟨u3, x3⟩ := hx 3 (by decide)
    have k3 := (hel 3 _ rfl).trans x3
    obtain ⟨a3, e3, _⟩ := DataW.trod_bool Tryd.underlying4 (by simpa [Value.cells, c4] using k3 : DataW.trod enc Tryd.prog W 0 sp held n 4 [v3] = some u3)
    obtain ⟨u4, x4⟩ := hx 4 (by decide)
    have k4 := (hel 4 _ rfl).trans x4
    obtain ⟨a4, e4, _⟩ := DataW.trod_bool Tryd.underlying4 (by simpa [Value.cells, c4] using k4 : DataW.trod enc Tryd.prog W 0 sp held n 4 [v4] = some u4)
    obtain ⟨u5, x5⟩ := hx 5 (by decide)
    have k5 := (hel 5 _ rfl).trans x5
    obtain ⟨a5, e5, _⟩ := DataW.trod_bool Tryd.underlying4 (by simpa [Value.cells, c4] using k5 : DataW.trod enc Tryd.prog W 0 sp held n 4 [v5] = some u5)
    obtain ⟨u6, x6⟩ := hx 6 (by decide)
    have k6 := (hel 6 _ rfl).trans x6
    obtain ⟨a6, e6, _⟩ := DataW.trod_bool Tryd.underlying4 (by simpa [Value.cells, c4] using k6 : DataW.trod enc Tryd.prog W 0 sp held n 4 [v6] = some u6)
    obtain ⟨u7, x7⟩ := hx 7 (by decide)
    have k7 := (hel 7 _ rfl).trans x7
    obtain ⟨a7, e7, _, w7⟩ := DataW.trod_int Tryd.underlying3 (by simpa [Value.cells, c3] using k7 : DataW.trod enc Tryd.prog W 0 sp held n 3 [v7] = some u7)
    obtain ⟨u8, x8⟩ := hx 8 (by decide)
    have k8 := (hel 8 _ rfl).trans x8
    obtain ⟨a8, e8, _, w8⟩ := DataW.trod_int Tryd.underlying3 (by simpa [Value.cells, c3] using k8 : DataW.trod enc Tryd.prog W 0 sp held n 3 [v8] = some u8)
    obtain ⟨u9, x9⟩ := hx 9 (by decide)
    have k9 := (hel 9 _ rfl).trans x9
    obtain ⟨a9, e9, _, w9⟩ := DataW.trod_int Tryd.underlying3 (by simpa [Value.cells, c3] using k9 : DataW.trod enc Tryd.prog W 0 sp held n 3 [v9] = some u9)
    obtain ⟨u10, x10⟩ := hx 10 (by decide)
    have k10 := (hel 10 _ rfl).trans x10
    obtain ⟨a10, e10, _, w10⟩ := DataW.trod_int Tryd.underlying3 (by simpa [Value.cells, c3] using k10 : DataW.trod enc Tryd.prog W 0 sp held n 3 [v10] = some u10)
    have e0 : v0 = .bool a0 := by simpa using e0
    have e1 : v1 = .bool a1 := by simpa using e1
    have e2 : v2 = .bool a2 := by simpa using e2
    have e3 : v3 = .bool a3 := by simpa using e3
    have e4 : v4 = .bool a4 := by simpa using e4
    have e5 : v5 = .bool a5 := by simpa using e5
    have e6 : v6 = .bool a6 := by simpa using e6
    have e7 : v7 = .int .i64 a7 := by simpa using e7
    have e8 : v8 = .int .i64 a8 := by simpa using e8
    have e9 : v9 = .int .i64 a9 := by simpa using e9
    have e10 : v10 = .int .i64 a10 := by simpa using e10
    subst e0 e1 e2 e3 e4 e5 e6 e7 e8 e9 e10
    have b7 : a7 ≤ 9223372036854775807 := by
      simp only [Lit.wf, Bool.and_eq_true, decide_eq_true_eq] at w7
      have hmax : IntKind.i64.max = 9223372036854775807 := rfl
      omega
    have b8 : a8 ≤ 9223372036854775807 := by
      simp only [Lit.wf, Bool.and_eq_true, decide_eq_true_eq] at w8
      have hmax : IntKind.i64.max = 9223372036854775807 := rfl
      omega
    have b9 : a9 ≤ 9223372036854775807 := by
      simp only [Lit.wf, Bool.and_eq_true, decide_eq_true_eq] at w9
      have hmax : IntKind.i64.max = 9223372036854775807 := rfl
      omega
    have b10 : a10 ≤ 9223372036854775807 := by
      simp only [Lit.wf, Bool.and_eq_true, decide_eq_true_eq] at w10
      have hmax : IntKind.i64.max = 9223372036854775807 := rfl
      omega
    exact ⟨⟨a0, a1, a2, a3, a4, a5, a6, a7, a8, a9, a10⟩, rfl, b7, b8, b9, b10⟩

theorem sin_came {v : Value} {y : DataW H × List MemPlace} (hf : DataW.trod enc Tryd.prog W 0 (fun _ => true) held fuel 22 v.cells.toList = some y) (hv : ∃ x l c, v = .slice x l c) :
    ∃ ls, SIn W v ls ∧ ls.length ≤ 9223372036854775807 ∧ ∀ l ∈ ls, l.length ≤ 9223372036854775807 := by
  obtain ⟨x0, l0, c0, rfl⟩ := hv
  rcases open_strings Tryd.underlying22 Tryd.underlying9 (by kernel_rfl) hf with ⟨hcs, _⟩ | ⟨x, l, c, ss, hcs, _, hl, hm, hz, _, hcell, hws⟩
  · simp [Value.cells] at hcs
    obtain ⟨rfl, rfl, rfl⟩ := hcs
    exact ⟨[], ⟨none, 0, rfl, .inl rfl⟩, by decide, fun l h => by cases h⟩
  · simp [Value.cells] at hcs
    obtain ⟨rfl, rfl, rfl⟩ := hcs
    refine ⟨_, SIn.came hl (by simpa using hz) hcell, ?_, came_sizes hws⟩
    unfold maxLen at hm
    rw [List.length_map, List.length_take]; omega
end
/-- What a row's list gives: the library's tables hold their numbers. -/
theorem tabs_laid {W : World} {r : List (String × DataW Unit)} (h : laidMet Tryd.prog (("math/bits.deBruijn32tab", Rows.laid_math_bits_deBruijn32tab) :: ("math/bits.deBruijn64tab", Rows.laid_math_bits_deBruijn64tab) :: ("internal/strconv.uint64pow10", Rows.laid_internal_strconv_uint64pow10) :: r) W) : Tabs W := by
  have h1 := laidMet.tail h
  have h2 := laidMet.tail h1
  have e64 : (Rows.laid_math_bits_deBruijn64tab : DataW Unit) = Lib.tabData .u8 (Lib.deBruijn64tab.map fun n : Nat => (n : Int)) := by kernel_rfl
  have e10 : (Rows.laid_internal_strconv_uint64pow10 : DataW Unit) = Lib.tabData .u64 Lib.pow10Tab := by kernel_rfl
  rw [e64] at h1
  rw [e10] at h2
  have g64 : Tryd.prog.globalNamed "math/bits.deBruijn64tab" = some 5 := by kernel_rfl
  have g10 : Tryd.prog.globalNamed "internal/strconv.uint64pow10" = some 1 := by kernel_rfl
  have t64 : (Tryd.prog.globals[5]?).map (·.type) = some 111 := by kernel_rfl
  have t10 : (Tryd.prog.globals[1]?).map (·.type) = some 100 := by kernel_rfl
  have T1 := Lib.tabIs_of_head g64 t64 Tryd.underlying111 Tryd.underlying5 (by kernel_rfl) (by kernel_rfl) h1
  have T2 := Lib.tabIs_of_head g10 t10 Tryd.underlying100 Tryd.underlying90 (by kernel_rfl) (by kernel_rfl) h2
  refine ⟨fun j hj => ?_, T2⟩
  have := T1.cell g64 j (by rw [List.length_map]; exact hj)
  rw [this]
  simp [List.getD, hj]
end Go.Proofs.YtolhhejhjjiefaaDoor
