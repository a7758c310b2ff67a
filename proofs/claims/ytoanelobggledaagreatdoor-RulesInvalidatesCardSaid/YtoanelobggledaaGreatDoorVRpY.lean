/- A table of texts that a package keeps: from what the row lists to its cells. -/
import Derived.Test.YtoanelobggledaaGreatDoorRows
import Derived.Test.YtoanelobggledaaGreatDoorVRpD
import Derived.Test.YtoanelobggledaaGreatDoorVRpV
import Derived.Deep.RegionLaw
import Derived.LaidMore
import Derived.Lib.LaidTab
import Derived.Lib.SmallJoins
import Derived.OpenShut
import Derived.SevenTiedAt
import Derived.Stop.LaidErr
namespace Go.Proofs.YtoanelobggledaaGreatDoor
open Go.RowKit

def textsW {H : Type} (ls : List (List UInt8)) : DataW H := .agg (ls.map fun l => .lit (.string l))
theorem texts_trod {H : Type} {enc : TypeId × Value → H} {P : Program} {w : World} {base : Nat} {sp : Nat → Bool} {held : Bool} {fuel : Nat} {t e : TypeId} {n : Nat} {cs : List Value} {ls : List (List UInt8)} {p : List MemPlace}
    (ht : P.underlying t = some (.array n e)) (he : P.underlying e = some .string) (hce : P.cellsOf e = 1) (hct : P.cellsOf t = n)
    (h : DataW.trod enc P w base sp held fuel t cs = some (textsW ls, p)) (j : Nat) (hj : j < ls.length) : cs[j]? = some (.string (str ls[j])) := by
  match fuel, h with
  | fuel + 1, h =>
    simp only [DataW.trod, ht, hce, hct, Nat.mul_one] at h
    split at h
    case isFalse => cases h
    case isTrue hlen =>
      obtain ⟨xs, hm, hx⟩ := Option.map_eq_some_iff.1 h
      have hls : xs.map (·.1) = ls.map fun l => (DataW.lit (.string l) : DataW H) := by
        have := congrArg Prod.fst hx
        simpa [textsW] using this
      have hn : xs.length = n := by simpa using Lib.mapM_length hm
      have hjn : j < n := by
        have := congrArg List.length hls
        simp at this; omega
      obtain ⟨b, hb, hf⟩ := Lib.mapM_at hm j j (by simp [hjn])
      obtain ⟨s, hc, rfl, _⟩ := DataW.trod_string he hf
      have h1 : cs[j]? = some (.string s) := by
        have := congrArg (·[0]?) hc
        simpa [List.getElem?_take, List.getElem?_drop] using this
      have h2 : (xs.map (·.1))[j]? = some (DataW.lit (.string s.data.toList) : DataW H) := by simp [hb]
      rw [hls, List.getElem?_map, List.getElem?_eq_getElem hj] at h2
      simp only [Option.map_some, Option.some.injEq, DataW.lit.injEq, Lit.string.injEq] at h2
      rw [h1, h2, str_of]
theorem texts_head {P : Program} {W : World} {name : String} {ls : List (List UInt8)} {rest : List (String × DataW Unit)} {g : Nat} {t e : TypeId} {n : Nat}
    (hg : P.globalNamed name = some g) (hty : (P.globals[g]?).map (·.type) = some t) (ht : P.underlying t = some (.array n e)) (he : P.underlying e = some .string) (hce : P.cellsOf e = 1) (hct : P.cellsOf t = n)
    (h : laidMet P ((name, textsW ls) :: rest) W) (j : Nat) (hj : j < ls.length) : W.cell? ⟨g, j, none⟩ = some (.string (str (ls.getD j []))) := by
  obtain ⟨ps, ⟨g', t', cs, fuel, p, q, hg', ht', hvar, hd, _, _⟩, _⟩ := h
  obtain rfl := Option.some.inj (hg.symm.trans hg')
  obtain rfl := Option.some.inj (hty.symm.trans ht')
  have h1 := texts_trod ht he hce hct hd j hj
  have h2 := World.var?_cell hg hvar j
  rw [List.getElem?_toArray, h1] at h2
  rw [h2, List.getD_eq_getElem?_getD, List.getElem?_eq_getElem hj]
  rfl
end Go.Proofs.YtoanelobggledaaGreatDoor

namespace Go.Proofs.YtoanelobggledaaGreatDoor
open Go.RowKit Go.ChangeShapes Go.WideShapes

theorem maxOk_shape {W : World} (h : W.ShapedOpen Tryz.prog) : MaxOk W :=
  cell_of_shapedOpen_int (t := 3) (zero := #[.int .i64 0]) h (of_decide_eq_true (by kernel_rfl)) (by kernel_rfl) rfl (by kernel_rfl) (by kernel_rfl) Tryz.underlying3
theorem tabs_of {W : World} {r : List (String × DataW Unit)} (h : laidMet Tryz.prog (("math/bits.deBruijn32tab", Rows.laid_math_bits_deBruijn32tab) :: ("math/bits.deBruijn64tab", Rows.laid_math_bits_deBruijn64tab) :: ("internal/strconv.uint64pow10", Rows.laid_internal_strconv_uint64pow10) :: ("unicode/utf8.acceptRanges", Rows.laid_unicode_utf8_acceptRanges) :: ("icehouse/date.lengths", Rows.laid_icehouse_date_lengths) :: ("icehouse/date.weekdays", Rows.laid_icehouse_date_weekdays) :: ("icehouse/date.months", Rows.laid_icehouse_date_months) :: r) W) : DTabs W := by
  have h1 := laidMet.tail h
  have h2 := laidMet.tail h1
  have h3 := laidMet.tail (laidMet.tail h2)
  have h4 := laidMet.tail h3
  have h5 := laidMet.tail h4
  have e64 : (Rows.laid_math_bits_deBruijn64tab : DataW Unit) = Lib.tabData .u8 (Lib.deBruijn64tab.map fun n : Nat => (n : Int)) := by kernel_rfl
  have e10 : (Rows.laid_internal_strconv_uint64pow10 : DataW Unit) = Lib.tabData .u64 Lib.pow10Tab := by kernel_rfl
  have eL : (Rows.laid_icehouse_date_lengths : DataW Unit) = Lib.tabData .i64 [31, 28, 31, 30, 31, 30, 31, 31, 30, 31, 30, 31] := by kernel_rfl
  have eD : (Rows.laid_icehouse_date_weekdays : DataW Unit) = textsW Dt.dayNames := by kernel_rfl
  have eM : (Rows.laid_icehouse_date_months : DataW Unit) = textsW Dt.monthNames := by kernel_rfl
  rw [e64] at h1
  rw [e10] at h2
  rw [eL] at h3
  rw [eD] at h4
  rw [eM] at h5
  have g64 : Tryz.prog.globalNamed "math/bits.deBruijn64tab" = some 9 := by kernel_rfl
  have g10 : Tryz.prog.globalNamed "internal/strconv.uint64pow10" = some 6 := by kernel_rfl
  have gL : Tryz.prog.globalNamed "icehouse/date.lengths" = some 3 := by kernel_rfl
  have gD : Tryz.prog.globalNamed "icehouse/date.weekdays" = some 0 := by kernel_rfl
  have gM : Tryz.prog.globalNamed "icehouse/date.months" = some 1 := by kernel_rfl
  have t64 : (Tryz.prog.globals[9]?).map (·.type) = some 252 := by kernel_rfl
  have t10 : (Tryz.prog.globals[6]?).map (·.type) = some 239 := by kernel_rfl
  have tL : (Tryz.prog.globals[3]?).map (·.type) = some 209 := by kernel_rfl
  have tD : (Tryz.prog.globals[0]?).map (·.type) = some 160 := by kernel_rfl
  have tM : (Tryz.prog.globals[1]?).map (·.type) = some 162 := by kernel_rfl
  have T1 := Lib.tabIs_of_head g64 t64 Tryz.underlying252 Tryz.underlying5 (by kernel_rfl) (by kernel_rfl) h1
  have T2 := Lib.tabIs_of_head g10 t10 Tryz.underlying239 Tryz.underlying182 (by kernel_rfl) (by kernel_rfl) h2
  have T3 := Lib.tabIs_of_head gL tL Tryz.underlying209 Tryz.underlying3 (by kernel_rfl) (by kernel_rfl) h3
  refine ⟨⟨fun j hj => ?_, T2⟩, fun j hj => T3.cell gL j hj, fun j hj => texts_head gD tD Tryz.underlying160 Tryz.underlying9 (by kernel_rfl) (by kernel_rfl) h4 j hj, fun j hj => texts_head gM tM Tryz.underlying162 Tryz.underlying9 (by kernel_rfl) (by kernel_rfl) h5 j hj⟩
  have := T1.cell g64 j (by rw [List.length_map]; exact hj)
  rw [this]
  simp [List.getD, hj]
theorem env_of {W : World} {r : List (String × DataW Unit)} (hsh : W.ShapedOpen Tryz.prog) (h : laidMet Tryz.prog (("math/bits.deBruijn32tab", Rows.laid_math_bits_deBruijn32tab) :: ("math/bits.deBruijn64tab", Rows.laid_math_bits_deBruijn64tab) :: ("internal/strconv.uint64pow10", Rows.laid_internal_strconv_uint64pow10) :: ("unicode/utf8.acceptRanges", Rows.laid_unicode_utf8_acceptRanges) :: ("icehouse/date.lengths", Rows.laid_icehouse_date_lengths) :: ("icehouse/date.weekdays", Rows.laid_icehouse_date_weekdays) :: ("icehouse/date.months", Rows.laid_icehouse_date_months) :: r) W) : Env10 W := ⟨tabs_of h, maxOk_shape hsh⟩
end Go.Proofs.YtoanelobggledaaGreatDoor

namespace Go.Proofs.YtoanelobggledaaGreatDoor
open Go.RowKit

theorem prog11 : Prog11 D0 Env10 where
  later h hb := h.later hb
  storable a b c a' b' c' st mi st' mi' fv bv fv' bv' fs fs' w hE hf sb hs hf' sb' hs' _ := Storable_w a b c a' b' c' st mi st' mi' fv bv fv' bv' fs fs' w hE hf sb hs hf' sb' hs'
  invalid u m a b c st mi fv bv fs w hE hf sb hs hh hp hk _ := Invalid_w u m a b c st mi fv bv fs w hE hf sb hs hh hp hk
  unchanged a b c a' b' c' st mi st' mi' fv bv fv' bv' fs fs' w hE hf sb hs hf' sb' hs' _ := Unchanged_w a b c a' b' c' st mi st' mi' fv bv fv' bv' fs fs' w hE hf sb hs hf' sb' hs'
end Go.Proofs.YtoanelobggledaaGreatDoor

