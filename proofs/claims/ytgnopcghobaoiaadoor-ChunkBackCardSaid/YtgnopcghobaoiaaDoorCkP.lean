/- Package chunk, the program: what its calls answer, in the packs that the walks of the laws take. -/
import Derived.Test.YtgnopcghobaoiaaDoorCkP6
import Derived.Test.YtgnopcghobaoiaaDoorCk10
import Derived.HandedShaped
import Derived.Lib.LaidTab
import Derived.Stop.LaidErr
import Derived.Test.YtgnopcghobaoiaaDoorShape
import Derived.Test.YtgnopcghobaoiaaDoorRows
namespace Go.Proofs.YtgnopcghobaoiaaDoor
open Go.RowKit Go.ChangeShapes Go.WideShapes

def Env (w : World) : Prop := MaxOk w ∧ Tabs w
theorem prog7 : Prog7 Env where
  later := fun h hb => ⟨h.1.later hb, h.2.later hb⟩
  decode := fun v l w hl h hE => (decode_w v l w hl h hE.1).mono fun e w' ⟨⟨u, h1, h2, h3, _⟩, h4⟩ => ⟨⟨u, h1, h2, h3⟩, h4⟩
  encode := fun v ls w hl h hE => (encode_b v ls w (by omega) h hE.2).mono fun e w' ⟨⟨u, h1, h2⟩, h4⟩ => ⟨⟨u, h1, h2.in_⟩, h4⟩
/-- A decoder's memory: a block behind the library's variable. -/
def DecM (w : World) (g : Nat) (st : Ck.S ⊕ Int) : Prop := 0 ≠ g ∧ Dec w g st
theorem feed7 : Feed7 Env DecM where
  new := fun w hE => (new_w w).mono fun e w' ⟨h1, h2, h3, h4⟩ => ⟨⟨w.heap.size, h1, Nat.le_refl _, h2, (by have := maxOk_lt hE.1; omega), h3⟩, h4⟩
  keep := fun h hb => ⟨h.1, h.2.same hb⟩
  feed := fun g s v l w hl hd h hE => (feed_w g s v l w (by omega) h hd.2 hE.1 hd.1).mono fun x w' ⟨⟨u, h1, h2⟩, h3, h4⟩ => ⟨⟨u, h1, own_in h2⟩, h3, hd.1, h4⟩
  bad := fun g er v l w _ hd _ _ => (feed_bad g er v w hd.2).mono fun x w' ⟨h1, h2, h3⟩ => ⟨⟨_, h1, bin_nil w'⟩, h2, hd.1, h3⟩

theorem maxOk_shape {W : World} (h : W.ShapedOpen Tryd.prog) : MaxOk W :=
  cell_of_shapedOpen_int (t := 3) (zero := #[.int .i64 0]) h (of_decide_eq_true (by kernel_rfl)) (by kernel_rfl) rfl (by kernel_rfl) (by kernel_rfl) Tryd.underlying3
/-- What a row's list gives: the library's tables hold their numbers. -/
theorem tabs_laid {W : World} {r : List (String × DataW Unit)} (h : laidMet Tryd.prog (("math/bits.deBruijn32tab", Rows.laid_math_bits_deBruijn32tab) :: ("math/bits.deBruijn64tab", Rows.laid_math_bits_deBruijn64tab) :: ("internal/strconv.uint64pow10", Rows.laid_internal_strconv_uint64pow10) :: r) W) : Tabs W := by
  have h1 := laidMet.tail h
  have h2 := laidMet.tail h1
  have e64 : (Rows.laid_math_bits_deBruijn64tab : DataW Unit) = Lib.tabData .u8 (Lib.deBruijn64tab.map fun n : Nat => (n : Int)) := by kernel_rfl
  have e10 : (Rows.laid_internal_strconv_uint64pow10 : DataW Unit) = Lib.tabData .u64 Lib.pow10Tab := by kernel_rfl
  rw [e64] at h1
  rw [e10] at h2
  have g64 : Tryd.prog.globalNamed "math/bits.deBruijn64tab" = some 3 := by kernel_rfl
  have g10 : Tryd.prog.globalNamed "internal/strconv.uint64pow10" = some 1 := by kernel_rfl
  have t64 : (Tryd.prog.globals[3]?).map (·.type) = some 115 := by kernel_rfl
  have t10 : (Tryd.prog.globals[1]?).map (·.type) = some 100 := by kernel_rfl
  have T1 := Lib.tabIs_of_head g64 t64 Tryd.underlying115 Tryd.underlying5 (by kernel_rfl) (by kernel_rfl) h1
  have T2 := Lib.tabIs_of_head g10 t10 Tryd.underlying100 Tryd.underlying87 (by kernel_rfl) (by kernel_rfl) h2
  refine ⟨fun j hj => ?_, T2⟩
  have := T1.cell g64 j (by rw [List.length_map]; exact hj)
  rw [this]
  simp [List.getD, hj]
end Go.Proofs.YtgnopcghobaoiaaDoor
