/- Package start: the program's four calls, in one pack. -/
import Derived.Test.YtbpghbbcghlcaaaDoorSt7
import Derived.Test.YtbpghbbcghlcaaaDoorStP3
import Derived.Test.YtbpghbbcghlcaaaDoorStP6
import Derived.Test.YtbpghbbcghlcaaaDoorStP7
import Derived.Test.YtbpghbbcghlcaaaDoorShape
import Derived.Test.YtbpghbbcghlcaaaDoorRows
import Derived.Lib.LaidTab
import Derived.Stop.LaidErr
namespace Go.Proofs.YtbpghbbcghlcaaaDoor
open Go.RowKit Go.ChangeShapes Go.WideShapes

set_option maxHeartbeats 1600000 in
set_option maxRecDepth 100000 in
theorem Request_w (v : Value) (l : List UInt8) (w : World) (hl : l.length ≤ 100000) (h : BIn w v l) (hm : MaxOk w) :
    Calls Tryd.prog 9 #[v] w fun e w' => e = .returned (sres (St.request l)) ∧ Below w.heap.size w w' := by
  have h0 := SAt.start w (.string ⟨#[]⟩) (.string ⟨#[]⟩) (.int .i64 0) (.string ⟨#[]⟩) (.int .i64 0)
  have cF := fun (W : World) (hb : Below w.heap.size w W) => first_q v l W hl (h.later hb) (hm.later hb)
  obtain ⟨⟨⟨m, t, st, r, k⟩, n, e⟩, hq⟩ : ∃ x, St.request l = x := ⟨_, rfl⟩
  rw [hq, sres_s] at cF ⊢
  generalize str m = M at *
  generalize str t = T at *
  generalize str r = D at *
  clear h hl hm hq
  go_enter Tryd.func9, Tryd.ntmps9
  go_upto_region 1 with fail
  generalize w.alloc _ = W0 at h0 ⊢
  go_wp2_with fail
  refine (cF _ h0.below).mono ?_
  rintro e1 W1 ⟨rfl, hb1⟩
  have h1 := h0.later hb1
  clear hb1 cF
  go_wp2_with (refine stS h1 rfl (.tmp 2) (.tmp 7) rfl _ _ _ _ _ rfl rfl ?_; intro W9 h9 _)
  (try simp only [Exit.inBlock, Exit.then])
  refine ret_start rfl w.heap.size _ _ _ _ _ rfl h9.cell rfl ?_
  exact ⟨rfl, h9.below⟩

set_option maxHeartbeats 1600000 in
set_option maxRecDepth 100000 in
theorem Response_w (v : Value) (l : List UInt8) (w : World) (hl : l.length ≤ 100000) (h : BIn w v l) (hm : MaxOk w) :
    Calls Tryd.prog 11 #[v] w fun e w' => e = .returned (sres (St.response l)) ∧ Below w.heap.size w w' := by
  have h0 := SAt.start w (.string ⟨#[]⟩) (.string ⟨#[]⟩) (.int .i64 0) (.string ⟨#[]⟩) (.int .i64 0)
  have cF := fun (W : World) (hb : Below w.heap.size w W) => first_a v l W hl (h.later hb) (hm.later hb)
  obtain ⟨⟨⟨m, t, st, r, k⟩, n, e⟩, hq⟩ : ∃ x, St.response l = x := ⟨_, rfl⟩
  rw [hq, sres_s] at cF ⊢
  generalize str m = M at *
  generalize str t = T at *
  generalize str r = D at *
  clear h hl hm hq
  go_enter Tryd.func11, Tryd.ntmps11
  go_upto_region 1 with fail
  generalize w.alloc _ = W0 at h0 ⊢
  go_wp2_with fail
  refine (cF _ h0.below).mono ?_
  rintro e1 W1 ⟨rfl, hb1⟩
  have h1 := h0.later hb1
  clear hb1 cF
  go_wp2_with (refine stS h1 rfl (.tmp 2) (.tmp 7) rfl _ _ _ _ _ rfl rfl ?_; intro W9 h9 _)
  (try simp only [Exit.inBlock, Exit.then])
  refine ret_start rfl w.heap.size _ _ _ _ _ rfl h9.cell rfl ?_
  exact ⟨rfl, h9.below⟩

/-- What the program asks of the world: the library's variable holds a number, its tables hold theirs. -/
def Env (w : World) : Prop := MaxOk w ∧ Tabs w
theorem read6 : Read6 MaxOk where
  later := fun h hb => h.later hb
  request := fun v l w hl h hE => Request_w v l w hl h hE
  response := fun v l w hl h hE => Response_w v l w hl h hE
theorem prog6 : Prog6 Env where
  later := fun h hb => ⟨h.1.later hb, h.2.later hb⟩
  right := fun s w h1 h2 h3 _ _ _ => Right_s s w (by omega) (by omega) (by omega)
  print := fun s w h1 h2 h3 h4 h5 hE => Print_st s w h1 h2 h3 h4 h5 hE.2
  request := fun v l w hl h hE => Request_w v l w hl h hE.1
  response := fun v l w hl h hE => Response_w v l w hl h hE.1

theorem maxOk_shape {W : World} (h : W.ShapedOpen Tryd.prog) : MaxOk W :=
  cell_of_shapedOpen_int (t := 3) (zero := #[.int .i64 0]) h (of_decide_eq_true (by kernel_rfl)) (by kernel_rfl) rfl (by kernel_rfl) (by kernel_rfl) Tryd.underlying3
/-- What a row's list gives: the library's tables hold their numbers. -/
theorem tabs_laid {W : World} {r : List (String × DataW Unit)} (h : laidMet Tryd.prog (("math/bits.deBruijn32tab", Rows.laid_math_bits_deBruijn32tab) :: ("math/bits.deBruijn64tab", Rows.laid_math_bits_deBruijn64tab) :: ("internal/strconv.uint64pow10", Rows.laid_internal_strconv_uint64pow10) :: r) W) : Tabs W := by
  have h1 := laidMet.tail h
  have h2 := laidMet.tail h1
  have e64 : (Rows.laid_math_bits_deBruijn64tab : DataW Unit) = Lib.tabData .u8 (Lib.deBruijn64tab.map fun n : Nat => (n : Int)) := by kernel_rfl
  have e10 : (Rows.laid_internal_strconv_uint64pow10 : DataW Unit) = Lib.tabData .u64 Lib.pow10Tab := by kernel_rfl
  rw [e64] at h1
  rw [e10] at h2
  have g64 : Tryd.prog.globalNamed "math/bits.deBruijn64tab" = some 5 := by kernel_rfl
  have g10 : Tryd.prog.globalNamed "internal/strconv.uint64pow10" = some 1 := by kernel_rfl
  have t64 : (Tryd.prog.globals[5]?).map (·.type) = some 105 := by kernel_rfl
  have t10 : (Tryd.prog.globals[1]?).map (·.type) = some 90 := by kernel_rfl
  have T1 := Lib.tabIs_of_head g64 t64 Tryd.underlying105 Tryd.underlying5 (by kernel_rfl) (by kernel_rfl) h1
  have T2 := Lib.tabIs_of_head g10 t10 Tryd.underlying90 Tryd.underlying73 (by kernel_rfl) (by kernel_rfl) h2
  refine ⟨fun j hj => ?_, T2⟩
  have := T1.cell g64 j (by rw [List.length_map]; exact hj)
  rw [this]
  simp [List.getD, hj]
end Go.Proofs.YtbpghbbcghlcaaaDoor
