/- Package field: the field of a line. -/
import Derived.Test.YtlekbnbdjahegaaDoorFd12
import Derived.Test.YtlekbnbdjahegaaDoorFd5
namespace Go.Proofs.YtlekbnbdjahegaaDoor
open Go.RowKit

theorem cut_colon (l : List UInt8) : Lib.cut l [58] = if Fld.colon l = l.length then (l, [], false) else (l.take (Fld.colon l), l.drop (Fld.colon l + 1), true) := by
  unfold Lib.cut
  rw [Lib.index_one, Fld.colon_index]
  by_cases h : Fld.colon l = l.length
  · rw [if_pos h, if_neg (by decide)]; simp [h]
  · rw [if_neg h, if_pos (by omega), if_neg h]; simp

set_option maxHeartbeats 1600000 in
set_option maxRecDepth 100000 in
theorem read_w (l : List UInt8) (w : World) (hl : l.length ≤ 1000000) (hm : MaxOk w) :
    Calls Tryd.prog 26 #[.string (str l)] w fun e w' => e = .returned (fval (Fld.readLine l)) ∧ Below w.heap.size w w' := by
  obtain ⟨W1, hW1⟩ : ∃ W1, W1 = w.alloc (.cells #[.string ⟨#[]⟩, .string ⟨#[]⟩] 49) := ⟨_, rfl⟩
  have hb1 : Below w.heap.size w W1 := by rw [hW1]; exact (Below.refl _ w).alloc (Nat.le_refl _) _
  have hg : W1.heap[w.heap.size]? = some (.cells #[.string ⟨#[]⟩, .string ⟨#[]⟩] 49 (0, 0)) := by rw [hW1]; exact heap_alloc_new w _
  obtain ⟨m, hmc⟩ := hm.later hb1
  have cC := Tryd.strings_Cut (str l) ⟨#[58]⟩ m W1 (by rw [str_size]; omega) hmc
  rw [str_list, show (⟨#[58]⟩ : ByteArray).data.toList = [58] from rfl, cut_colon] at cC
  by_cases hc : Fld.colon l = l.length
  · rw [if_pos hc] at cC
    have HR : Hid (fval (Fld.readLine l) = .agg #[.string ⟨#[]⟩, .string ⟨#[]⟩]) := by unfold Fld.readLine; rw [if_pos hc]; exact Lib.hid rfl
    generalize str l = s at cC
    obtain ⟨q0, q1, q2, q3⟩ := blk2 hg
    clear hc hmc hm
    go_enter Tryd.func26, Tryd.ntmps26
    go_upto_region 1 with fail
    rw [← hW1]
    clear hW1
    go_wp2_with fail
    refine cC.mono ?_
    rintro e w2 ⟨rfl, q, rfl⟩
    go_wp2_with fail
    (try simp only [Exit.inBlock, Exit.then])
    refine bodyPost_ret (v := .agg #[.string ⟨#[]⟩, .string ⟨#[]⟩]) (results_cell_row rfl _ _ w.heap.size _ _ (0, 0) _ rfl (set2 (w := W1.drewN q) hg _ _) Tryd.underlying49 rfl (by kernel_rfl)) rfl ?_
    exact ⟨by rw [HR.out], ((hb1.trans ((bdrewN W1 q).mono hb1.size)).setCell (Nat.le_refl _) _).setCell (Nat.le_refl _) _⟩
  · rw [if_neg hc] at cC
    have hcl := Fld.colon_le l
    have HR : Hid (fval (Fld.readLine l) = .agg #[.string (str (l.take (Fld.colon l))), .string (str (Oct.trim (l.drop (Fld.colon l + 1))))]) := by unfold Fld.readLine; rw [if_neg hc]; exact Lib.hid rfl
    have c0 := fun w => Clone_s (str (l.take (Fld.colon l))) w (by rw [str_size, List.length_take]; omega)
    have c1 := fun w => Trim_s (str (l.drop (Fld.colon l + 1))) w (by rw [str_size, List.length_drop]; omega)
    rw [str_list] at c1
    have cC' : Calls Tryd.prog 38 #[.string (str l), .string ⟨#[58]⟩] W1 fun e w' => e = .returned (.tuple #[.string (str (l.take (Fld.colon l))), .string (str (l.drop (Fld.colon l + 1))), .bool true]) ∧ ∃ n, w' = W1.drewN n := cC
    generalize str l = s at cC'
    generalize str (l.take (Fld.colon l)) = s0 at *
    generalize str (l.drop (Fld.colon l + 1)) = s1 at *
    generalize str (Oct.trim (l.drop (Fld.colon l + 1))) = s2 at *
    clear hc hmc hm cC hcl
    go_enter Tryd.func26, Tryd.ntmps26
    go_upto_region 1 with fail
    rw [← hW1]
    clear hW1
    go_wp2_with fail
    refine cC'.mono ?_
    rintro e w2 ⟨rfl, q, rfl⟩
    go_wp2_with fail
    refine (c0 _).mono ?_
    rintro e w3 ⟨rfl, hb3⟩
    go_wp2_with fail
    refine (c1 _).mono ?_
    rintro e w4 ⟨rfl, hb4⟩
    have hb5 : Below W1.heap.size W1 w4 := (bdrewN W1 q).trans (hb3.trans (hb4.mono hb3.size))
    have hg4 := (hb5.block _ (lt_of_block hg)).trans hg
    obtain ⟨q0, q1, q2, q3⟩ := blk2 hg4
    clear hb3 hb4
    go_wp2_with fail
    (try simp only [Exit.inBlock, Exit.then])
    refine bodyPost_ret (v := .agg #[.string s0, .string s2]) (results_cell_row rfl _ _ w.heap.size _ _ (0, 0) _ rfl (set2 (w := w4) hg4 _ _) Tryd.underlying49 rfl (by kernel_rfl)) rfl ?_
    exact ⟨by rw [HR.out], ((hb1.trans (hb5.mono hb1.size)).setCell (Nat.le_refl _) _).setCell (Nat.le_refl _) _⟩
end Go.Proofs.YtlekbnbdjahegaaDoor
