/- Package field: the document's own With; the library's Grow and Concat. -/
import Derived.Test.YtlekbnbdjahegaaDoorFd8
namespace Go.Proofs.YtlekbnbdjahegaaDoor
open Go.RowKit

theorem row_from {w : World} {base base' e s n : Nat} {v : Value} {xs : List Value} (h : w.ownsRow base e s v n xs) (hb : base' ≤ base) : w.ownsRow base' e s v n xs := by
  refine ⟨h.1, ?_⟩
  rcases h.2 with h0 | ⟨g, cap, cur, hv, hg, rest⟩
  · exact .inl h0
  · exact .inr ⟨g, cap, cur, hv, Nat.le_trans hb hg, rest⟩
theorem FBuf.from_ {W W1 w : World} {v : Value} {fs : List Fld.F} (h : FBuf W1 w v fs) (hb : Below W.heap.size W W1) : FBuf W w v fs := ⟨row_from h.1 hb.size, hb.trans (h.2.mono hb.size)⟩
theorem SBuf.from_ {W W1 w : World} {v : Value} {ls : List (List UInt8)} (h : SBuf W1 w v ls) (hb : Below W.heap.size W W1) : SBuf W w v ls := ⟨row_from h.1 hb.size, hb.trans (h.2.mono hb.size)⟩

set_option maxHeartbeats 3200000 in
set_option maxRecDepth 100000 in
theorem rWith_w (va : Value) (xs : List Fld.F) (m : Fld.F) (w : World) (ha : FIn w va xs) (hs : Small xs) (hm0 : m.1.length ≤ 1000000) (_hm1 : m.2.length ≤ 1000000) :
    Calls Tryd.prog 24 #[va, fval m] w fun e w' => ∃ v, e = .returned v ∧ FBuf w w' v (Fld.with1 xs m) := by
  obtain ⟨aa, ca, rfl, ha⟩ := ha
  obtain ⟨n, hn⟩ : ∃ n, n = xs.length := ⟨_, rfl⟩
  rw [← hn]
  have hn9 : n ≤ 1000000 := by have := hs.1; omega
  have HN := Lib.hid hn
  have HS := Lib.hid hs
  have cN := fun w => rLower_s (str m.1) w (by rw [str_size]; exact hm0)
  rw [str_list] at cN
  obtain ⟨m0, hm0'⟩ : ∃ m0, m0 = str m.1 := ⟨_, rfl⟩
  obtain ⟨m1, hm1'⟩ : ∃ m1, m1 = str m.2 := ⟨_, rfl⟩
  have HM0 := Lib.hid hm0'
  have HM1 := Lib.hid hm1'
  unfold fval
  rw [← hm0'] at cN
  rw [← hm0', ← hm1']
  have hb0 : Below w.heap.size w (w.alloc (.cells #[.string m0, .string m1] 49)) := (Below.refl _ w).alloc (Nat.le_refl _) _
  obtain ⟨q0, q1, _⟩ := fcell (w := w) (x := m0) (y := m1) (Below.refl _ _)
  have hlt0 : w.heap.size < (w.alloc (.cells #[.string m0, .string m1] 49)).heap.size := by simp
  have hf0 : FBuf (w.alloc (.cells #[.string m0, .string m1] 49)) (w.alloc (.cells #[.string m0, .string m1] 49)) (.slice none 0 0) [] := FBuf.nil _
  clear hm0' hm1' hm0 _hm1
  by_cases hz : n = 0
  · subst hz
    have hx : xs = [] := List.eq_nil_of_length_eq_zero hn.symm
    have HX := Lib.hid hx
    clear hn ha hs hx
    go_enter Tryd.func24, Tryd.ntmps24
    go_wp2_with fail
    generalize w.alloc (.cells #[.string m0, .string m1] 49) = W1 at *
    refine wp_loop_rounds 1 ?_
    rw [rounds_succ]
    go_wp2_with (at_builtin; refine appF hf0 m (by show 0 ≤ 1000000000; omega) rfl _ _ rfl m0 m1 HM0.out HM1.out rfl rfl ?_; intro v' w4 hB4)
    go_ret
    exact ⟨_, rfl, by rw [HX.out]; exact hB4.from_ hb0⟩
  obtain ⟨ba, oa, rfl, hC⟩ := Cells.of hn hz ha
  have HC := Lib.hid hC
  clear ha hn hz hC hs
  go_enter Tryd.func24, Tryd.ntmps24
  go_wp2_with fail
  generalize w.alloc (.cells #[.string m0, .string m1] 49) = W1 at *
  go_loopw [5, 6, 7] (fun v d i wr => ∃ (k : Nat) (b : Bool), k ≤ n ∧ i = .int .i64 k ∧ d = .bool b ∧ Hid ((Fld.wfold m (xs.take k)).2 = b) ∧ FBuf W1 wr v (Fld.wfold m (xs.take k)).1) (fun _ _ i _ => n - (intOf i).toNat)
  case atStart => exact ⟨0, false, by omega, rfl, rfl, Lib.hid rfl, hf0⟩
  case round =>
    obtain ⟨k, b, hk, rfl, rfl, HB, hB⟩ := hrel
    clear hf0
    have r0 := (hB.2.cell (p := ⟨w.heap.size, 0, none⟩) hlt0).trans q0
    have r1 := (hB.2.cell (p := ⟨w.heap.size, 1, none⟩) hlt0).trans q1
    have hgl : (Fld.wfold m (xs.take k)).1.length ≤ 1000000000 := by
      have := Fld.wfold_length m (xs.take k) ([], false)
      unfold Fld.wfold
      rw [List.length_take] at this
      simp at this
      omega
    by_cases hlt : k < n
    · have ka : k < xs.length := by have := HN.out; omega
      obtain ⟨c1, c2⟩ := HC.out.at_ (hb0.trans (hB.2.mono hb0.size)) k hlt ka
      have z := HS.out.at_ k ka
      have cX := fun w => rLower_s (str xs[k].1) w (by rw [str_size]; exact z.1)
      rw [str_list] at cX
      have HF := Lib.hid (Fld.wfold_snoc m xs k ka)
      obtain ⟨x, hx⟩ : ∃ x, x = str xs[k].1 := ⟨_, rfl⟩
      obtain ⟨y, hy⟩ : ∃ y, y = str xs[k].2 := ⟨_, rfl⟩
      rw [← hx] at c1 cX
      rw [← hy] at c2
      have HY := Lib.hid hy
      have HX := Lib.hid hx
      clear hx hy z
      by_cases hp : Fld.named m.1 xs[k] = true
      · have he : Oct.lower xs[k].1 = Oct.lower m.1 := by simpa [Fld.named] using hp
        rw [he] at cX
        have HP := Lib.hid hp
        generalize str (Oct.lower m.1) = yn at cN cX
        clear hp he
        go_wp2_with fail
        have l1 := fun p : LateOf wr => p.cell c1
        have l2 := fun p : LateOf wr => p.cell r0
        refine wp_region_late (by kernel_rfl) (by kernel_rfl) ?_
        repeat (quiet_step (fail))
        quiet_step ((go_at_call 35; exact late _ (cX _)))
        repeat (quiet_step (fail))
        quiet_step ((go_at_call 35; exact late _ (cN _)))
        repeat (quiet_step (fail))
        refine wpQuiet_nil ?_
        intro w2 hw'
        have hb2 : Below wr.heap.size wr w2 := by obtain ⟨p, rfl⟩ := hw'; exact p.h
        clear hw' l1 l2
        have hB2 := hB.after hb2
        have r0' := (hb2.cell (p := ⟨w.heap.size, 0, none⟩) (World.block_lt_of_cell? _ _ r0)).trans r0
        have r1' := (hb2.cell (p := ⟨w.heap.size, 1, none⟩) (World.block_lt_of_cell? _ _ r1)).trans r1
        have c1' := (hb2.cell (p := ⟨ba, oa + k * 2, none⟩) (World.block_lt_of_cell? _ _ c1)).trans c1
        have c2' := (hb2.cell (p := ⟨ba, oa + k * 2 + 1, none⟩) (World.block_lt_of_cell? _ _ c2)).trans c2
        cases b with
        | true =>
          go_wp2_with fail
          go_roundw
          case rel => exact ⟨k + 1, true, by omega, by go_num, rfl, by rw [HF.out]; unfold Fld.wstep; rw [if_pos HP.out, HB.out]; exact Lib.hid HB.out, by rw [HF.out]; unfold Fld.wstep; rw [if_pos HP.out, HB.out]; exact hB2⟩
          case measure => simp [intOf]; omega
        | false =>
          go_wp2_with (at_builtin; refine appF hB2 m hgl rfl _ _ rfl m0 m1 HM0.out HM1.out rfl rfl ?_; intro v' w4 hB4)
          go_roundw
          case rel => exact ⟨k + 1, true, by omega, by go_num, rfl, by rw [HF.out]; unfold Fld.wstep; rw [if_pos HP.out, HB.out]; exact Lib.hid rfl, by rw [HF.out]; unfold Fld.wstep; rw [if_pos HP.out, HB.out]; exact hB4⟩
          case measure => simp [intOf]; omega
      · have hp' : Fld.named m.1 xs[k] = false := by simpa using hp
        have HP := Lib.hid hp'
        have hne : ((str (Oct.lower xs[k].1)).toList == (str (Oct.lower m.1)).toList) = false := by rw [str_toList, str_toList]; exact hp'
        generalize str (Oct.lower m.1) = yn at cN cX hne
        generalize str (Oct.lower xs[k].1) = yx at cX hne
        clear hp hp'
        go_wp2_with fail
        have l1 := fun p : LateOf wr => p.cell c1
        have l2 := fun p : LateOf wr => p.cell r0
        refine wp_region_late (by kernel_rfl) (by kernel_rfl) ?_
        repeat (quiet_step (fail))
        quiet_step ((go_at_call 35; exact late _ (cX _)))
        repeat (quiet_step (fail))
        quiet_step ((go_at_call 35; exact late _ (cN _)))
        repeat (quiet_step (fail))
        refine wpQuiet_nil ?_
        intro w2 hw'
        have hb2 : Below wr.heap.size wr w2 := by obtain ⟨p, rfl⟩ := hw'; exact p.h
        clear hw' l1 l2
        have hB2 := hB.after hb2
        have r0' := (hb2.cell (p := ⟨w.heap.size, 0, none⟩) (World.block_lt_of_cell? _ _ r0)).trans r0
        have r1' := (hb2.cell (p := ⟨w.heap.size, 1, none⟩) (World.block_lt_of_cell? _ _ r1)).trans r1
        have c1' := (hb2.cell (p := ⟨ba, oa + k * 2, none⟩) (World.block_lt_of_cell? _ _ c1)).trans c1
        have c2' := (hb2.cell (p := ⟨ba, oa + k * 2 + 1, none⟩) (World.block_lt_of_cell? _ _ c2)).trans c2
        go_wp2_with (at_builtin; refine appF hB2 xs[k] hgl rfl _ _ rfl x y HX.out HY.out rfl rfl ?_; intro v' w4 hB4)
        go_roundw
        case rel => exact ⟨k + 1, b, by omega, by go_num, rfl, by rw [HF.out]; unfold Fld.wstep; rw [HP.out]; exact HB, by rw [HF.out]; unfold Fld.wstep; rw [HP.out]; exact hB4⟩
        case measure => simp [intOf]; omega
    · have hE := Fld.take_whole xs k (by have := HN.out; omega)
      rw [hE] at hB HB hgl
      clear hE
      cases b with
      | true =>
        have HR := Lib.hid (Fld.with1_done HB.out)
        go_wp2_with fail
        go_ret
        exact ⟨_, rfl, by rw [← HR.out]; exact hB.from_ hb0⟩
      | false =>
        have HR := Lib.hid (Fld.with1_not HB.out)
        go_wp2_with (at_builtin; refine appF hB m hgl rfl _ _ rfl m0 m1 HM0.out HM1.out rfl rfl ?_; intro v' w4 hB4)
        go_ret
        exact ⟨_, rfl, by rw [← HR.out]; exact hB4.from_ hb0⟩
end Go.Proofs.YtlekbnbdjahegaaDoor
