/- Package fresh, the program's side: a response's age. -/
import Derived.Test.YtajbeoignhnpjaaDoorFrI
namespace Go.Proofs.YtajbeoignhnpjaaDoor
open Go.RowKit

set_option maxHeartbeats 1600000 in
set_option maxRecDepth 100000 in
theorem age_w (r : Rsp) (fs : List Fld.F) (now : Int) (w : World) (hf : FIn w r.fv fs) (hs : shortR fs = true) (hA : 0 ≤ r.A ∧ r.A ≤ r.G ∧ r.G ≤ 1099511627776) (hd : 0 ≤ r.d ∧ r.d ≤ 1099511627776) :
    Calls Tryd.prog 15 #[rv r, .int .i64 now] w fun e w' => e = .returned (.int .i64 (Fr.cap (max (Fr.told fs + r.G - r.A) (r.G - r.d) + max (Fr.cap now Fr.far) r.G - r.G) Fr.maxD)) ∧ Below w.heap.size w w' := by
  have hbw : Below w.heap.size w (w.alloc (.cells (rcells r) 50)) := (Below.refl _ w).alloc (Nat.le_refl _) _
  have hr := RspAt.new w r
  have cT := fun W' (hb : Below w.heap.size w W') => told_w r fs W' (hf.later hb) hs
  have cN := fun W' => within_w now 1099511627776 W' (by decide)
  have cE := fun n W' => within_w n 2147483647 W' (by decide)
  have hk := Fr.cap_bd now (m := 1099511627776) (by decide)
  have ht := Fr.told_bd fs
  have c7 := hr.cell 7
  have c8 := hr.cell 8
  have c20 := hr.cell 20
  change _ = some (Value.int .i64 r.A) at c7
  change _ = some (Value.int .i64 r.G) at c8
  change _ = some (Value.int .i64 r.d) at c20
  have hi := rsp_info r
  unfold rv RspAt Fr.far Fr.maxD at *
  generalize Fr.cap now 1099511627776 = k at *
  generalize Fr.told fs = t at *
  generalize rcells r = cc at *
  generalize r.A = A at *
  generalize r.G = G at *
  generalize r.d = d at *
  clear hf hs
  obtain ⟨hA0, hA1, hA2⟩ := hA
  obtain ⟨hd0, hd1⟩ := hd
  obtain ⟨hk0, hk1⟩ := hk
  obtain ⟨ht0, ht1⟩ := ht
  obtain ⟨n1, e1⟩ : ∃ n1, (if k < G then G else k) = n1 := ⟨_, rfl⟩
  have e1' : max k G = n1 := by rw [← e1]; split <;> omega
  obtain ⟨x1, f1⟩ : ∃ x1, G - d = x1 := ⟨_, rfl⟩
  have w1 : IntKind.i64.wrap (G - d) = x1 := by rw [IntKind.wrap_i64]; omega
  obtain ⟨x2, f2⟩ : ∃ x2, t + G = x2 := ⟨_, rfl⟩
  have w2 : IntKind.i64.wrap (t + G) = x2 := by rw [IntKind.wrap_i64]; omega
  obtain ⟨x3, f3⟩ : ∃ x3, x2 - A = x3 := ⟨_, rfl⟩
  have w3 : IntKind.i64.wrap (x2 - A) = x3 := by rw [IntKind.wrap_i64]; omega
  obtain ⟨b1, g1⟩ : ∃ b1, (if x1 < x3 then x3 else x1) = b1 := ⟨_, rfl⟩
  have g1' : max x1 x3 = b1 := by rw [← g1]; split <;> omega
  obtain ⟨x4, f4⟩ : ∃ x4, b1 + n1 = x4 := ⟨_, rfl⟩
  have w4 : IntKind.i64.wrap (b1 + n1) = x4 := by rw [IntKind.wrap_i64]; omega
  obtain ⟨x5, f5⟩ : ∃ x5, x4 - G = x5 := ⟨_, rfl⟩
  have w5 : IntKind.i64.wrap (x4 - G) = x5 := by rw [IntKind.wrap_i64]; omega
  have HR : Hid (Fr.cap (max (t + G - A) (G - d) + max k G - G) 2147483647 = Fr.cap x5 2147483647) := Lib.hid (by congr 1; omega)
  rw [HR.out]
  have cE5 := fun W' => cE x5 W'
  generalize Fr.cap x5 2147483647 = R at *
  clear HR cE f1 f2 f3 f4 f5 hA0 hA1 hA2 hd0 hd1 hk0 hk1 ht0 ht1
  go_enter Tryd.func15, Tryd.ntmps15
  go_upto_region 1 with fail
  generalize w.alloc (.cells cc 50) = W at *
  have l1 := fun p : LateOf W => p.cell c8
  refine wp_region_late (by kernel_rfl) (by kernel_rfl) ?_
  repeat (quiet_step ((go_at_call 20; exact late_same _ (cN _))))
  refine wpQuiet_nil ?_
  intro wa hwa
  have hba : Below W.heap.size W wa := by obtain ⟨p, rfl⟩ := hwa; exact p.h
  have hbwa := hbw.trans (hba.mono hbw.size)
  have k7 := (hba.cell (p := ⟨w.heap.size, 7, none⟩) (World.block_lt_of_cell? _ _ c7)).trans c7
  have k8 := (hba.cell (p := ⟨w.heap.size, 8, none⟩) (World.block_lt_of_cell? _ _ c8)).trans c8
  have k20 := (hba.cell (p := ⟨w.heap.size, 20, none⟩) (World.block_lt_of_cell? _ _ c20)).trans c20
  have hra := blk_keep hr hba
  clear hwa l1 hba c7 c8 c20 hr hbw cN e1 e1'
  clear W
  go_upto_region 2 with fail
  have l7 := fun p : LateOf wa => p.cell k7
  have l8 := fun p : LateOf wa => p.cell k8
  have l20 := fun p : LateOf wa => p.cell k20
  have cTp := fun p : LateOf wa => cT p.w (hbwa.trans (p.h.mono hbwa.size))
  refine wp_region_late (by kernel_rfl) (by kernel_rfl) ?_
  iterate 6 quiet_step (fail)
  refine quiet_row rfl 50 _ rfl w.heap.size rfl 50 cc (0, 0) _ (LateOf.blk hra) Tryd.underlying50 rfl hi ?_
  repeat (quiet_step ((go_at_call 24; exact late _ (cTp _))))
  refine wpQuiet_nil ?_
  intro wb hwb
  have hbb : Below wa.heap.size wa wb := by obtain ⟨p, rfl⟩ := hwb; exact p.h
  have hbwb := hbwa.trans (hbb.mono hbwa.size)
  have k8' := (hbb.cell (p := ⟨w.heap.size, 8, none⟩) (World.block_lt_of_cell? _ _ k8)).trans k8
  clear hwb hbb l7 l8 l20 k7 k8 k20 hra hbwa cT cTp
  clear wa
  go_wp2_with fail
  refine (cE5 wb).mono ?_
  rintro e wc ⟨rfl, rfl⟩
  go_wp2_with fail
  go_ret
  exact ⟨rfl, hbwb⟩
end Go.Proofs.YtajbeoignhnpjaaDoor
