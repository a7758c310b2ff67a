/- The statements of layer 4: ControlPrints. -/
import Derived.Test.YtolhhejhjjiefaaDoorCt6
import Derived.Test.YtolhhejhjjiefaaDoorCt9
import Derived.Deep.RegionHeld3
namespace Go.Proofs.YtolhhejhjjiefaaDoor
open Go.RowKit

/-- A struct of this type is loaded whole. -/
theorem CAt.load {W : World} {g : Nat} {c : Ctl.C} (h : CAt W g c) : (loadVar 25 ⟨g, 0, none⟩).run Tryd.prog W = .ok (cval c) W :=
  run_loadVar_row W g 25 25 (ccells c) (0, 0) _ h Tryd.underlying25 rfl (by kernel_rfl)
theorem CAt.other {w : World} {g b : Nat} {c : Ctl.C} (h : CAt w g c) (hne : g ≠ b) (k : Nat) (v : Value) : CAt (w.setCell ⟨b, k, none⟩ v) g c := by
  unfold CAt at *
  rw [Below.heap_setCell _ _ _ _ (by simpa using hne)]; exact h

theorem CAt.row_other {w : World} {g b : Nat} {c : Ctl.C} (h : CAt w g c) (hne : g ≠ b) (cs : Array Value) : CAt (w.setRow b cs) g c := by
  unfold CAt at *
  have hne' : b ≠ g := fun e => hne e.symm
  simp [World.setRow, Array.getElem?_modify, hne', h]

set_option maxHeartbeats 6400000 in
set_option maxRecDepth 100000 in
theorem cprints_w (c : Ctl.C) (w : World) (hf : Fits c) (hm : MaxOk w) (hT : Tabs w) :
    Calls Tryd.prog 4 #[cval c] w fun e w' => e = .returned (.bool true) ∧ Below w.heap.size w w' := by
  have cA := fun (w1 : World) (hb : Below w.heap.size w w1) => cawake_w w1 (hm.later hb)
  have HM := Lib.hid hm
  have cP := fun (w1 : World) (hb : Below w.heap.size w w1) => Print_w c w1 hf (hT.later hb)
  have cR := fun (w1 : World) => rCPrint_w c w1 hf
  have hlen := Ctl.print_len c hf.1 hf.2.1 hf.2.2.1 hf.2.2.2
  have cZ := fun (w1 : World) (hb : Below w.heap.size w w1) => parse1 w1 (str (Ctl.print c)) (Ctl.print c) rfl (by omega) (hm.later hb)
  rw [Ctl.parse_print] at cZ
  have hba : Below w.heap.size w (w.alloc (.cells (ccells c) 25)) := (Below.refl _ w).alloc (Nat.le_refl _) _
  have hca : CAt (w.alloc (.cells (ccells c) 25)) w.heap.size c := heap_alloc_new w _
  have G1 := fun W => guard_ctl .eql (.inl rfl) 37 38 (Ctl.clamp c) (Ctl.clamp c) W
  have N1 := fun W => eql_ctl (Ctl.clamp c) (Ctl.clamp c) W
  rw [decide_eq_true rfl] at N1
  generalize str (Ctl.print c) = ps at *
  clear hm hT hlen hf
  unfold cval at cP cR ⊢
  have hsz : (ccells c).size = 11 := rfl
  have hi : (Tryd.prog.info? 25).map (·.size) = some (ccells c).size := by kernel_rfl
  have h1 := ccells_one c
  generalize hcc : ccells c = cc at *
  go_enter Tryd.func4, Tryd.ntmps4
  go_upto_region 1 with fail
  generalize w.alloc (.cells cc 25) = w1 at *
  have HB := Lib.hid hba
  go_wp2_with fail
  refine (cA w1 hba).mono ?_
  rintro e w2 ⟨rfl, hb2⟩
  have hca := hca.later hb2
  have hba := bt hba hb2
  clear hb2 cA HB
  go_upto_region 3 with fail
  have hs := hca
  unfold CAt at hs
  rw [hcc] at hs
  go_wp2_with (refine wpList_load_row rfl 25 _ rfl w.heap.size rfl 25 cc (0, 0) _ hs Tryd.underlying25 rfl hi ?_)
  refine (cP w2 hba).mono ?_
  rintro e w3 ⟨rfl, hb3⟩
  have hca := hca.later hb3
  have hba := bt hba hb3
  clear hb3 cP hs
  go_upto_region 4 with fail
  have hs := hca
  unfold CAt at hs
  rw [hcc] at hs
  have hn0 := heap_alloc_new w3 (.cells #[.bool false, .bool false, .bool false, .bool false, .bool false, .bool false, .bool false, .int .i64 0, .int .i64 0, .int .i64 0, .int .i64 0] 25)
  have hd : CAt ((w3.alloc (.cells #[.bool false, .bool false, .bool false, .bool false, .bool false, .bool false, .bool false, .int .i64 0, .int .i64 0, .int .i64 0, .int .i64 0] 25)).setRow w3.heap.size cc) w3.heap.size c := by
    have h : CAt (w3.alloc (.cells #[.bool false, .bool false, .bool false, .bool false, .bool false, .bool false, .bool false, .int .i64 0, .int .i64 0, .int .i64 0, .int .i64 0] 25)) w3.heap.size Ctl.zeroC := heap_alloc_new w3 _
    have := h.whole c
    rwa [hcc] at this
  have hlt3 : w.heap.size < w3.heap.size := lt_of_block hs
  have hcb : CAt ((w3.alloc (.cells #[.bool false, .bool false, .bool false, .bool false, .bool false, .bool false, .bool false, .int .i64 0, .int .i64 0, .int .i64 0, .int .i64 0] 25)).setRow w3.heap.size cc) w.heap.size c := (hca.later ((Below.refl _ w3).alloc (Nat.le_refl _) _)).row_other (by omega) cc
  have hbb : Below w.heap.size w ((w3.alloc (.cells #[.bool false, .bool false, .bool false, .bool false, .bool false, .bool false, .bool false, .int .i64 0, .int .i64 0, .int .i64 0, .int .i64 0] 25)).setRow w3.heap.size cc) := Below.row (hba.alloc hba.size _) hba.size cc
  go_upto_region 5 with (first
    | refine wpList_load_row rfl 25 _ rfl w.heap.size rfl 25 cc (0, 0) _ hs Tryd.underlying25 rfl hi ?_
    | refine wpList_store_row rfl 25 _ _ rfl w3.heap.size cc rfl rfl 25 #[.bool false, .bool false, .bool false, .bool false, .bool false, .bool false, .bool false, .int .i64 0, .int .i64 0, .int .i64 0, .int .i64 0] hn0 hi hsz.symm h1 ?_)
  generalize (w3.alloc (.cells #[.bool false, .bool false, .bool false, .bool false, .bool false, .bool false, .bool false, .int .i64 0, .int .i64 0, .int .i64 0, .int .i64 0] 25)).setRow w3.heap.size cc = x5 at *
  obtain ⟨G, hGG⟩ : ∃ G, G = w3.heap.size := ⟨_, rfl⟩
  obtain ⟨g, hgg⟩ : ∃ g, g = w.heap.size := ⟨_, rfl⟩
  rw [← hGG, ← hgg] at hlt3
  rw [← hGG] at hd
  rw [← hgg] at hcb
  rw [← hGG, ← hgg]
  have HGG := Lib.hid hgg
  clear hGG hgg hn0 hs hca hba
  have hd : CAt x5 G ⟨c.ns, c.nc, c.pu, c.pr, c.mu, c.px, c.oi, c.ma, c.sa, c.ms, c.mf⟩ := hd
  have p1 : x5.cell? ⟨g, 7, none⟩ = some (.int .i64 c.ma) := hcb.cell 7
  have p2 : x5.cell? ⟨G, 7, none⟩ = some (.int .i64 c.ma) := hd.cell 7
  have p3 := hd.free 7
  have hd := hd.put 7 (.int .i64 (max (min c.ma 2147483647) (-1))) (d := ⟨c.ns, c.nc, c.pu, c.pr, c.mu, c.px, c.oi, Ctl.clampN c.ma, c.sa, c.ms, c.mf⟩) rfl
  have hcb := hcb.other (b := G) (by omega) 7 (.int .i64 (max (min c.ma 2147483647) (-1)))
  have hbb : Below w.heap.size w (x5.setCell ⟨G, 7, none⟩ (.int .i64 (max (min c.ma 2147483647) (-1)))) := hbb.setCell (by show w.heap.size ≤ G; have := HGG.out; omega) _
  go_upto_region 6 with fail
  generalize x5.setCell ⟨G, 7, none⟩ (.int .i64 (max (min c.ma 2147483647) (-1))) = x6 at *
  clear p1 p2 p3
  have p1 : x6.cell? ⟨g, 8, none⟩ = some (.int .i64 c.sa) := hcb.cell 8
  have p2 : x6.cell? ⟨G, 8, none⟩ = some (.int .i64 c.sa) := hd.cell 8
  have p3 := hd.free 8
  have hd := hd.put 8 (.int .i64 (max (min c.sa 2147483647) (-1))) (d := ⟨c.ns, c.nc, c.pu, c.pr, c.mu, c.px, c.oi, Ctl.clampN c.ma, Ctl.clampN c.sa, c.ms, c.mf⟩) rfl
  have hcb := hcb.other (b := G) (by omega) 8 (.int .i64 (max (min c.sa 2147483647) (-1)))
  have hbb : Below w.heap.size w (x6.setCell ⟨G, 8, none⟩ (.int .i64 (max (min c.sa 2147483647) (-1)))) := hbb.setCell (by show w.heap.size ≤ G; have := HGG.out; omega) _
  go_upto_region 7 with fail
  generalize x6.setCell ⟨G, 8, none⟩ (.int .i64 (max (min c.sa 2147483647) (-1))) = x7 at *
  clear p1 p2 p3
  have p1 : x7.cell? ⟨g, 9, none⟩ = some (.int .i64 c.ms) := hcb.cell 9
  have p2 : x7.cell? ⟨G, 9, none⟩ = some (.int .i64 c.ms) := hd.cell 9
  have p3 := hd.free 9
  have hd := hd.put 9 (.int .i64 (max (min c.ms 2147483647) (-1))) (d := ⟨c.ns, c.nc, c.pu, c.pr, c.mu, c.px, c.oi, Ctl.clampN c.ma, Ctl.clampN c.sa, Ctl.clampN c.ms, c.mf⟩) rfl
  have hcb := hcb.other (b := G) (by omega) 9 (.int .i64 (max (min c.ms 2147483647) (-1)))
  have hbb : Below w.heap.size w (x7.setCell ⟨G, 9, none⟩ (.int .i64 (max (min c.ms 2147483647) (-1)))) := hbb.setCell (by show w.heap.size ≤ G; have := HGG.out; omega) _
  go_upto_region 8 with fail
  generalize x7.setCell ⟨G, 9, none⟩ (.int .i64 (max (min c.ms 2147483647) (-1))) = x8 at *
  clear p1 p2 p3
  have p1 : x8.cell? ⟨g, 10, none⟩ = some (.int .i64 c.mf) := hcb.cell 10
  have p2 : x8.cell? ⟨G, 10, none⟩ = some (.int .i64 c.mf) := hd.cell 10
  have p3 := hd.free 10
  have hd := hd.put 10 (.int .i64 (max (min c.mf 2147483647) (-1))) (d := ⟨c.ns, c.nc, c.pu, c.pr, c.mu, c.px, c.oi, Ctl.clampN c.ma, Ctl.clampN c.sa, Ctl.clampN c.ms, Ctl.clampN c.mf⟩) rfl
  have hcb := hcb.other (b := G) (by omega) 10 (.int .i64 (max (min c.mf 2147483647) (-1)))
  have hbb : Below w.heap.size w (x8.setCell ⟨G, 10, none⟩ (.int .i64 (max (min c.mf 2147483647) (-1)))) := hbb.setCell (by show w.heap.size ≤ G; have := HGG.out; omega) _
  go_upto_region 9 with fail
  generalize x8.setCell ⟨G, 10, none⟩ (.int .i64 (max (min c.mf 2147483647) (-1))) = x9 at *
  clear p1 p2 p3
  have hd : CAt x9 G (Ctl.clamp c) := hd
  rw [← hcc] at cR
  clear hi h1 hsz G1 N1
  obtain ⟨a0, a1, a2, a3, a4, a5, a6, a7, a8, a9, a10⟩ := c
  unfold Ctl.clamp at cZ hd
  simp only [] at cZ hd hcb
  generalize Ctl.clampN a7 = m7 at *
  generalize Ctl.clampN a8 = m8 at *
  generalize Ctl.clampN a9 = m9 at *
  generalize Ctl.clampN a10 = m10 at *
  unfold cval at cZ
  unfold ccells at cZ cR
  simp only [] at cZ cR
  clear hcc
  have hb9 : Below w.heap.size w x9.drew := hbb.drew
  have hc9 : CAt x9.drew g ⟨a0, a1, a2, a3, a4, a5, a6, a7, a8, a9, a10⟩ := hcb
  have hd9 : CAt x9.drew G ⟨a0, a1, a2, a3, a4, a5, a6, m7, m8, m9, m10⟩ := hd
  clear hbb hcb hd
  have key : ∀ w', CAt w' g ⟨a0, a1, a2, a3, a4, a5, a6, a7, a8, a9, a10⟩ → CAt w' G ⟨a0, a1, a2, a3, a4, a5, a6, m7, m8, m9, m10⟩ → (w'.cell? ⟨g, 0, none⟩ = some (.bool a0) ∧ w'.cell? ⟨g, 1, none⟩ = some (.bool a1) ∧ w'.cell? ⟨g, 2, none⟩ = some (.bool a2) ∧ w'.cell? ⟨g, 3, none⟩ = some (.bool a3) ∧ w'.cell? ⟨g, 4, none⟩ = some (.bool a4) ∧ w'.cell? ⟨g, 5, none⟩ = some (.bool a5) ∧ w'.cell? ⟨g, 6, none⟩ = some (.bool a6) ∧ w'.cell? ⟨g, 7, none⟩ = some (.int .i64 a7) ∧ w'.cell? ⟨g, 8, none⟩ = some (.int .i64 a8) ∧ w'.cell? ⟨g, 9, none⟩ = some (.int .i64 a9) ∧ w'.cell? ⟨g, 10, none⟩ = some (.int .i64 a10) ∧ w'.cell? ⟨G, 0, none⟩ = some (.bool a0) ∧ w'.cell? ⟨G, 1, none⟩ = some (.bool a1) ∧ w'.cell? ⟨G, 2, none⟩ = some (.bool a2) ∧ w'.cell? ⟨G, 3, none⟩ = some (.bool a3) ∧ w'.cell? ⟨G, 4, none⟩ = some (.bool a4) ∧ w'.cell? ⟨G, 5, none⟩ = some (.bool a5) ∧ w'.cell? ⟨G, 6, none⟩ = some (.bool a6) ∧ w'.cell? ⟨G, 7, none⟩ = some (.int .i64 m7) ∧ w'.cell? ⟨G, 8, none⟩ = some (.int .i64 m8) ∧ w'.cell? ⟨G, 9, none⟩ = some (.int .i64 m9) ∧ w'.cell? ⟨G, 10, none⟩ = some (.int .i64 m10)) := by
    intro w' h h'
    obtain ⟨p0, p1, p2, p3, p4, p5, p6, p7, p8, p9, p10⟩ := h.cells
    obtain ⟨q0, q1, q2, q3, q4, q5, q6, q7, q8, q9, q10⟩ := h'.cells
    exact ⟨p0, p1, p2, p3, p4, p5, p6, p7, p8, p9, p10, q0, q1, q2, q3, q4, q5, q6, q7, q8, q9, q10⟩
  have KEY := Lib.hid key
  clear key
  have HC9 := Lib.hid hc9
  have HD9 := Lib.hid hd9
  have HB9 := Lib.hid hb9
  clear hc9 hd9 hb9 hlt3
  go_region_held3 (fun w' => w'.cell? ⟨g, 0, none⟩ = some (.bool a0) ∧ w'.cell? ⟨g, 1, none⟩ = some (.bool a1) ∧ w'.cell? ⟨g, 2, none⟩ = some (.bool a2) ∧ w'.cell? ⟨g, 3, none⟩ = some (.bool a3) ∧ w'.cell? ⟨g, 4, none⟩ = some (.bool a4) ∧ w'.cell? ⟨g, 5, none⟩ = some (.bool a5) ∧ w'.cell? ⟨g, 6, none⟩ = some (.bool a6) ∧ w'.cell? ⟨g, 7, none⟩ = some (.int .i64 a7) ∧ w'.cell? ⟨g, 8, none⟩ = some (.int .i64 a8) ∧ w'.cell? ⟨g, 9, none⟩ = some (.int .i64 a9) ∧ w'.cell? ⟨g, 10, none⟩ = some (.int .i64 a10) ∧ w'.cell? ⟨G, 0, none⟩ = some (.bool a0) ∧ w'.cell? ⟨G, 1, none⟩ = some (.bool a1) ∧ w'.cell? ⟨G, 2, none⟩ = some (.bool a2) ∧ w'.cell? ⟨G, 3, none⟩ = some (.bool a3) ∧ w'.cell? ⟨G, 4, none⟩ = some (.bool a4) ∧ w'.cell? ⟨G, 5, none⟩ = some (.bool a5) ∧ w'.cell? ⟨G, 6, none⟩ = some (.bool a6) ∧ w'.cell? ⟨G, 7, none⟩ = some (.int .i64 m7) ∧ w'.cell? ⟨G, 8, none⟩ = some (.int .i64 m8) ∧ w'.cell? ⟨G, 9, none⟩ = some (.int .i64 m9) ∧ w'.cell? ⟨G, 10, none⟩ = some (.int .i64 m10))
    (first | exact KEY.out _ HC9.out HD9.out | exact KEY.out _ HC10.out HD10.out | exact KEY.out _ (HC10.out.later ((Below.refl _ _).alloc (Nat.le_refl _) _)) (HD10.out.later ((Below.refl _ _).alloc (Nat.le_refl _) _)) | exact KEY.out _ HC11.out HD11.out)
    (first
      | (go_at_call 13; refine (cR _).mono ?_; rintro e w10 ⟨rfl, hb10⟩; have HC10 := Lib.hid (HC9.out.later hb10); have HD10 := Lib.hid (HD9.out.later hb10); have HB10 := Lib.hid (bt HB9.out hb10); clear hb10)
      | (go_at_call 9; refine (cZ _ HB10.out).mono ?_; rintro e w11 ⟨rfl, hb11⟩; have HC11 := Lib.hid (HC10.out.later hb11); have HD11 := Lib.hid (HD10.out.later hb11); have HB11 := Lib.hid (bt HB10.out hb11); clear hb11))
  all_goals
    go_wp2_with fail
    go_ret
    exact ⟨rfl, HB11.out⟩
end Go.Proofs.YtolhhejhjjiefaaDoor
