/- Package fresh, the program's side: a message and its times as a response. -/
import Derived.Test.YtajbeoignhnpjaaDoorFrK
import Derived.Test.YtajbeoignhnpjaaDoorHeld
import Derived.Deep.RegionHeld3
namespace Go.Proofs.YtajbeoignhnpjaaDoor
open Go.RowKit

def noRsp : Rsp := ⟨⟨#[]⟩, ⟨#[]⟩, 0, ⟨#[]⟩, 0, .slice none 0 0, .slice none 0 0, 0, 0, ⟨false, false, false, false, false, false, false, 0, 0, 0, 0⟩, 0⟩
theorem three_at (w : World) (A B C : Obj) : (((w.alloc A).alloc B).alloc C).heap[w.heap.size]? = some A ∧ (((w.alloc A).alloc B).alloc C).heap[w.heap.size + 1]? = some B ∧ (((w.alloc A).alloc B).alloc C).heap[w.heap.size + 1 + 1]? = some C := by
  have hb : Below ((w.alloc A).alloc B).heap.size ((w.alloc A).alloc B) (((w.alloc A).alloc B).alloc C) := (Below.refl _ _).alloc (Nat.le_refl _) C
  refine ⟨blk_keep (blk_keep (heap_alloc_new w A) ((Below.refl _ _).alloc (Nat.le_refl _) B)) hb, blk_keep (heap_alloc2_new w A B) hb, ?_⟩
  have := heap_alloc_new ((w.alloc A).alloc B) C
  simpa using this
theorem cells2_at {w : World} {g : Nat} {a b : Value} {t : TypeId} (hh : w.heap[g]? = some (.cells #[a, b] t (0, 0))) : w.cell? ⟨g, 0, none⟩ = some a ∧ w.cell? ⟨g, 1, none⟩ = some b := by
  simp [World.cell?, hh]
/-- The call's own blocks: the message, its times, what is to be handed back. -/
structure Own3 (w W : World) (gM gT gR : Nat) (mc : Array Value) (x y : Int) : Prop where
  msg : W.heap[gM]? = some (.cells mc 27 (0, 0))
  tim : W.heap[gT]? = some (.cells #[.int .i64 x, .int .i64 y] 29 (0, 0))
  res : W.heap[gR]? = some (.cells (rcells noRsp) 50 (0, 0))
  below : Below w.heap.size w W
  ge : w.heap.size ≤ gT
  geR : w.heap.size ≤ gR
  ne : gM ≠ gT ∧ gR ≠ gT
theorem Own3.later {w W W' : World} {gM gT gR : Nat} {mc : Array Value} {x y : Int} (h : Own3 w W gM gT gR mc x y) (hb : Below W.heap.size W W') : Own3 w W' gM gT gR mc x y :=
  ⟨blk_keep h.msg hb, blk_keep h.tim hb, blk_keep h.res hb, h.below.trans (hb.mono h.below.size), h.ge, h.geR, h.ne⟩
theorem Own3.put0 {w W : World} {gM gT gR : Nat} {mc : Array Value} {x y : Int} (h : Own3 w W gM gT gR mc x y) (z : Int) : Own3 w (W.setCell ⟨gT, 0, none⟩ (.int .i64 z)) gM gT gR mc z y := by
  refine ⟨?_, ?_, ?_, h.below.setCell h.ge _, h.ge, h.geR, h.ne⟩
  · rw [Below.heap_setCell _ _ _ _ (by simpa using h.ne.1)]; exact h.msg
  · have := h.tim; simp [World.setCell, Array.getElem?_modify, this]
  · rw [Below.heap_setCell _ _ _ _ (by simpa using h.ne.2)]; exact h.res
theorem Own3.put1 {w W : World} {gM gT gR : Nat} {mc : Array Value} {x y : Int} (h : Own3 w W gM gT gR mc x y) (z : Int) : Own3 w (W.setCell ⟨gT, 1, none⟩ (.int .i64 z)) gM gT gR mc x z := by
  refine ⟨?_, ?_, ?_, h.below.setCell h.ge _, h.ge, h.geR, h.ne⟩
  · rw [Below.heap_setCell _ _ _ _ (by simpa using h.ne.1)]; exact h.msg
  · have := h.tim; simp [World.setCell, Array.getElem?_modify, this]
  · rw [Below.heap_setCell _ _ _ _ (by simpa using h.ne.2)]; exact h.res
theorem Own3.free {w W : World} {gM gT gR : Nat} {mc : Array Value} {x y : Int} (h : Own3 w W gM gT gR mc x y) (k : Nat) : W.frozen? ⟨gT, k, none⟩ = false := by
  simp only [World.frozen?]; rw [h.tim]; simp

theorem exec_row {P : Program} {o : Oper} {a : Act} {w : World} {T : TypeId} {x : Operand} (ho : o.op = .load T x) (g : Nat) (hx : a.eval x = .pointer (some ⟨g, 0, none⟩)) (t : TypeId) (cs : Array Value) (fr : Nat × Nat) (d : TypeDesc) (hg : w.heap[g]? = some (.cells cs t fr))
    (hu : P.underlying T = some d) (hd : (match d with | .struct _ | .array _ _ => true | _ => false) = true) (hi : (P.info? T).map (·.size) = some cs.size) : (execOp a.eval o).run P w = .ok (.value (.agg cs)) w := by
  unfold execOp
  simp only [ho, hx, Instr.loadAt, Instr.sureAddr, Sem.run_bind, Sem.run_pure, Result.andThen_ok, run_loadVar_row w g t T cs fr d hg hu hd hi]
theorem wpOp_into {P : Program} {ops : Array Oper} {Q : Exit → Act → World → Prop} {i : Nat} {o : Oper} {a : Act} {w : World} {J : Act → World → Prop} {f : FuncId} {args : Array Value} (ho : ops[i]? = some o) (hg : o.guard = none)
    (hr : (execOp a.eval o).run P w = .ok (.enter f args) w) (hc : Calls P f args w fun e w' => ∃ v, e = .returned v ∧ J (a.put o.dst v) w') : wpOp P ops Q i J a w := by
  refine wpOp_plain ho hg ?_
  unfold Oper.wp
  rw [hr]
  exact hc.mono fun e w' ⟨v, he, hJ⟩ => by subst he; exact hJ
theorem load_fields {w : World} {g k : Nat} {x : Option Addr} {l c : Nat} (h : w.cell? ⟨g, k, none⟩ = some (.slice x l c)) : (Instr.loadAt 24 (.pointer (some ⟨g, k, none⟩))).run Tryd.prog w = .ok (.slice x l c) w := by go_simp
theorem load_num {w : World} {g k : Nat} {n : Int} (h : w.cell? ⟨g, k, none⟩ = some (.int .i64 n)) : (Instr.loadAt 3 (.pointer (some ⟨g, k, none⟩))).run Tryd.prog w = .ok (.int .i64 n) w := by go_simp
theorem heap_row {w : World} {g b : Nat} {O : Obj} (h : w.heap[g]? = some O) (hne : g ≠ b) (cs : Array Value) : (w.setRow b cs).heap[g]? = some O := by
  have hne' : b ≠ g := fun e => hne e.symm
  simp [World.setRow, Array.getElem?_modify, hne', h]
theorem Own3.row {w W : World} {gM gT gR : Nat} {mc : Array Value} {x y : Int} (h : Own3 w W gM gT gR mc x y) {b : Nat} (hb : w.heap.size ≤ b) (h1 : gM ≠ b) (h2 : gT ≠ b) (h3 : gR ≠ b) (cs : Array Value) : Own3 w (W.setRow b cs) gM gT gR mc x y :=
  ⟨heap_row h.msg h1 cs, heap_row h.tim h2 cs, heap_row h.res h3 cs, Below.row h.below hb cs, h.ge, h.geR, h.ne⟩
theorem Own3.beside {w W : World} {gM gT gR : Nat} {mc : Array Value} {x y : Int} (h : Own3 w W gM gT gR mc x y) {b : Nat} (hb : w.heap.size ≤ b) (h1 : gM ≠ b) (h2 : gT ≠ b) (h3 : gR ≠ b) (k : Nat) (v : Value) : Own3 w (W.setCell ⟨b, k, none⟩ v) gM gT gR mc x y := by
  refine ⟨?_, ?_, ?_, h.below.setCell hb _, h.ge, h.geR, h.ne⟩
  · rw [Below.heap_setCell _ _ _ _ (by simpa using h1)]; exact h.msg
  · rw [Below.heap_setCell _ _ _ _ (by simpa using h2)]; exact h.tim
  · rw [Below.heap_setCell _ _ _ _ (by simpa using h3)]; exact h.res
theorem RspAt.row {w : World} {g : Nat} {r : Rsp} (h : RspAt w g r) (d : Rsp) : RspAt (w.setRow g (rcells d)) g d := by
  unfold RspAt at *
  simp [World.setRow, Array.getElem?_modify, h]
theorem RspAt.put {w : World} {g : Nat} {r d : Rsp} (h : RspAt w g r) (k : Nat) (v : Value) (hd : (rcells r).setIfInBounds k v = rcells d) : RspAt (w.setCell ⟨g, k, none⟩ v) g d := by
  unfold RspAt at *
  rw [← hd]
  simp [World.setCell, Array.getElem?_modify, h]
theorem RspAt.free {w : World} {g : Nat} {r : Rsp} (h : RspAt w g r) (k : Nat) : w.frozen? ⟨g, k, none⟩ = false := by
  unfold RspAt at h; simp only [World.frozen?]; rw [h]; simp
theorem cval_size (c : Ctl.C) : (ccells c).size = 11 := rfl

set_option maxHeartbeats 3200000 in
set_option maxRecDepth 100000 in
theorem responseOf_w (a b c : ByteArray) (st mi : Int) (fv bv : Value) (fs : List Fld.F) (ta tg : Int) (w : World) (hE : Env10 w) (hf : FIn w fv fs) (sb : Sl bv) (hs : shortR fs = true) :
    Calls Tryd.prog 14 #[mv a b st c mi fv bv, tv ta tg] w fun e w' => e = .returned (rv ⟨a, b, st, c, mi, fv, bv, Fr.ask ta, Fr.got ta tg, Fr.says fs, Fr.date D0 fs (Fr.got ta tg)⟩) ∧ Below w.heap.size w w' := by
  obtain ⟨fa, fc, hfv, hx9⟩ := id hf
  obtain ⟨ba, bl, bc, rfl⟩ := sb
  clear hx9
  rw [hfv] at hf ⊢
  clear hfv
  have c0 := fun W' => within_w ta 1099511627776 W' (by decide)
  have c1 := fun W' => within_w tg 1099511627776 W' (by decide)
  have cG := Lib.hid (fun W' (hb : Below w.heap.size w W') => Get_r (.slice fa fs.length fc) fs Fr.kCC (by decide) hs W' (hf.later hb))
  have cP := Lib.hid (fun v W' (hb : Below w.heap.size w W') (hv : SIn W' v (Fld.get fs Fr.kCC)) => Says_r v fs hs W' hv (hE.later hb).max)
  have cM := fun r (e : r.fv = .slice fa fs.length fc) W' (hb : Below w.heap.size w W') => moment_w r fs Fr.kDate (by decide) W' (e ▸ hf.later hb) hs (hE.later hb)
  have HA : Hid (Fr.ask ta = Fr.cap ta 1099511627776) := Lib.hid rfl
  have HG : Hid (Fr.got ta tg = max (Fr.cap tg 1099511627776) (Fr.cap ta 1099511627776)) := Lib.hid rfl
  have HD : Hid (∀ g, Fr.date D0 fs g = (Fr.moment D0 fs Fr.kDate).getD g) := Lib.hid fun g => rfl
  rw [show str Fr.kCC = ⟨#[99, 97, 99, 104, 101, 45, 99, 111, 110, 116, 114, 111, 108]⟩ from rfl] at cG
  rw [show str Fr.kDate = ⟨#[100, 97, 116, 101]⟩ from rfl] at cM
  rw [HA.out, HG.out, HD.out]
  clear HA HG HD hf hs hE
  generalize Fr.cap ta 1099511627776 = x at *
  generalize Fr.cap tg 1099511627776 = y' at *
  obtain ⟨y, e1⟩ : ∃ y, (if y' < x then x else y') = y := ⟨_, rfl⟩
  have e1' : max y' x = y := by rw [← e1]; split <;> omega
  rw [e1']
  generalize Fr.moment D0 fs Fr.kDate = md at *
  generalize Fr.says fs = S at *
  obtain ⟨dd, hdd⟩ : ∃ dd, md.getD y = dd := ⟨_, rfl⟩
  rw [hdd]
  have HDD := Lib.hid hdd
  clear hdd
  generalize Fld.get fs Fr.kCC = gs at *
  generalize fs.length = fl at *
  clear fs
  have h3 := three_at w (.cells #[.string a, .string b, .int .i64 st, .string c, .int .i64 mi, .slice fa fl fc, .slice ba bl bc] 27) (.cells #[.int .i64 ta, .int .i64 tg] 29) (.cells (rcells noRsp) 50)
  obtain ⟨W, hW⟩ : ∃ W, W = ((w.alloc (.cells #[.string a, .string b, .int .i64 st, .string c, .int .i64 mi, .slice fa fl fc, .slice ba bl bc] 27)).alloc (.cells #[.int .i64 ta, .int .i64 tg] 29)).alloc (.cells (rcells noRsp) 50) := ⟨_, rfl⟩
  have hW' : ((w.alloc (.cells #[.string a, .string b, .int .i64 st, .string c, .int .i64 mi, .slice fa fl fc, .slice ba bl bc] 27)).alloc (.cells #[.int .i64 ta, .int .i64 tg] 29)).alloc (.cells #[.string ⟨#[]⟩, .string ⟨#[]⟩, .int .i64 0, .string ⟨#[]⟩, .int .i64 0, .slice none 0 0, .slice none 0 0, .int .i64 0, .int .i64 0, .bool false, .bool false, .bool false, .bool false, .bool false, .bool false, .bool false, .int .i64 0, .int .i64 0, .int .i64 0, .int .i64 0, .int .i64 0] 50) = W := hW.symm
  have hbw : Below w.heap.size w W := by rw [hW]; exact (((Below.refl _ w).alloc (Nat.le_refl _) _).alloc (by simp) _).alloc (by simp; omega) _
  rw [← hW] at h3
  have hO : Own3 w W w.heap.size (w.heap.size + 1) (w.heap.size + 1 + 1) #[.string a, .string b, .int .i64 st, .string c, .int .i64 mi, .slice fa fl fc, .slice ba bl bc] ta tg := ⟨h3.1, h3.2.1, h3.2.2, hbw, by omega, by omega, by omega⟩
  clear h3 hbw hW
  unfold mv mcell tv
  go_enter Tryd.func14, Tryd.ntmps14
  go_upto_region 1 with fail
  clear hW'
  generalize w.heap.size + 1 + 1 = gR at *
  generalize w.heap.size + 1 = gT at *
  obtain ⟨gM, hgM⟩ : ∃ gM, gM = w.heap.size := ⟨_, rfl⟩
  rw [← hgM] at hO ⊢
  have HGM := Lib.hid hgM
  clear hgM
  obtain ⟨t0, t1⟩ := cells2_at hO.tim
  have q0 := hO.free 0
  have hO1 := hO.put0 x
  go_upto_region 2 with (refine (c0 W).mono ?_; rintro e w1 ⟨rfl, rfl⟩)
  generalize W.setCell ⟨gT, 0, none⟩ (.int .i64 x) = W1 at *
  clear hO t0 t1 q0 c0 W
  obtain ⟨t0, t1⟩ := cells2_at hO1.tim
  have q1 := hO1.free 1
  have hO2 := (hO1.later (W' := W1.drew) ((Below.refl _ W1).drew)).put1 y
  go_upto_region 2 with fail
  have cS : ∀ w, Calls Tryd.prog 20 #[.int .i64 tg, .int .i64 1099511627776] w fun e w' => e = .returned (.int .i64 y') ∧ w' = w := fun w => same (c1 w)
  refine wp_region_still_tail 7 (by kernel_rfl) (by kernel_rfl) ?_
  simp only [List.take_succ_cons, List.take_zero, List.drop_succ_cons, List.drop_zero]
  still_step
  still_step
  still_call (cS _)
  repeat still_step
  refine wpStill_nil ?_
  change wpList _ _ _ _ _ W1.drew
  clear cS c1 e1 e1'
  go_upto_region 3 with fail
  change Code.wp _ _ _ _ (W1.drew.setCell ⟨gT, 1, none⟩ (.int .i64 y))
  generalize W1.drew.setCell ⟨gT, 1, none⟩ (.int .i64 y) = W2 at *
  clear t0 t1 hO1 q1 W1
  go_cut [5] (fun u5 wx => ∃ w3 g, w3 = wx ∧ u5 = .pointer (some ⟨g, 0, none⟩) ∧ RspAt w3 g ⟨a, b, st, c, mi, .slice fa fl fc, .slice ba bl bc, x, y, S, y⟩ ∧ w.heap.size ≤ g ∧ gR ≠ g ∧ gM ≠ g ∧ gT ≠ g ∧ Own3 w w3 gM gT gR #[.string a, .string b, .int .i64 st, .string c, .int .i64 mi, .slice fa fl fc, .slice ba bl bc] x y)
  case first =>
    have h1 : (rcells ⟨a, b, st, c, mi, .slice fa fl fc, .slice ba bl bc, x, y, S, y⟩).all (·.oneCell') = true := rcells_one ⟨_, _, _, rfl⟩ ⟨_, _, _, rfl⟩
    have OD := hO2.later ((Below.refl _ W2).drew)
    refine wp_region_noPanic ?_
    refine wp_region_held (S := fun W' => Own3 w W' gM gT gR #[.string a, .string b, .int .i64 st, .string c, .int .i64 mi, .slice fa fl fc, .slice ba bl bc] x y) (by kernel_rfl) ?_
    change wpAnyH _ _ _ _ _ _ _ _ W2.drew
    generalize W2.drew = V0 at *
    clear hO2 W2
    refine held_of_takes (fuel := 5) (by kernel_rfl) (fun _ _ _ _ _ h => h) OD [0, 1, 2, 3, 6, 7] _ _ (by kernel_rfl) ?_
    refine Takes.val (.agg #[.string a, .string b, .int .i64 st, .string c, .int .i64 mi, .slice fa fl fc, .slice ba bl bc]) rfl rfl (fun W' h => exec_row rfl gM rfl 27 _ (0, 0) _ h.msg Tryd.underlying27 rfl (by kernel_rfl)) ?_
    refine Takes.val (.agg #[.int .i64 x, .int .i64 y]) rfl rfl (fun W' h => exec_row rfl gT rfl 29 _ (0, 0) _ h.tim Tryd.underlying29 rfl (by kernel_rfl)) ?_
    refine Takes.val (.pointer (some ⟨gM, 5, none⟩)) rfl rfl (fun _ _ => by kernel_rfl) ?_
    refine Takes.val (.slice fa fl fc) rfl rfl (fun W' h => exec_load (s := 21) rfl (by kernel_rfl) (load_fields (g := gM) (k := 5) (by rw [World.cell?, h.msg]; rfl))) ?_
    refine Takes.val (.pointer (some ⟨gT, 1, none⟩)) rfl rfl (fun _ _ => by kernel_rfl) ?_
    refine Takes.val (.int .i64 y) rfl rfl (fun W' h => exec_load (s := 25) rfl (by kernel_rfl) (load_num (g := gT) (k := 1) (by rw [World.cell?, h.tim]; rfl))) ?_
    refine wpAnyH_all (rs := [4, 9]) (by kernel_rfl) (by simp) (fun i hi => ?_)
    simp only [List.mem_cons, List.not_mem_nil, or_false] at hi
    rcases hi with rfl | rfl
    · refine wpOp_into (f := 22) (args := #[.slice fa fl fc, .string ⟨#[99, 97, 99, 104, 101, 45, 99, 111, 110, 116, 114, 111, 108]⟩]) rfl rfl (by kernel_rfl) ((cG.out _ OD.below).mono ?_)
      rintro e V1 ⟨vV1, rfl, SV1, hbV1⟩
      have OV1 := OD.later hbV1
      refine ⟨vV1, rfl, OV1, ?_⟩
      refine wpAnyH_all (rs := [5, 9]) (by kernel_rfl) (by simp) (fun i hi => ?_)
      simp only [List.mem_cons, List.not_mem_nil, or_false] at hi
      rcases hi with rfl | rfl
      · refine wpOp_into (f := 21) (args := #[vV1]) rfl rfl (by kernel_rfl) ((cP.out _ _ OV1.below SV1).mono ?_)
        rintro e V2 ⟨rfl, hbV2⟩
        have OV2 := OV1.later hbV2
        refine ⟨_, rfl, OV2, ?_⟩
        refine held_of_takes (fuel := 2) (by kernel_rfl) (fun _ _ _ _ _ h => h) OV2 [8] _ _ (by kernel_rfl) ?_
        refine Takes.val (rv ⟨a, b, st, c, mi, .slice fa fl fc, .slice ba bl bc, x, y, S, y⟩) rfl rfl (fun _ _ => by kernel_rfl) ?_
        refine wpAnyH_all (rs := [9]) (by kernel_rfl) (by simp) (fun i hi => ?_)
        obtain rfl := List.mem_singleton.1 hi
        have hbV3 : Below V2.heap.size V2 (V2.alloc (.cells (rcells noRsp) 50)) := (Below.refl _ _).alloc (Nat.le_refl _) _
        have OV3 := OV2.later hbV3
        have RV3 : RspAt (V2.alloc (.cells (rcells noRsp) 50)) V2.heap.size noRsp := RspAt.new V2 noRsp
        have gV3 : w.heap.size ≤ V2.heap.size := OV2.below.size
        have n1V3 := lt_of_block OV2.msg
        have n2V3 := lt_of_block OV2.tim
        have n3V3 := lt_of_block OV2.res
        refine wpOp_make (v := .pointer (some ⟨V2.heap.size, 0, none⟩)) (w' := V2.alloc (.cells (rcells noRsp) 50)) rfl rfl (by kernel_rfl) ⟨OV3, ?_⟩
        generalize V2.heap.size = g at *
        generalize V2.alloc (.cells (rcells noRsp) 50) = V3 at *
        refine wpAnyH_all (rs := [10]) (by kernel_rfl) (by simp) (fun i hi => ?_)
        obtain rfl := List.mem_singleton.1 hi
        refine wpOp_known (.store 50 (.tmp 5) (.tmp 27)) none (by kernel_rfl) (fun o e1 e2 => wp_store_row 50 _ _ e1 g (rcells ⟨a, b, st, c, mi, .slice fa fl fc, .slice ba bl bc, x, y, S, y⟩) (by kernel_rfl) (by kernel_rfl) 50 (rcells noRsp) RV3 (rsp_info _) rfl h1 ?_)
        rw [e2]
        have OE := OV3.row gV3 (by omega) (by omega) (by omega) (rcells ⟨a, b, st, c, mi, .slice fa fl fc, .slice ba bl bc, x, y, S, y⟩)
        have RE := RV3.row ⟨a, b, st, c, mi, .slice fa fl fc, .slice ba bl bc, x, y, S, y⟩
        refine ⟨OE, ?_⟩
        refine wpAnyH_done (P := Tryd.prog) (by kernel_rfl) ?_ 0
        generalize V3.setRow g (rcells ⟨a, b, st, c, mi, .slice fa fl fc, .slice ba bl bc, x, y, S, y⟩) = VE at *
        refine NoPanic.normal ?_
        go_simp
        go_wp2_with fail
        go_meet
        case rel => exact ⟨_, g, rfl, rfl, RE, gV3, by omega, by omega, by omega, OE⟩
      · have hbV2 : Below V1.heap.size V1 (V1.alloc (.cells (rcells noRsp) 50)) := (Below.refl _ _).alloc (Nat.le_refl _) _
        have OV2 := OV1.later hbV2
        have RV2 : RspAt (V1.alloc (.cells (rcells noRsp) 50)) V1.heap.size noRsp := RspAt.new V1 noRsp
        have gV2 : w.heap.size ≤ V1.heap.size := OV1.below.size
        have n1V2 := lt_of_block OV1.msg
        have n2V2 := lt_of_block OV1.tim
        have n3V2 := lt_of_block OV1.res
        refine wpOp_make (v := .pointer (some ⟨V1.heap.size, 0, none⟩)) (w' := V1.alloc (.cells (rcells noRsp) 50)) rfl rfl (by kernel_rfl) ⟨OV2, ?_⟩
        have SV2 := SV1.later hbV2
        generalize V1.heap.size = g at *
        generalize V1.alloc (.cells (rcells noRsp) 50) = V2 at *
        refine wpAnyH_all (rs := [5]) (by kernel_rfl) (by simp) (fun i hi => ?_)
        obtain rfl := List.mem_singleton.1 hi
        refine wpOp_into (f := 21) (args := #[vV1]) rfl rfl (by kernel_rfl) ((cP.out _ _ OV2.below SV2).mono ?_)
        rintro e V3 ⟨rfl, hbV3⟩
        have OV3 := OV2.later hbV3
        refine ⟨_, rfl, OV3, ?_⟩
        have RV3 := RV2.later hbV3
        refine held_of_takes (fuel := 1) (by kernel_rfl) (fun _ _ _ _ _ h => h) OV3 [8] _ _ (by kernel_rfl) ?_
        refine Takes.val (rv ⟨a, b, st, c, mi, .slice fa fl fc, .slice ba bl bc, x, y, S, y⟩) rfl rfl (fun _ _ => by kernel_rfl) ?_
        refine wpAnyH_all (rs := [10]) (by kernel_rfl) (by simp) (fun i hi => ?_)
        obtain rfl := List.mem_singleton.1 hi
        refine wpOp_known (.store 50 (.tmp 5) (.tmp 27)) none (by kernel_rfl) (fun o e1 e2 => wp_store_row 50 _ _ e1 g (rcells ⟨a, b, st, c, mi, .slice fa fl fc, .slice ba bl bc, x, y, S, y⟩) (by kernel_rfl) (by kernel_rfl) 50 (rcells noRsp) RV3 (rsp_info _) rfl h1 ?_)
        rw [e2]
        have OE := OV3.row gV2 (by omega) (by omega) (by omega) (rcells ⟨a, b, st, c, mi, .slice fa fl fc, .slice ba bl bc, x, y, S, y⟩)
        have RE := RV3.row ⟨a, b, st, c, mi, .slice fa fl fc, .slice ba bl bc, x, y, S, y⟩
        refine ⟨OE, ?_⟩
        refine wpAnyH_done (P := Tryd.prog) (by kernel_rfl) ?_ 0
        generalize V3.setRow g (rcells ⟨a, b, st, c, mi, .slice fa fl fc, .slice ba bl bc, x, y, S, y⟩) = VE at *
        refine NoPanic.normal ?_
        go_simp
        go_wp2_with fail
        go_meet
        case rel => exact ⟨_, g, rfl, rfl, RE, gV2, by omega, by omega, by omega, OE⟩
    · have hbV1 : Below V0.heap.size V0 (V0.alloc (.cells (rcells noRsp) 50)) := (Below.refl _ _).alloc (Nat.le_refl _) _
      have OV1 := OD.later hbV1
      have RV1 : RspAt (V0.alloc (.cells (rcells noRsp) 50)) V0.heap.size noRsp := RspAt.new V0 noRsp
      have gV1 : w.heap.size ≤ V0.heap.size := OD.below.size
      have n1V1 := lt_of_block OD.msg
      have n2V1 := lt_of_block OD.tim
      have n3V1 := lt_of_block OD.res
      refine wpOp_make (v := .pointer (some ⟨V0.heap.size, 0, none⟩)) (w' := V0.alloc (.cells (rcells noRsp) 50)) rfl rfl (by kernel_rfl) ⟨OV1, ?_⟩
      generalize V0.heap.size = g at *
      generalize V0.alloc (.cells (rcells noRsp) 50) = V1 at *
      refine wpAnyH_all (rs := [4]) (by kernel_rfl) (by simp) (fun i hi => ?_)
      obtain rfl := List.mem_singleton.1 hi
      refine wpOp_into (f := 22) (args := #[.slice fa fl fc, .string ⟨#[99, 97, 99, 104, 101, 45, 99, 111, 110, 116, 114, 111, 108]⟩]) rfl rfl (by kernel_rfl) ((cG.out _ OV1.below).mono ?_)
      rintro e V2 ⟨vV2, rfl, SV2, hbV2⟩
      have OV2 := OV1.later hbV2
      refine ⟨vV2, rfl, OV2, ?_⟩
      have RV2 := RV1.later hbV2
      refine wpAnyH_all (rs := [5]) (by kernel_rfl) (by simp) (fun i hi => ?_)
      obtain rfl := List.mem_singleton.1 hi
      refine wpOp_into (f := 21) (args := #[vV2]) rfl rfl (by kernel_rfl) ((cP.out _ _ OV2.below SV2).mono ?_)
      rintro e V3 ⟨rfl, hbV3⟩
      have OV3 := OV2.later hbV3
      refine ⟨_, rfl, OV3, ?_⟩
      have RV3 := RV2.later hbV3
      refine held_of_takes (fuel := 1) (by kernel_rfl) (fun _ _ _ _ _ h => h) OV3 [8] _ _ (by kernel_rfl) ?_
      refine Takes.val (rv ⟨a, b, st, c, mi, .slice fa fl fc, .slice ba bl bc, x, y, S, y⟩) rfl rfl (fun _ _ => by kernel_rfl) ?_
      refine wpAnyH_all (rs := [10]) (by kernel_rfl) (by simp) (fun i hi => ?_)
      obtain rfl := List.mem_singleton.1 hi
      refine wpOp_known (.store 50 (.tmp 5) (.tmp 27)) none (by kernel_rfl) (fun o e1 e2 => wp_store_row 50 _ _ e1 g (rcells ⟨a, b, st, c, mi, .slice fa fl fc, .slice ba bl bc, x, y, S, y⟩) (by kernel_rfl) (by kernel_rfl) 50 (rcells noRsp) RV3 (rsp_info _) rfl h1 ?_)
      rw [e2]
      have OE := OV3.row gV1 (by omega) (by omega) (by omega) (rcells ⟨a, b, st, c, mi, .slice fa fl fc, .slice ba bl bc, x, y, S, y⟩)
      have RE := RV3.row ⟨a, b, st, c, mi, .slice fa fl fc, .slice ba bl bc, x, y, S, y⟩
      refine ⟨OE, ?_⟩
      refine wpAnyH_done (P := Tryd.prog) (by kernel_rfl) ?_ 0
      generalize V3.setRow g (rcells ⟨a, b, st, c, mi, .slice fa fl fc, .slice ba bl bc, x, y, S, y⟩) = VE at *
      refine NoPanic.normal ?_
      go_simp
      go_wp2_with fail
      go_meet
      case rel => exact ⟨_, g, rfl, rfl, RE, gV1, by omega, by omega, by omega, OE⟩

  case rest =>
    obtain ⟨w3, g, rfl, rfl, hR, hge, hne, hneM, hneT, hO⟩ := hcut
    clear cG cP
    have cMm := cM ⟨a, b, st, c, mi, .slice fa fl fc, .slice ba bl bc, x, y, S, y⟩ rfl w3 hO.below
    clear cM
    unfold RspAt at hR
    unfold rv at cMm
    match md with
    | none =>
      rw [show mo none = .tuple #[.int .i64 0, .bool false] from rfl] at cMm
      have hi := rsp_info ⟨a, b, st, c, mi, .slice fa fl fc, .slice ba bl bc, x, y, S, y⟩
      have h1 : (rcells ⟨a, b, st, c, mi, .slice fa fl fc, .slice ba bl bc, x, y, S, y⟩).all (·.oneCell') = true := rcells_one ⟨_, _, _, rfl⟩ ⟨_, _, _, rfl⟩
      have hsz : (rcells noRsp).size = (rcells ⟨a, b, st, c, mi, .slice fa fl fc, .slice ba bl bc, x, y, S, y⟩).size := rfl
      have HV : Hid (Value.agg (rcells ⟨a, b, st, c, mi, .slice fa fl fc, .slice ba bl bc, x, y, S, y⟩) = rv ⟨a, b, st, c, mi, .slice fa fl fc, .slice ba bl bc, x, y, S, dd⟩) := Lib.hid (by rw [← show y = dd from HDD.out]; rfl)
      generalize rcells ⟨a, b, st, c, mi, .slice fa fl fc, .slice ba bl bc, x, y, S, y⟩ = cc at *
      go_upto_region 4 with fail
      go_wp2_with (refine wpList_load_row rfl 50 _ rfl g rfl 50 cc (0, 0) _ hR Tryd.underlying50 rfl hi ?_)
      refine cMm.mono ?_
      rintro e w4 ⟨rfl, hb4⟩
      have hR4 := blk_keep hR hb4
      have hO4 := hO.later hb4
      have HB := Lib.hid (Below.row hO4.below (show w.heap.size ≤ gR from hO4.geR) cc)
      have HF := Lib.hid (setRow_heap w4 gR (rcells noRsp) cc 50 (0, 0) hO4.res)
      have hres := hO4.res
      clear cMm hb4 hR hO
      go_wp2_with (first | refine wpList_load_row rfl 50 _ rfl g rfl 50 cc (0, 0) _ hR4 Tryd.underlying50 rfl hi ?_ | refine wpList_store_row rfl 50 _ _ rfl gR cc rfl rfl 50 (rcells noRsp) hres hi hsz h1 ?_)
      (try simp only [Exit.inBlock, Exit.then])
      refine bodyPost_ret (v := .agg cc) ?h1 ?h2 ?h3
      case h1 => exact results_cell_row rfl _ _ gR _ cc (0, 0) _ rfl HF.out Tryd.underlying50 rfl hi
      case h2 => rfl
      case h3 => exact ⟨congrArg Ending.returned HV.out, HB.out⟩
    | some m =>
      rw [show mo (some m) = .tuple #[.int .i64 m, .bool true] from rfl] at cMm
      have hi := rsp_info ⟨a, b, st, c, mi, .slice fa fl fc, .slice ba bl bc, x, y, S, y⟩
      have hRb : RspAt w3 g ⟨a, b, st, c, mi, .slice fa fl fc, .slice ba bl bc, x, y, S, y⟩ := hR
      generalize hcc : rcells ⟨a, b, st, c, mi, .slice fa fl fc, .slice ba bl bc, x, y, S, y⟩ = cc at *
      have HV : Hid (Value.agg (rcells ⟨a, b, st, c, mi, .slice fa fl fc, .slice ba bl bc, x, y, S, m⟩) = rv ⟨a, b, st, c, mi, .slice fa fl fc, .slice ba bl bc, x, y, S, dd⟩) := Lib.hid (by rw [← show m = dd from HDD.out]; rfl)
      go_upto_region 4 with fail
      go_wp2_with (refine wpList_load_row rfl 50 _ rfl g rfl 50 cc (0, 0) _ hR Tryd.underlying50 rfl hi ?_)
      refine cMm.mono ?_
      rintro e w4 ⟨rfl, hb4⟩
      have hR4 := hRb.later hb4
      have hO4 := hO.later hb4
      have fz := hR4.free 20
      have k20 := hR4.cell 20
      change _ = some (Value.int .i64 y) at k20
      have hR5 : RspAt (w4.setCell ⟨g, 20, none⟩ (.int .i64 m)) g ⟨a, b, st, c, mi, .slice fa fl fc, .slice ba bl bc, x, y, S, m⟩ := hR4.put 20 (.int .i64 m) rfl
      have hO5 := hO4.beside hge hneM hneT hne 20 (.int .i64 m)
      go_upto_region 7 with fail
      generalize w4.setCell ⟨g, 20, none⟩ (.int .i64 m) = w5 at *
      clear hR4 hO4 fz k20 hb4 hR hRb cMm hO w4
      have hi := rsp_info ⟨a, b, st, c, mi, .slice fa fl fc, .slice ba bl bc, x, y, S, m⟩
      have h1 : (rcells ⟨a, b, st, c, mi, .slice fa fl fc, .slice ba bl bc, x, y, S, m⟩).all (·.oneCell') = true := rcells_one ⟨_, _, _, rfl⟩ ⟨_, _, _, rfl⟩
      have hsz : (rcells noRsp).size = (rcells ⟨a, b, st, c, mi, .slice fa fl fc, .slice ba bl bc, x, y, S, m⟩).size := rfl
      unfold RspAt at hR5
      generalize rcells ⟨a, b, st, c, mi, .slice fa fl fc, .slice ba bl bc, x, y, S, m⟩ = cd at *
      have HB := Lib.hid (Below.row hO5.below (show w.heap.size ≤ gR from hO5.geR) cd)
      have HF := Lib.hid (setRow_heap w5 gR (rcells noRsp) cd 50 (0, 0) hO5.res)
      have hres := hO5.res
      go_wp2_with (first | refine wpList_load_row rfl 50 _ rfl g rfl 50 cd (0, 0) _ hR5 Tryd.underlying50 rfl hi ?_ | refine wpList_store_row rfl 50 _ _ rfl gR cd rfl rfl 50 (rcells noRsp) hres hi hsz h1 ?_)
      (try simp only [Exit.inBlock, Exit.then])
      refine bodyPost_ret (v := .agg cd) ?h1 ?h2 ?h3
      case h1 => exact results_cell_row rfl _ _ gR _ cd (0, 0) _ rfl HF.out Tryd.underlying50 rfl hi
      case h2 => rfl
      case h3 => exact ⟨congrArg Ending.returned HV.out, HB.out⟩
end Go.Proofs.YtajbeoignhnpjaaDoor
