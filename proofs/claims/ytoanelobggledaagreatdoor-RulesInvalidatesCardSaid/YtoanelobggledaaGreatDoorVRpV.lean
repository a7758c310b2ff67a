/- Package rules, the program's side: who is told that nothing has changed. -/
import Derived.Test.YtoanelobggledaaGreatDoorVRpQ
import Derived.Test.YtoanelobggledaaGreatDoorVRpP
namespace Go.Proofs.YtoanelobggledaaGreatDoor
open Go.RowKit

set_option maxHeartbeats 1600000 in
set_option maxRecDepth 100000 in
theorem Un1_c (x : Mx) (fs : List Fld.F) (g : Nat) (p : List UInt8) (w : World) (hx : XAt w g x) (hf : FIn w x.fv fs) (hs : Mid fs) :
    Calls Tryz.prog 67 #[.string (str p), .pointer (some ⟨g, 0, none⟩)] w fun e w' => e = .returned (.bool (p == [42] || Rl.like fs p)) ∧ Below w.heap.size w w' := by
  have cT := tagged_w x fs p w hf hs
  have hi := x_info x
  unfold XAt at hx
  unfold xv at *
  generalize xcells x = cc at *
  have HX : Hid ((p == [42]) = ((str p).toList == [42])) := Lib.hid (by rw [str_toList])
  rw [HX.out]
  generalize Rl.like fs p = L at *
  generalize str p = sp at *
  clear hf hs
  by_cases h : (sp.toList == [42]) = true
  · have HR : Hid ((sp.toList == [42] || L) = true) := Lib.hid (by rw [h]; rfl)
    rw [HR.out]
    clear HX HR
    go_enter Tryz.func67, Tryz.ntmps67
    go_wp2_with fail
    go_ret
    exact ⟨rfl, Below.refl _ _⟩
  · have h' : (sp.toList == [42]) = false := by simpa using h
    have HR : Hid ((sp.toList == [42] || L) = L) := Lib.hid (by rw [h']; rfl)
    rw [HR.out]
    clear HX HR h
    go_enter Tryz.func67, Tryz.ntmps67
    go_wp2_with (refine wpList_row_if rfl 58 _ rfl g rfl 58 cc (0, 0) _ hx Tryz.underlying58 rfl hi ?_)
    refine cT.mono ?_
    rintro e w1 ⟨rfl, hb1⟩
    go_wp2_with fail
    go_ret
    exact ⟨rfl, hb1⟩
set_option maxHeartbeats 6400000 in
set_option maxRecDepth 100000 in
theorem Unchanged_w (a b c a' b' c' : ByteArray) (st mi st' mi' : Int) (fv bv fv' bv' : Value) (fs fs' : List Fld.F) (w : World) (hE : Env10 w) (hf : FIn w fv fs) (sb : Sl bv) (hs : Mid fs) (hf' : FIn w fv' fs') (sb' : Sl bv') (hs' : Mid fs') :
    Calls Tryz.prog 34 #[mv a b st c mi fv bv, mv a' b' st' c' mi' fv' bv'] w fun e w' => e = .returned (.bool (Rl.unchanged D0 a.data.toList fs st' fs')) ∧ Below w.heap.size w w' := by
  obtain ⟨fa, fc, hfv, hx9⟩ := id hf
  obtain ⟨ba, bl, bc, rfl⟩ := sb
  obtain ⟨fa', fc', hfv', hx8⟩ := id hf'
  obtain ⟨ba', bl', bc', rfl⟩ := sb'
  clear hx9 hx8
  rw [hfv] at hf ⊢
  rw [hfv'] at hf' ⊢
  clear hfv hfv'
  have cQ0 := Lib.hid (fun W' (hb : Below w.heap.size w W') => messageOf_w a b c st mi (.slice fa fs.length fc) (.slice ba bl bc) fs W' (hE.later hb) (hf.later hb) ⟨_, _, _, rfl⟩ hs)
  have cR0 := Lib.hid (fun W' (hb : Below w.heap.size w W') => messageOf_w a' b' c' st' mi' (.slice fa' fs'.length fc') (.slice ba' bl' bc') fs' W' (hE.later hb) (hf'.later hb) ⟨_, _, _, rfl⟩ hs')
  obtain ⟨q, hq⟩ : ∃ q : Mx, q = ⟨a, b, c, st, mi, .slice fa fs.length fc, .slice ba bl bc, mq st fs⟩ := ⟨_, rfl⟩
  obtain ⟨r, hr⟩ : ∃ r : Mx, r = ⟨a', b', c', st', mi', .slice fa' fs'.length fc', .slice ba' bl' bc', mq st' fs'⟩ := ⟨_, rfl⟩
  have cQ := Lib.hid (fun W' (hb : Below w.heap.size w W') => hq ▸ cQ0.out W' hb)
  have cR := Lib.hid (fun W' (hb : Below w.heap.size w W') => hr ▸ cR0.out W' hb)
  clear cQ0 cR0
  unfold mv mcell at cQ cR
  have h1 : (xcells q).all (·.oneCell') = true := xcells_one (by rw [hq]; exact ⟨_, _, _, rfl⟩) (by rw [hq]; exact ⟨_, _, _, rfl⟩)
  have h2 : (xcells r).all (·.oneCell') = true := xcells_one (by rw [hr]; exact ⟨_, _, _, rfl⟩) (by rw [hr]; exact ⟨_, _, _, rfl⟩)
  have hfq : FIn w q.fv fs := by rw [hq]; exact hf
  have hfr : FIn w r.fv fs' := by rw [hr]; exact hf'
  have HQ0 : Hid ((xcells q)[0]? = some (.string a)) := Lib.hid (by rw [hq]; rfl)
  have HR2 : Hid ((xcells r)[2]? = some (.int .i64 st')) := Lib.hid (by rw [hr]; rfl)
  have cH := fun v W' (hb : Below w.heap.size w W') (hv : SIn W' v [Rl.kINM]) => has_w q fs v [Rl.kINM] W' (hfq.later hb) hs hv (by decide) (by decide)
  rw [show [Rl.kINM].any (Rl.has fs) = Rl.has fs Rl.kINM by simp] at cH
  have cI := Lib.hid (fun W' (hb : Below w.heap.size w W') => pieces_w q fs Rl.kINM W' (hfq.later hb) hs (by decide))
  rw [show str Rl.kINM = ⟨#[105, 102, 45, 110, 111, 110, 101, 45, 109, 97, 116, 99, 104]⟩ from rfl] at cI
  have hg := hs.got Rl.kINM
  have hgl := Vr.piece_len (ls := Fld.get fs Rl.kINM) (m := 500) hg.2
  have hgn := Oct.splitAll_len (Fld.get fs Rl.kINM) (fun l hl => by have := hg.2 l hl; omega)
  have cC := Lib.hid (fun g v W' (hb : Below w.heap.size w W') (hx : XAt W' g r) (hv : SIn W' v (Oct.splitAll (Fld.get fs Rl.kINM))) => Contains_2 (.pointer (some ⟨g, 0, none⟩)) (fun p => p == [42] || Rl.like fs' p) v (Oct.splitAll (Fld.get fs Rl.kINM)) W' hv (by omega) (fun n hn => by have := hgl n hn; omega) (fun nm hnm w1 hb1 => Un1_c r fs' g nm w1 (hx.later hb1) (hfr.later (hb.trans (hb1.mono hb.size))) hs'))
  clear hg hgl hgn
  have cA := Lib.hid (fun W' (hb : Below w.heap.size w W') => moment2_w q fs Rl.kIMS (by decide) W' (hfq.later hb) hs (hE.later hb))
  have cB := Lib.hid (fun W' (hb : Below w.heap.size w W') => moment2_w r fs' Fr.kMod (by decide) W' (hfr.later hb) hs' (hE.later hb))
  rw [show str Rl.kIMS = ⟨#[105, 102, 45, 109, 111, 100, 105, 102, 105, 101, 100, 45, 115, 105, 110, 99, 101]⟩ from rfl] at cA
  rw [show str Fr.kMod = ⟨#[108, 97, 115, 116, 45, 109, 111, 100, 105, 102, 105, 101, 100]⟩ from rfl] at cB
  have E1 := Lib.hid (Rl.uc1 (D := D0) (m := a.data.toList) (qf := fs) (st := st') (kf := fs'))
  have E2 := Lib.hid (Rl.uc2 (D := D0) (m := a.data.toList) (qf := fs) (st := st') (kf := fs'))
  have E3 := Lib.hid (Rl.uc3 (D := D0) (m := a.data.toList) (qf := fs) (st := st') (kf := fs'))
  have E4 := Lib.hid (Rl.uc4 (D := D0) (m := a.data.toList) (qf := fs) (st := st') (kf := fs'))
  have E5 := Lib.hid (Rl.uc5 (D := D0) (m := a.data.toList) (qf := fs) (st := st') (kf := fs'))
  have E6 := Lib.hid (Rl.uc6 (D := D0) (m := a.data.toList) (qf := fs) (st := st') (kf := fs'))
  have hmf : ∀ (fn : Fn) (first cap : Array Value) (w : World), (Instr.makeFunc fn first cap).run Tryz.prog w = .ok (.func fn first cap) w := fun _ _ _ _ => rfl
  generalize Rl.unchanged D0 a.data.toList fs st' fs' = RES at *
  generalize Rl.has fs Rl.kINM = HI at *
  generalize (Oct.splitAll (Fld.get fs Rl.kINM)).any (fun p => p == [42] || Rl.like fs' p) = AN at *
  generalize Oct.splitAll (Fld.get fs Rl.kINM) = NS at *
  generalize Fr.moment D0 fs Rl.kIMS = M1 at *
  generalize Fr.moment D0 fs' Fr.kMod = M2 at *
  have HRX : Hid (∀ W g, XAt W g r = (W.heap[g]? = some (.cells (xcells r) 58 (0, 0)))) := Lib.hid fun W g => rfl
  clear hq hr hf hf'
  generalize hfl : fs.length = fl at *
  generalize hfl' : fs'.length = fl' at *
  clear hfl hfl'
  obtain ⟨W, hW⟩ : ∃ W, W = (w.alloc (.cells #[.string a, .string b, .int .i64 st, .string c, .int .i64 mi, .slice fa fl fc, .slice ba bl bc] 27)).alloc (.cells #[.string a', .string b', .int .i64 st', .string c', .int .i64 mi', .slice fa' fl' fc', .slice ba' bl' bc'] 27) := ⟨_, rfl⟩
  have hbw : Below w.heap.size w W := by rw [hW]; exact ((Below.refl _ w).alloc (Nat.le_refl _) _).alloc (by simp) _
  have h3 := pair_at w (.cells #[.string a, .string b, .int .i64 st, .string c, .int .i64 mi, .slice fa fl fc, .slice ba bl bc] 27) (.cells #[.string a', .string b', .int .i64 st', .string c', .int .i64 mi', .slice fa' fl' fc', .slice ba' bl' bc'] 27)
  rw [← hW] at h3
  have hO : OwnP w W w.heap.size (w.heap.size + 1) #[.string a, .string b, .int .i64 st, .string c, .int .i64 mi, .slice fa fl fc, .slice ba bl bc] #[.string a', .string b', .int .i64 st', .string c', .int .i64 mi', .slice fa' fl' fc', .slice ba' bl' bc'] := ⟨h3.1, h3.2, hbw⟩
  clear h3 hbw
  unfold mv mcell
  go_enter Tryz.func34, Tryz.ntmps34
  go_upto_region 1 with fail
  rw [← hW]
  clear hW
  generalize w.heap.size + 1 = gB at *
  obtain ⟨gA, hgA⟩ : ∃ gA, gA = w.heap.size := ⟨_, rfl⟩
  rw [← hgA] at hO ⊢
  have HGA := Lib.hid hgA
  clear hgA
  go_cut [5, 6] (fun u5 u6 wx => ∃ w3 g5 g6, w3 = wx ∧ u5 = .pointer (some ⟨g5, 0, none⟩) ∧ u6 = .pointer (some ⟨g6, 0, none⟩) ∧ XAt w3 g5 q ∧ XAt w3 g6 r ∧ g5 ≠ g6 ∧ Below w.heap.size w w3)
  case first =>
    have OV0 := hO.later ((Below.refl _ W).drew)
    refine wp_region_noPanic ?_
    refine wp_region_held (S := fun W' => OwnP w W' gA gB #[.string a, .string b, .int .i64 st, .string c, .int .i64 mi, .slice fa fl fc, .slice ba bl bc] #[.string a', .string b', .int .i64 st', .string c', .int .i64 mi', .slice fa' fl' fc', .slice ba' bl' bc']) (by kernel_rfl) ?_
    change wpAnyH _ _ _ _ _ _ _ _ W.drew
    generalize W.drew = V0 at *
    clear hO W
    refine held_of_takes (fuel := 6) (by kernel_rfl) (fun _ _ _ _ _ h => h) OV0 [0, 2] _ _ (by kernel_rfl) ?_
    refine Takes.val (.agg #[.string a, .string b, .int .i64 st, .string c, .int .i64 mi, .slice fa fl fc, .slice ba bl bc]) rfl rfl (fun W' h => exec_row rfl gA rfl 27 _ (0, 0) _ h.one Tryz.underlying27 rfl (by kernel_rfl)) ?_
    refine Takes.val (.agg #[.string a', .string b', .int .i64 st', .string c', .int .i64 mi', .slice fa' fl' fc', .slice ba' bl' bc']) rfl rfl (fun W' h => exec_row rfl gB rfl 27 _ (0, 0) _ h.two Tryz.underlying27 rfl (by kernel_rfl)) ?_
    refine wpAnyH_all (rs := [1, 4, 5]) (by kernel_rfl) (by simp) (fun i hi => ?_)
    simp only [List.mem_cons, List.not_mem_nil, or_false] at hi
    rcases hi with rfl | rfl | rfl
    refine wpOp_into (f := 38) (args := #[.agg #[.string a, .string b, .int .i64 st, .string c, .int .i64 mi, .slice fa fl fc, .slice ba bl bc]]) rfl rfl (by kernel_rfl) ((cQ.out _ OV0.below).mono ?_)
    rintro e V1 ⟨rfl, hbV1⟩
    have OV1 := OV0.later hbV1
    refine ⟨_, rfl, OV1, ?_⟩
    refine wpAnyH_all (rs := [3, 4, 5]) (by kernel_rfl) (by simp) (fun i hi => ?_)
    simp only [List.mem_cons, List.not_mem_nil, or_false] at hi
    rcases hi with rfl | rfl | rfl
    refine wpOp_into (f := 38) (args := #[.agg #[.string a', .string b', .int .i64 st', .string c', .int .i64 mi', .slice fa' fl' fc', .slice ba' bl' bc']]) rfl rfl (by kernel_rfl) ((cR.out _ OV1.below).mono ?_)
    rintro e V2 ⟨rfl, hbV2⟩
    have OV2 := OV1.later hbV2
    refine ⟨_, rfl, OV2, ?_⟩
    refine wpAnyH_all (rs := [4, 5]) (by kernel_rfl) (by simp) (fun i hi => ?_)
    simp only [List.mem_cons, List.not_mem_nil, or_false] at hi
    rcases hi with rfl | rfl
    have hbV3 : Below V2.heap.size V2 (V2.alloc (.cells (xcells noX) 58)) := (Below.refl _ _).alloc (Nat.le_refl _) _
    have OV3 := OV2.later hbV3
    have R5V3 : XAt (V2.alloc (.cells (xcells noX) 58)) V2.heap.size noX := XAt.new V2 noX
    have p5 : w.heap.size ≤ V2.heap.size := OV2.below.size
    have n5 := lt_of_block OV2.one
    have m5 := lt_of_block OV2.two
    refine wpOp_make (v := .pointer (some ⟨V2.heap.size, 0, none⟩)) (w' := V2.alloc (.cells (xcells noX) 58)) rfl rfl (by kernel_rfl) ⟨OV3, ?_⟩
    generalize V2.heap.size = g5 at *
    generalize V2.alloc (.cells (xcells noX) 58) = V3 at *
    refine wpAnyH_all (rs := [5]) (by kernel_rfl) (by simp) (fun i hi => ?_)
    obtain rfl := List.mem_singleton.1 hi
    have hbV4 : Below V3.heap.size V3 (V3.alloc (.cells (xcells noX) 58)) := (Below.refl _ _).alloc (Nat.le_refl _) _
    have OV4 := OV3.later hbV4
    have R6V4 : XAt (V3.alloc (.cells (xcells noX) 58)) V3.heap.size noX := XAt.new V3 noX
    have p6 : w.heap.size ≤ V3.heap.size := OV3.below.size
    have n6 := lt_of_block OV3.one
    have m6 := lt_of_block OV3.two
    have ne : g5 < V3.heap.size := R5V3.lt
    have R5V4 := R5V3.later hbV4
    refine wpOp_make (v := .pointer (some ⟨V3.heap.size, 0, none⟩)) (w' := V3.alloc (.cells (xcells noX) 58)) rfl rfl (by kernel_rfl) ⟨OV4, ?_⟩
    generalize V3.heap.size = g6 at *
    generalize V3.alloc (.cells (xcells noX) 58) = V4 at *
    have OL := OV4
    have R5L := R5V4
    have R6L := R6V4
    generalize V4 = VL at *
    rotate_left
    have hbV5 : Below V2.heap.size V2 (V2.alloc (.cells (xcells noX) 58)) := (Below.refl _ _).alloc (Nat.le_refl _) _
    have OV5 := OV2.later hbV5
    have R6V5 : XAt (V2.alloc (.cells (xcells noX) 58)) V2.heap.size noX := XAt.new V2 noX
    have p6 : w.heap.size ≤ V2.heap.size := OV2.below.size
    have n6 := lt_of_block OV2.one
    have m6 := lt_of_block OV2.two
    refine wpOp_make (v := .pointer (some ⟨V2.heap.size, 0, none⟩)) (w' := V2.alloc (.cells (xcells noX) 58)) rfl rfl (by kernel_rfl) ⟨OV5, ?_⟩
    generalize V2.heap.size = g6 at *
    generalize V2.alloc (.cells (xcells noX) 58) = V5 at *
    refine wpAnyH_all (rs := [4]) (by kernel_rfl) (by simp) (fun i hi => ?_)
    obtain rfl := List.mem_singleton.1 hi
    have hbV6 : Below V5.heap.size V5 (V5.alloc (.cells (xcells noX) 58)) := (Below.refl _ _).alloc (Nat.le_refl _) _
    have OV6 := OV5.later hbV6
    have R5V6 : XAt (V5.alloc (.cells (xcells noX) 58)) V5.heap.size noX := XAt.new V5 noX
    have p5 : w.heap.size ≤ V5.heap.size := OV5.below.size
    have n5 := lt_of_block OV5.one
    have m5 := lt_of_block OV5.two
    have ne : g6 < V5.heap.size := R6V5.lt
    have R6V6 := R6V5.later hbV6
    refine wpOp_make (v := .pointer (some ⟨V5.heap.size, 0, none⟩)) (w' := V5.alloc (.cells (xcells noX) 58)) rfl rfl (by kernel_rfl) ⟨OV6, ?_⟩
    generalize V5.heap.size = g5 at *
    generalize V5.alloc (.cells (xcells noX) 58) = V6 at *
    have OL := OV6
    have R5L := R5V6
    have R6L := R6V6
    generalize V6 = VL at *
    rotate_left
    have hbV7 : Below V1.heap.size V1 (V1.alloc (.cells (xcells noX) 58)) := (Below.refl _ _).alloc (Nat.le_refl _) _
    have OV7 := OV1.later hbV7
    have R5V7 : XAt (V1.alloc (.cells (xcells noX) 58)) V1.heap.size noX := XAt.new V1 noX
    have p5 : w.heap.size ≤ V1.heap.size := OV1.below.size
    have n5 := lt_of_block OV1.one
    have m5 := lt_of_block OV1.two
    refine wpOp_make (v := .pointer (some ⟨V1.heap.size, 0, none⟩)) (w' := V1.alloc (.cells (xcells noX) 58)) rfl rfl (by kernel_rfl) ⟨OV7, ?_⟩
    generalize V1.heap.size = g5 at *
    generalize V1.alloc (.cells (xcells noX) 58) = V7 at *
    refine wpAnyH_all (rs := [3, 5]) (by kernel_rfl) (by simp) (fun i hi => ?_)
    simp only [List.mem_cons, List.not_mem_nil, or_false] at hi
    rcases hi with rfl | rfl
    refine wpOp_into (f := 38) (args := #[.agg #[.string a', .string b', .int .i64 st', .string c', .int .i64 mi', .slice fa' fl' fc', .slice ba' bl' bc']]) rfl rfl (by kernel_rfl) ((cR.out _ OV7.below).mono ?_)
    rintro e V8 ⟨rfl, hbV8⟩
    have OV8 := OV7.later hbV8
    refine ⟨_, rfl, OV8, ?_⟩
    have R5V8 := R5V7.later hbV8
    refine wpAnyH_all (rs := [5]) (by kernel_rfl) (by simp) (fun i hi => ?_)
    obtain rfl := List.mem_singleton.1 hi
    have hbV9 : Below V8.heap.size V8 (V8.alloc (.cells (xcells noX) 58)) := (Below.refl _ _).alloc (Nat.le_refl _) _
    have OV9 := OV8.later hbV9
    have R6V9 : XAt (V8.alloc (.cells (xcells noX) 58)) V8.heap.size noX := XAt.new V8 noX
    have p6 : w.heap.size ≤ V8.heap.size := OV8.below.size
    have n6 := lt_of_block OV8.one
    have m6 := lt_of_block OV8.two
    have ne : g5 < V8.heap.size := R5V8.lt
    have R5V9 := R5V8.later hbV9
    refine wpOp_make (v := .pointer (some ⟨V8.heap.size, 0, none⟩)) (w' := V8.alloc (.cells (xcells noX) 58)) rfl rfl (by kernel_rfl) ⟨OV9, ?_⟩
    generalize V8.heap.size = g6 at *
    generalize V8.alloc (.cells (xcells noX) 58) = V9 at *
    have OL := OV9
    have R5L := R5V9
    have R6L := R6V9
    generalize V9 = VL at *
    rotate_left
    have hbV10 : Below V7.heap.size V7 (V7.alloc (.cells (xcells noX) 58)) := (Below.refl _ _).alloc (Nat.le_refl _) _
    have OV10 := OV7.later hbV10
    have R6V10 : XAt (V7.alloc (.cells (xcells noX) 58)) V7.heap.size noX := XAt.new V7 noX
    have p6 : w.heap.size ≤ V7.heap.size := OV7.below.size
    have n6 := lt_of_block OV7.one
    have m6 := lt_of_block OV7.two
    have ne : g5 < V7.heap.size := R5V7.lt
    have R5V10 := R5V7.later hbV10
    refine wpOp_make (v := .pointer (some ⟨V7.heap.size, 0, none⟩)) (w' := V7.alloc (.cells (xcells noX) 58)) rfl rfl (by kernel_rfl) ⟨OV10, ?_⟩
    generalize V7.heap.size = g6 at *
    generalize V7.alloc (.cells (xcells noX) 58) = V10 at *
    refine wpAnyH_all (rs := [3]) (by kernel_rfl) (by simp) (fun i hi => ?_)
    obtain rfl := List.mem_singleton.1 hi
    refine wpOp_into (f := 38) (args := #[.agg #[.string a', .string b', .int .i64 st', .string c', .int .i64 mi', .slice fa' fl' fc', .slice ba' bl' bc']]) rfl rfl (by kernel_rfl) ((cR.out _ OV10.below).mono ?_)
    rintro e V11 ⟨rfl, hbV11⟩
    have OV11 := OV10.later hbV11
    refine ⟨_, rfl, OV11, ?_⟩
    have R5V11 := R5V10.later hbV11
    have R6V11 := R6V10.later hbV11
    have OL := OV11
    have R5L := R5V11
    have R6L := R6V11
    generalize V11 = VL at *
    rotate_left
    have hbV12 : Below V1.heap.size V1 (V1.alloc (.cells (xcells noX) 58)) := (Below.refl _ _).alloc (Nat.le_refl _) _
    have OV12 := OV1.later hbV12
    have R6V12 : XAt (V1.alloc (.cells (xcells noX) 58)) V1.heap.size noX := XAt.new V1 noX
    have p6 : w.heap.size ≤ V1.heap.size := OV1.below.size
    have n6 := lt_of_block OV1.one
    have m6 := lt_of_block OV1.two
    refine wpOp_make (v := .pointer (some ⟨V1.heap.size, 0, none⟩)) (w' := V1.alloc (.cells (xcells noX) 58)) rfl rfl (by kernel_rfl) ⟨OV12, ?_⟩
    generalize V1.heap.size = g6 at *
    generalize V1.alloc (.cells (xcells noX) 58) = V12 at *
    refine wpAnyH_all (rs := [3, 4]) (by kernel_rfl) (by simp) (fun i hi => ?_)
    simp only [List.mem_cons, List.not_mem_nil, or_false] at hi
    rcases hi with rfl | rfl
    refine wpOp_into (f := 38) (args := #[.agg #[.string a', .string b', .int .i64 st', .string c', .int .i64 mi', .slice fa' fl' fc', .slice ba' bl' bc']]) rfl rfl (by kernel_rfl) ((cR.out _ OV12.below).mono ?_)
    rintro e V13 ⟨rfl, hbV13⟩
    have OV13 := OV12.later hbV13
    refine ⟨_, rfl, OV13, ?_⟩
    have R6V13 := R6V12.later hbV13
    refine wpAnyH_all (rs := [4]) (by kernel_rfl) (by simp) (fun i hi => ?_)
    obtain rfl := List.mem_singleton.1 hi
    have hbV14 : Below V13.heap.size V13 (V13.alloc (.cells (xcells noX) 58)) := (Below.refl _ _).alloc (Nat.le_refl _) _
    have OV14 := OV13.later hbV14
    have R5V14 : XAt (V13.alloc (.cells (xcells noX) 58)) V13.heap.size noX := XAt.new V13 noX
    have p5 : w.heap.size ≤ V13.heap.size := OV13.below.size
    have n5 := lt_of_block OV13.one
    have m5 := lt_of_block OV13.two
    have ne : g6 < V13.heap.size := R6V13.lt
    have R6V14 := R6V13.later hbV14
    refine wpOp_make (v := .pointer (some ⟨V13.heap.size, 0, none⟩)) (w' := V13.alloc (.cells (xcells noX) 58)) rfl rfl (by kernel_rfl) ⟨OV14, ?_⟩
    generalize V13.heap.size = g5 at *
    generalize V13.alloc (.cells (xcells noX) 58) = V14 at *
    have OL := OV14
    have R5L := R5V14
    have R6L := R6V14
    generalize V14 = VL at *
    rotate_left
    have hbV15 : Below V12.heap.size V12 (V12.alloc (.cells (xcells noX) 58)) := (Below.refl _ _).alloc (Nat.le_refl _) _
    have OV15 := OV12.later hbV15
    have R5V15 : XAt (V12.alloc (.cells (xcells noX) 58)) V12.heap.size noX := XAt.new V12 noX
    have p5 : w.heap.size ≤ V12.heap.size := OV12.below.size
    have n5 := lt_of_block OV12.one
    have m5 := lt_of_block OV12.two
    have ne : g6 < V12.heap.size := R6V12.lt
    have R6V15 := R6V12.later hbV15
    refine wpOp_make (v := .pointer (some ⟨V12.heap.size, 0, none⟩)) (w' := V12.alloc (.cells (xcells noX) 58)) rfl rfl (by kernel_rfl) ⟨OV15, ?_⟩
    generalize V12.heap.size = g5 at *
    generalize V12.alloc (.cells (xcells noX) 58) = V15 at *
    refine wpAnyH_all (rs := [3]) (by kernel_rfl) (by simp) (fun i hi => ?_)
    obtain rfl := List.mem_singleton.1 hi
    refine wpOp_into (f := 38) (args := #[.agg #[.string a', .string b', .int .i64 st', .string c', .int .i64 mi', .slice fa' fl' fc', .slice ba' bl' bc']]) rfl rfl (by kernel_rfl) ((cR.out _ OV15.below).mono ?_)
    rintro e V16 ⟨rfl, hbV16⟩
    have OV16 := OV15.later hbV16
    refine ⟨_, rfl, OV16, ?_⟩
    have R5V16 := R5V15.later hbV16
    have R6V16 := R6V15.later hbV16
    have OL := OV16
    have R5L := R5V16
    have R6L := R6V16
    generalize V16 = VL at *
    rotate_left
    have hbV17 : Below V0.heap.size V0 (V0.alloc (.cells (xcells noX) 58)) := (Below.refl _ _).alloc (Nat.le_refl _) _
    have OV17 := OV0.later hbV17
    have R5V17 : XAt (V0.alloc (.cells (xcells noX) 58)) V0.heap.size noX := XAt.new V0 noX
    have p5 : w.heap.size ≤ V0.heap.size := OV0.below.size
    have n5 := lt_of_block OV0.one
    have m5 := lt_of_block OV0.two
    refine wpOp_make (v := .pointer (some ⟨V0.heap.size, 0, none⟩)) (w' := V0.alloc (.cells (xcells noX) 58)) rfl rfl (by kernel_rfl) ⟨OV17, ?_⟩
    generalize V0.heap.size = g5 at *
    generalize V0.alloc (.cells (xcells noX) 58) = V17 at *
    refine wpAnyH_all (rs := [1, 5]) (by kernel_rfl) (by simp) (fun i hi => ?_)
    simp only [List.mem_cons, List.not_mem_nil, or_false] at hi
    rcases hi with rfl | rfl
    refine wpOp_into (f := 38) (args := #[.agg #[.string a, .string b, .int .i64 st, .string c, .int .i64 mi, .slice fa fl fc, .slice ba bl bc]]) rfl rfl (by kernel_rfl) ((cQ.out _ OV17.below).mono ?_)
    rintro e V18 ⟨rfl, hbV18⟩
    have OV18 := OV17.later hbV18
    refine ⟨_, rfl, OV18, ?_⟩
    have R5V18 := R5V17.later hbV18
    refine wpAnyH_all (rs := [3, 5]) (by kernel_rfl) (by simp) (fun i hi => ?_)
    simp only [List.mem_cons, List.not_mem_nil, or_false] at hi
    rcases hi with rfl | rfl
    refine wpOp_into (f := 38) (args := #[.agg #[.string a', .string b', .int .i64 st', .string c', .int .i64 mi', .slice fa' fl' fc', .slice ba' bl' bc']]) rfl rfl (by kernel_rfl) ((cR.out _ OV18.below).mono ?_)
    rintro e V19 ⟨rfl, hbV19⟩
    have OV19 := OV18.later hbV19
    refine ⟨_, rfl, OV19, ?_⟩
    have R5V19 := R5V18.later hbV19
    refine wpAnyH_all (rs := [5]) (by kernel_rfl) (by simp) (fun i hi => ?_)
    obtain rfl := List.mem_singleton.1 hi
    have hbV20 : Below V19.heap.size V19 (V19.alloc (.cells (xcells noX) 58)) := (Below.refl _ _).alloc (Nat.le_refl _) _
    have OV20 := OV19.later hbV20
    have R6V20 : XAt (V19.alloc (.cells (xcells noX) 58)) V19.heap.size noX := XAt.new V19 noX
    have p6 : w.heap.size ≤ V19.heap.size := OV19.below.size
    have n6 := lt_of_block OV19.one
    have m6 := lt_of_block OV19.two
    have ne : g5 < V19.heap.size := R5V19.lt
    have R5V20 := R5V19.later hbV20
    refine wpOp_make (v := .pointer (some ⟨V19.heap.size, 0, none⟩)) (w' := V19.alloc (.cells (xcells noX) 58)) rfl rfl (by kernel_rfl) ⟨OV20, ?_⟩
    generalize V19.heap.size = g6 at *
    generalize V19.alloc (.cells (xcells noX) 58) = V20 at *
    have OL := OV20
    have R5L := R5V20
    have R6L := R6V20
    generalize V20 = VL at *
    rotate_left
    have hbV21 : Below V18.heap.size V18 (V18.alloc (.cells (xcells noX) 58)) := (Below.refl _ _).alloc (Nat.le_refl _) _
    have OV21 := OV18.later hbV21
    have R6V21 : XAt (V18.alloc (.cells (xcells noX) 58)) V18.heap.size noX := XAt.new V18 noX
    have p6 : w.heap.size ≤ V18.heap.size := OV18.below.size
    have n6 := lt_of_block OV18.one
    have m6 := lt_of_block OV18.two
    have ne : g5 < V18.heap.size := R5V18.lt
    have R5V21 := R5V18.later hbV21
    refine wpOp_make (v := .pointer (some ⟨V18.heap.size, 0, none⟩)) (w' := V18.alloc (.cells (xcells noX) 58)) rfl rfl (by kernel_rfl) ⟨OV21, ?_⟩
    generalize V18.heap.size = g6 at *
    generalize V18.alloc (.cells (xcells noX) 58) = V21 at *
    refine wpAnyH_all (rs := [3]) (by kernel_rfl) (by simp) (fun i hi => ?_)
    obtain rfl := List.mem_singleton.1 hi
    refine wpOp_into (f := 38) (args := #[.agg #[.string a', .string b', .int .i64 st', .string c', .int .i64 mi', .slice fa' fl' fc', .slice ba' bl' bc']]) rfl rfl (by kernel_rfl) ((cR.out _ OV21.below).mono ?_)
    rintro e V22 ⟨rfl, hbV22⟩
    have OV22 := OV21.later hbV22
    refine ⟨_, rfl, OV22, ?_⟩
    have R5V22 := R5V21.later hbV22
    have R6V22 := R6V21.later hbV22
    have OL := OV22
    have R5L := R5V22
    have R6L := R6V22
    generalize V22 = VL at *
    rotate_left
    have hbV23 : Below V17.heap.size V17 (V17.alloc (.cells (xcells noX) 58)) := (Below.refl _ _).alloc (Nat.le_refl _) _
    have OV23 := OV17.later hbV23
    have R6V23 : XAt (V17.alloc (.cells (xcells noX) 58)) V17.heap.size noX := XAt.new V17 noX
    have p6 : w.heap.size ≤ V17.heap.size := OV17.below.size
    have n6 := lt_of_block OV17.one
    have m6 := lt_of_block OV17.two
    have ne : g5 < V17.heap.size := R5V17.lt
    have R5V23 := R5V17.later hbV23
    refine wpOp_make (v := .pointer (some ⟨V17.heap.size, 0, none⟩)) (w' := V17.alloc (.cells (xcells noX) 58)) rfl rfl (by kernel_rfl) ⟨OV23, ?_⟩
    generalize V17.heap.size = g6 at *
    generalize V17.alloc (.cells (xcells noX) 58) = V23 at *
    refine wpAnyH_all (rs := [1]) (by kernel_rfl) (by simp) (fun i hi => ?_)
    obtain rfl := List.mem_singleton.1 hi
    refine wpOp_into (f := 38) (args := #[.agg #[.string a, .string b, .int .i64 st, .string c, .int .i64 mi, .slice fa fl fc, .slice ba bl bc]]) rfl rfl (by kernel_rfl) ((cQ.out _ OV23.below).mono ?_)
    rintro e V24 ⟨rfl, hbV24⟩
    have OV24 := OV23.later hbV24
    refine ⟨_, rfl, OV24, ?_⟩
    have R5V24 := R5V23.later hbV24
    have R6V24 := R6V23.later hbV24
    refine wpAnyH_all (rs := [3]) (by kernel_rfl) (by simp) (fun i hi => ?_)
    obtain rfl := List.mem_singleton.1 hi
    refine wpOp_into (f := 38) (args := #[.agg #[.string a', .string b', .int .i64 st', .string c', .int .i64 mi', .slice fa' fl' fc', .slice ba' bl' bc']]) rfl rfl (by kernel_rfl) ((cR.out _ OV24.below).mono ?_)
    rintro e V25 ⟨rfl, hbV25⟩
    have OV25 := OV24.later hbV25
    refine ⟨_, rfl, OV25, ?_⟩
    have R5V25 := R5V24.later hbV25
    have R6V25 := R6V24.later hbV25
    have OL := OV25
    have R5L := R5V25
    have R6L := R6V25
    generalize V25 = VL at *
    rotate_left
    have hbV26 : Below V0.heap.size V0 (V0.alloc (.cells (xcells noX) 58)) := (Below.refl _ _).alloc (Nat.le_refl _) _
    have OV26 := OV0.later hbV26
    have R6V26 : XAt (V0.alloc (.cells (xcells noX) 58)) V0.heap.size noX := XAt.new V0 noX
    have p6 : w.heap.size ≤ V0.heap.size := OV0.below.size
    have n6 := lt_of_block OV0.one
    have m6 := lt_of_block OV0.two
    refine wpOp_make (v := .pointer (some ⟨V0.heap.size, 0, none⟩)) (w' := V0.alloc (.cells (xcells noX) 58)) rfl rfl (by kernel_rfl) ⟨OV26, ?_⟩
    generalize V0.heap.size = g6 at *
    generalize V0.alloc (.cells (xcells noX) 58) = V26 at *
    refine wpAnyH_all (rs := [1, 4]) (by kernel_rfl) (by simp) (fun i hi => ?_)
    simp only [List.mem_cons, List.not_mem_nil, or_false] at hi
    rcases hi with rfl | rfl
    refine wpOp_into (f := 38) (args := #[.agg #[.string a, .string b, .int .i64 st, .string c, .int .i64 mi, .slice fa fl fc, .slice ba bl bc]]) rfl rfl (by kernel_rfl) ((cQ.out _ OV26.below).mono ?_)
    rintro e V27 ⟨rfl, hbV27⟩
    have OV27 := OV26.later hbV27
    refine ⟨_, rfl, OV27, ?_⟩
    have R6V27 := R6V26.later hbV27
    refine wpAnyH_all (rs := [3, 4]) (by kernel_rfl) (by simp) (fun i hi => ?_)
    simp only [List.mem_cons, List.not_mem_nil, or_false] at hi
    rcases hi with rfl | rfl
    refine wpOp_into (f := 38) (args := #[.agg #[.string a', .string b', .int .i64 st', .string c', .int .i64 mi', .slice fa' fl' fc', .slice ba' bl' bc']]) rfl rfl (by kernel_rfl) ((cR.out _ OV27.below).mono ?_)
    rintro e V28 ⟨rfl, hbV28⟩
    have OV28 := OV27.later hbV28
    refine ⟨_, rfl, OV28, ?_⟩
    have R6V28 := R6V27.later hbV28
    refine wpAnyH_all (rs := [4]) (by kernel_rfl) (by simp) (fun i hi => ?_)
    obtain rfl := List.mem_singleton.1 hi
    have hbV29 : Below V28.heap.size V28 (V28.alloc (.cells (xcells noX) 58)) := (Below.refl _ _).alloc (Nat.le_refl _) _
    have OV29 := OV28.later hbV29
    have R5V29 : XAt (V28.alloc (.cells (xcells noX) 58)) V28.heap.size noX := XAt.new V28 noX
    have p5 : w.heap.size ≤ V28.heap.size := OV28.below.size
    have n5 := lt_of_block OV28.one
    have m5 := lt_of_block OV28.two
    have ne : g6 < V28.heap.size := R6V28.lt
    have R6V29 := R6V28.later hbV29
    refine wpOp_make (v := .pointer (some ⟨V28.heap.size, 0, none⟩)) (w' := V28.alloc (.cells (xcells noX) 58)) rfl rfl (by kernel_rfl) ⟨OV29, ?_⟩
    generalize V28.heap.size = g5 at *
    generalize V28.alloc (.cells (xcells noX) 58) = V29 at *
    have OL := OV29
    have R5L := R5V29
    have R6L := R6V29
    generalize V29 = VL at *
    rotate_left
    have hbV30 : Below V27.heap.size V27 (V27.alloc (.cells (xcells noX) 58)) := (Below.refl _ _).alloc (Nat.le_refl _) _
    have OV30 := OV27.later hbV30
    have R5V30 : XAt (V27.alloc (.cells (xcells noX) 58)) V27.heap.size noX := XAt.new V27 noX
    have p5 : w.heap.size ≤ V27.heap.size := OV27.below.size
    have n5 := lt_of_block OV27.one
    have m5 := lt_of_block OV27.two
    have ne : g6 < V27.heap.size := R6V27.lt
    have R6V30 := R6V27.later hbV30
    refine wpOp_make (v := .pointer (some ⟨V27.heap.size, 0, none⟩)) (w' := V27.alloc (.cells (xcells noX) 58)) rfl rfl (by kernel_rfl) ⟨OV30, ?_⟩
    generalize V27.heap.size = g5 at *
    generalize V27.alloc (.cells (xcells noX) 58) = V30 at *
    refine wpAnyH_all (rs := [3]) (by kernel_rfl) (by simp) (fun i hi => ?_)
    obtain rfl := List.mem_singleton.1 hi
    refine wpOp_into (f := 38) (args := #[.agg #[.string a', .string b', .int .i64 st', .string c', .int .i64 mi', .slice fa' fl' fc', .slice ba' bl' bc']]) rfl rfl (by kernel_rfl) ((cR.out _ OV30.below).mono ?_)
    rintro e V31 ⟨rfl, hbV31⟩
    have OV31 := OV30.later hbV31
    refine ⟨_, rfl, OV31, ?_⟩
    have R5V31 := R5V30.later hbV31
    have R6V31 := R6V30.later hbV31
    have OL := OV31
    have R5L := R5V31
    have R6L := R6V31
    generalize V31 = VL at *
    rotate_left
    have hbV32 : Below V26.heap.size V26 (V26.alloc (.cells (xcells noX) 58)) := (Below.refl _ _).alloc (Nat.le_refl _) _
    have OV32 := OV26.later hbV32
    have R5V32 : XAt (V26.alloc (.cells (xcells noX) 58)) V26.heap.size noX := XAt.new V26 noX
    have p5 : w.heap.size ≤ V26.heap.size := OV26.below.size
    have n5 := lt_of_block OV26.one
    have m5 := lt_of_block OV26.two
    have ne : g6 < V26.heap.size := R6V26.lt
    have R6V32 := R6V26.later hbV32
    refine wpOp_make (v := .pointer (some ⟨V26.heap.size, 0, none⟩)) (w' := V26.alloc (.cells (xcells noX) 58)) rfl rfl (by kernel_rfl) ⟨OV32, ?_⟩
    generalize V26.heap.size = g5 at *
    generalize V26.alloc (.cells (xcells noX) 58) = V32 at *
    refine wpAnyH_all (rs := [1]) (by kernel_rfl) (by simp) (fun i hi => ?_)
    obtain rfl := List.mem_singleton.1 hi
    refine wpOp_into (f := 38) (args := #[.agg #[.string a, .string b, .int .i64 st, .string c, .int .i64 mi, .slice fa fl fc, .slice ba bl bc]]) rfl rfl (by kernel_rfl) ((cQ.out _ OV32.below).mono ?_)
    rintro e V33 ⟨rfl, hbV33⟩
    have OV33 := OV32.later hbV33
    refine ⟨_, rfl, OV33, ?_⟩
    have R5V33 := R5V32.later hbV33
    have R6V33 := R6V32.later hbV33
    refine wpAnyH_all (rs := [3]) (by kernel_rfl) (by simp) (fun i hi => ?_)
    obtain rfl := List.mem_singleton.1 hi
    refine wpOp_into (f := 38) (args := #[.agg #[.string a', .string b', .int .i64 st', .string c', .int .i64 mi', .slice fa' fl' fc', .slice ba' bl' bc']]) rfl rfl (by kernel_rfl) ((cR.out _ OV33.below).mono ?_)
    rintro e V34 ⟨rfl, hbV34⟩
    have OV34 := OV33.later hbV34
    refine ⟨_, rfl, OV34, ?_⟩
    have R5V34 := R5V33.later hbV34
    have R6V34 := R6V33.later hbV34
    have OL := OV34
    have R5L := R5V34
    have R6L := R6V34
    generalize V34 = VL at *
    rotate_left
    all_goals
      refine wpAnyH_all (rs := [6]) (by kernel_rfl) (by simp) (fun i hi => ?_)
      obtain rfl := List.mem_singleton.1 hi
      refine wpOp_known (.store 58 (.tmp 5) (.tmp 12)) none (by kernel_rfl) (fun o e1 e2 => wp_store_row 58 _ _ e1 g5 (xcells q) (by kernel_rfl) (by kernel_rfl) 58 (xcells noX) R5L (x_info _) rfl h1 ?_)
      rw [e2]
      have OE := OL.row p5 (by omega) (by omega) (xcells q)
      have RE := R5L.row q
      have RF : XAt (VL.setRow g5 (xcells q)) g6 noX := heap_row R6L (by omega) _
      refine ⟨OE, ?_⟩
      generalize VL.setRow g5 (xcells q) = VE at *
      refine wpAnyH_all (rs := [7]) (by kernel_rfl) (by simp) (fun i hi => ?_)
      obtain rfl := List.mem_singleton.1 hi
      refine wpOp_known (.store 58 (.tmp 6) (.tmp 14)) none (by kernel_rfl) (fun o e1 e2 => wp_store_row 58 _ _ e1 g6 (xcells r) (by kernel_rfl) (by kernel_rfl) 58 (xcells noX) RF (x_info _) rfl h2 ?_)
      rw [e2]
      have OG := OE.row p6 (by omega) (by omega) (xcells r)
      have RG := RF.row r
      have RH : XAt (VE.setRow g6 (xcells r)) g5 q := heap_row RE (by omega) _
      refine ⟨OG, ?_⟩
      refine wpAnyH_done (P := Tryz.prog) (by kernel_rfl) ?_ 0
      generalize VE.setRow g6 (xcells r) = VG at *
      refine NoPanic.normal ?_
      go_simp
      go_wp2_with fail
      go_meet
      case rel => exact ⟨_, g5, g6, rfl, rfl, rfl, RH, RG, by omega, OG.below⟩
  case rest =>
    obtain ⟨w3, g5, g6, rfl, rfl, rfl, hq, hr, hne, hb3⟩ := hcut
    clear cQ cR h1 h2 hne HGA
    have hiq := x_info q
    have hir := x_info r
    unfold XAt at hq hr cC
    unfold xv at *
    generalize xcells q = cq at *
    generalize xcells r = cr at *
    have j2 := (row_at hr 2).trans HR2.out
    have k0 := (row_at hq 0).trans HQ0.out
    clear HR2
    by_cases hst : st' = 200
    case neg =>
      have hsb : (st' == 200) = false := beq_eq_false_iff_ne.2 hst
      have hsn : (st' != 200) = true := by simp [bne, hsb]
      have HR := Lib.hid (E1.out hst)
      clear cH cI cC cA cB E1 E2 E3 E4 E5 E6 HRX
      go_wp2_with fail
      go_ret
      exact ⟨by rw [HR.out]; rfl, hb3⟩
    have HST := Lib.hid hst
    subst hst
    by_cases hm : a = str Rl.mGet
    case pos =>
      have hm' : a.data.toList = Rl.mGet ∨ a.data.toList = Rl.mHead := .inl (by rw [hm, str_list])
      subst hm
      replace k0 : w3.cell? ⟨g5, 0, none⟩ = some (.string ⟨#[71, 69, 84]⟩) := k0
      have HM := Lib.hid hm'
      have hL := SBuf.lit_p w3 [Rl.kINM] #[.string ⟨#[105, 102, 45, 110, 111, 110, 101, 45, 109, 97, 116, 99, 104]⟩] rfl (by decide)
      have hb3' := hb3.trans (hL.2.mono hb3.size)
      have cH1 := cH _ _ hb3' hL.sin
      change Calls _ _ #[.agg cq, .slice (some ⟨w3.heap.size, 0, none⟩) 1 1] _ _ at cH1
      have hq3' := blk_keep hq hL.2
      have hr3' := blk_keep hr hL.2
      clear cH hL E1 E2
      go_wp2_with (refine wpList_load_row rfl 58 _ rfl g5 rfl 58 cq (0, 0) _ hq Tryz.underlying58 rfl hiq ?_)
      refine cH1.mono ?_
      rintro e w4 ⟨rfl, hx4⟩
      have hb4 := hb3'.trans (hx4.mono hb3'.size)
      have hq4 := blk_keep hq3' hx4
      have hr4 := blk_keep hr3' hx4
      clear cH1 hx4 hb3' hq3' hr3' hq hr hb3 k0 j2
      cases HI with
      | true =>
        have HR := Lib.hid (E3.out HST.out HM.out (by first | rfl | trivial))
        have cI1 := cI.out w4 hb4
        clear E3 E4 E5 E6 cA cB cI
        go_wp2_with (refine wpList_load_row rfl 58 _ rfl g5 rfl 58 cq (0, 0) _ hq4 Tryz.underlying58 rfl hiq ?_)
        refine cI1.mono ?_
        rintro e w5 ⟨⟨v5, rfl, hB5⟩, hx5⟩
        have hb5 := hb4.trans (hx5.mono hb4.size)
        have hq5 := blk_keep hq4 hx5
        have hr5 := blk_keep hr4 hx5
        clear hx5
        have cC1 := cC.out g6 v5 w5 hb5 hr5 hB5.sin
        obtain ⟨a5, e5, rfl, hy5⟩ := hB5.sin
        clear hy5 hB5 cC cI1 hq4 hr4
        go_wp2_with fail
        refine cC1.mono ?_
        rintro e w6 ⟨rfl, hx6⟩
        go_wp2_with fail
        go_ret
        exact ⟨by rw [HR.out]; rfl, hb5.trans (hx6.mono hb5.size)⟩
      | false =>
        have cA1 := cA.out w4 hb4
        clear E3 cA cC cI
        cases M1 with
        | none =>
          have HR := Lib.hid (E4.out HST.out HM.out (by first | rfl | trivial) (by first | rfl | trivial))
          rw [show mo none = .tuple #[.int .i64 0, .bool false] from rfl] at cA1
          clear E4 E5 E6
          go_wp2_with (refine wpList_load_row rfl 58 _ rfl g5 rfl 58 cq (0, 0) _ hq4 Tryz.underlying58 rfl hiq ?_)
          refine cA1.mono ?_
          rintro e w5 ⟨rfl, hx5⟩
          have hb5 := hb4.trans (hx5.mono hb4.size)
          have hq5 := blk_keep hq4 hx5
          have hr5 := blk_keep hr4 hx5
          clear hx5
          have cB1 := cB.out w5 hb5
          clear cB cA1 hq4 hr4
          cases M2 with
          | none =>
            rw [show mo none = .tuple #[.int .i64 0, .bool false] from rfl] at cB1
            go_wp2_with (refine wpList_load_row rfl 58 _ rfl g6 rfl 58 cr (0, 0) _ hr5 Tryz.underlying58 rfl hir ?_)
            refine cB1.mono ?_
            rintro e w6 ⟨rfl, hx6⟩
            go_wp2_with fail
            go_ret
            exact ⟨by rw [HR.out]; rfl, hb5.trans (hx6.mono hb5.size)⟩
          | some y =>
            rw [show mo (some y) = .tuple #[.int .i64 y, .bool true] from rfl] at cB1
            go_wp2_with (refine wpList_load_row rfl 58 _ rfl g6 rfl 58 cr (0, 0) _ hr5 Tryz.underlying58 rfl hir ?_)
            refine cB1.mono ?_
            rintro e w6 ⟨rfl, hx6⟩
            go_wp2_with fail
            go_ret
            exact ⟨by rw [HR.out]; rfl, hb5.trans (hx6.mono hb5.size)⟩
        | some x =>
          rw [show mo (some x) = .tuple #[.int .i64 x, .bool true] from rfl] at cA1
          clear E4
          go_wp2_with (refine wpList_load_row rfl 58 _ rfl g5 rfl 58 cq (0, 0) _ hq4 Tryz.underlying58 rfl hiq ?_)
          refine cA1.mono ?_
          rintro e w5 ⟨rfl, hx5⟩
          have hb5 := hb4.trans (hx5.mono hb4.size)
          have hq5 := blk_keep hq4 hx5
          have hr5 := blk_keep hr4 hx5
          clear hx5
          have cB1 := cB.out w5 hb5
          clear cB cA1 hq4 hr4
          cases M2 with
          | none =>
            have HR := Lib.hid (E5.out HST.out HM.out (by first | rfl | trivial) (by first | rfl | trivial))
            clear E5 E6
            rw [show mo none = .tuple #[.int .i64 0, .bool false] from rfl] at cB1
            go_wp2_with (refine wpList_load_row rfl 58 _ rfl g6 rfl 58 cr (0, 0) _ hr5 Tryz.underlying58 rfl hir ?_)
            refine cB1.mono ?_
            rintro e w6 ⟨rfl, hx6⟩
            go_wp2_with fail
            go_ret
            exact ⟨by rw [HR.out]; rfl, hb5.trans (hx6.mono hb5.size)⟩
          | some y =>
            have HR := Lib.hid (E6.out x y HST.out HM.out (by first | rfl | trivial) (by first | rfl | trivial) (by first | rfl | trivial))
            clear E5 E6
            rw [show mo (some y) = .tuple #[.int .i64 y, .bool true] from rfl] at cB1
            go_wp2_with (refine wpList_load_row rfl 58 _ rfl g6 rfl 58 cr (0, 0) _ hr5 Tryz.underlying58 rfl hir ?_)
            refine cB1.mono ?_
            rintro e w6 ⟨rfl, hx6⟩
            go_wp2_with fail
            go_ret
            exact ⟨by rw [HR.out]; rfl, hb5.trans (hx6.mono hb5.size)⟩
    by_cases hm2 : a = str Rl.mHead
    case pos =>
      have hm' : a.data.toList = Rl.mGet ∨ a.data.toList = Rl.mHead := .inr (by rw [hm2, str_list])
      subst hm2
      replace k0 : w3.cell? ⟨g5, 0, none⟩ = some (.string ⟨#[72, 69, 65, 68]⟩) := k0
      have HM := Lib.hid hm'
      have hL := SBuf.lit_p w3 [Rl.kINM] #[.string ⟨#[105, 102, 45, 110, 111, 110, 101, 45, 109, 97, 116, 99, 104]⟩] rfl (by decide)
      have hb3' := hb3.trans (hL.2.mono hb3.size)
      have cH1 := cH _ _ hb3' hL.sin
      change Calls _ _ #[.agg cq, .slice (some ⟨w3.heap.size, 0, none⟩) 1 1] _ _ at cH1
      have hq3' := blk_keep hq hL.2
      have hr3' := blk_keep hr hL.2
      clear cH hL E1 E2
      go_wp2_with (refine wpList_load_row rfl 58 _ rfl g5 rfl 58 cq (0, 0) _ hq Tryz.underlying58 rfl hiq ?_)
      refine cH1.mono ?_
      rintro e w4 ⟨rfl, hx4⟩
      have hb4 := hb3'.trans (hx4.mono hb3'.size)
      have hq4 := blk_keep hq3' hx4
      have hr4 := blk_keep hr3' hx4
      clear cH1 hx4 hb3' hq3' hr3' hq hr hb3 k0 j2
      cases HI with
      | true =>
        have HR := Lib.hid (E3.out HST.out HM.out (by first | rfl | trivial))
        have cI1 := cI.out w4 hb4
        clear E3 E4 E5 E6 cA cB cI
        go_wp2_with (refine wpList_load_row rfl 58 _ rfl g5 rfl 58 cq (0, 0) _ hq4 Tryz.underlying58 rfl hiq ?_)
        refine cI1.mono ?_
        rintro e w5 ⟨⟨v5, rfl, hB5⟩, hx5⟩
        have hb5 := hb4.trans (hx5.mono hb4.size)
        have hq5 := blk_keep hq4 hx5
        have hr5 := blk_keep hr4 hx5
        clear hx5
        have cC1 := cC.out g6 v5 w5 hb5 hr5 hB5.sin
        obtain ⟨a5, e5, rfl, hy5⟩ := hB5.sin
        clear hy5 hB5 cC cI1 hq4 hr4
        go_wp2_with fail
        refine cC1.mono ?_
        rintro e w6 ⟨rfl, hx6⟩
        go_wp2_with fail
        go_ret
        exact ⟨by rw [HR.out]; rfl, hb5.trans (hx6.mono hb5.size)⟩
      | false =>
        have cA1 := cA.out w4 hb4
        clear E3 cA cC cI
        cases M1 with
        | none =>
          have HR := Lib.hid (E4.out HST.out HM.out (by first | rfl | trivial) (by first | rfl | trivial))
          rw [show mo none = .tuple #[.int .i64 0, .bool false] from rfl] at cA1
          clear E4 E5 E6
          go_wp2_with (refine wpList_load_row rfl 58 _ rfl g5 rfl 58 cq (0, 0) _ hq4 Tryz.underlying58 rfl hiq ?_)
          refine cA1.mono ?_
          rintro e w5 ⟨rfl, hx5⟩
          have hb5 := hb4.trans (hx5.mono hb4.size)
          have hq5 := blk_keep hq4 hx5
          have hr5 := blk_keep hr4 hx5
          clear hx5
          have cB1 := cB.out w5 hb5
          clear cB cA1 hq4 hr4
          cases M2 with
          | none =>
            rw [show mo none = .tuple #[.int .i64 0, .bool false] from rfl] at cB1
            go_wp2_with (refine wpList_load_row rfl 58 _ rfl g6 rfl 58 cr (0, 0) _ hr5 Tryz.underlying58 rfl hir ?_)
            refine cB1.mono ?_
            rintro e w6 ⟨rfl, hx6⟩
            go_wp2_with fail
            go_ret
            exact ⟨by rw [HR.out]; rfl, hb5.trans (hx6.mono hb5.size)⟩
          | some y =>
            rw [show mo (some y) = .tuple #[.int .i64 y, .bool true] from rfl] at cB1
            go_wp2_with (refine wpList_load_row rfl 58 _ rfl g6 rfl 58 cr (0, 0) _ hr5 Tryz.underlying58 rfl hir ?_)
            refine cB1.mono ?_
            rintro e w6 ⟨rfl, hx6⟩
            go_wp2_with fail
            go_ret
            exact ⟨by rw [HR.out]; rfl, hb5.trans (hx6.mono hb5.size)⟩
        | some x =>
          rw [show mo (some x) = .tuple #[.int .i64 x, .bool true] from rfl] at cA1
          clear E4
          go_wp2_with (refine wpList_load_row rfl 58 _ rfl g5 rfl 58 cq (0, 0) _ hq4 Tryz.underlying58 rfl hiq ?_)
          refine cA1.mono ?_
          rintro e w5 ⟨rfl, hx5⟩
          have hb5 := hb4.trans (hx5.mono hb4.size)
          have hq5 := blk_keep hq4 hx5
          have hr5 := blk_keep hr4 hx5
          clear hx5
          have cB1 := cB.out w5 hb5
          clear cB cA1 hq4 hr4
          cases M2 with
          | none =>
            have HR := Lib.hid (E5.out HST.out HM.out (by first | rfl | trivial) (by first | rfl | trivial))
            clear E5 E6
            rw [show mo none = .tuple #[.int .i64 0, .bool false] from rfl] at cB1
            go_wp2_with (refine wpList_load_row rfl 58 _ rfl g6 rfl 58 cr (0, 0) _ hr5 Tryz.underlying58 rfl hir ?_)
            refine cB1.mono ?_
            rintro e w6 ⟨rfl, hx6⟩
            go_wp2_with fail
            go_ret
            exact ⟨by rw [HR.out]; rfl, hb5.trans (hx6.mono hb5.size)⟩
          | some y =>
            have HR := Lib.hid (E6.out x y HST.out HM.out (by first | rfl | trivial) (by first | rfl | trivial) (by first | rfl | trivial))
            clear E5 E6
            rw [show mo (some y) = .tuple #[.int .i64 y, .bool true] from rfl] at cB1
            go_wp2_with (refine wpList_load_row rfl 58 _ rfl g6 rfl 58 cr (0, 0) _ hr5 Tryz.underlying58 rfl hir ?_)
            refine cB1.mono ?_
            rintro e w6 ⟨rfl, hx6⟩
            go_wp2_with fail
            go_ret
            exact ⟨by rw [HR.out]; rfl, hb5.trans (hx6.mono hb5.size)⟩
    have HR := Lib.hid (E2.out (fun e => hm (by rw [← str_of a, e])) (fun e => hm2 (by rw [← str_of a, e])))
    have n1 := arr_neP hm
    have n2 := arr_neP hm2
    rw [show Rl.mGet = [71, 69, 84] from rfl] at n1
    rw [show Rl.mHead = [72, 69, 65, 68] from rfl] at n2
    have f1 : (a.toList == [71, 69, 84]) = false := beq_eq_false_iff_ne.2 (fun e => by rw [e] at n1; simp at n1)
    have f2 : (a.toList == [72, 69, 65, 68]) = false := beq_eq_false_iff_ne.2 (fun e => by rw [e] at n2; simp at n2)
    clear cH cI cC cA cB E1 E2 E3 E4 E5 E6 HRX hm hm2
    go_wp2_with fail
    go_ret
    exact ⟨by rw [HR.out]; rfl, hb3⟩
end Go.Proofs.YtoanelobggledaaGreatDoor

