/- The plain mathematics of what may be kept, way by way; package rules, the program's side: may a response be kept? -/
import Derived.Test.YtoanelobggledaaGreatDoorVRpB
namespace Rl
section
variable {D : T → Option Int} {m : T} {qf : List Fld.F} {st : Int} {rf : List Fld.F}
theorem st1 (h : m ≠ mGet) : storable D m qf st rf = false := by unfold storable; rw [if_pos (.inl h)]
theorem st2 (h : has qf kRange = true) : storable D m qf st rf = false := by unfold storable; rw [if_pos (.inr (.inl h))]
theorem st3 (h : st < 200) : storable D m qf st rf = false := by unfold storable; rw [if_pos (.inr (.inr (.inl h)))]
theorem st4 (h : st = 206) : storable D m qf st rf = false := by unfold storable; rw [if_pos (.inr (.inr (.inr (.inl h))))]
theorem st5 (h : st = 304) : storable D m qf st rf = false := by unfold storable; rw [if_pos (.inr (.inr (.inr (.inr (.inl h)))))]
theorem st6 (h : (Fr.says qf).ns = true) : storable D m qf st rf = false := by unfold storable; rw [if_pos (.inr (.inr (.inr (.inr (.inr (.inl (by rw [ask_ns]; exact h)))))))]
theorem st7 (h : (Fr.says rf).ns = true) : storable D m qf st rf = false := by unfold storable; rw [if_pos (.inr (.inr (.inr (.inr (.inr (.inr (.inl h)))))))]
theorem st8 (h : (Fr.says rf).pr = true) : storable D m qf st rf = false := by unfold storable; rw [if_pos (.inr (.inr (.inr (.inr (.inr (.inr (.inr h)))))))]
theorem st9 (h : has qf kAuth = true) (h2 : ((Fr.says rf).pu || (Fr.says rf).mu || decide (0 ≤ (Fr.says rf).sa)) = false) : storable D m qf st rf = false := by
  simp only [Bool.or_eq_false_iff, decide_eq_false_iff_not] at h2
  unfold storable
  split
  · rfl
  · rw [if_pos ⟨h, h2.1.1, h2.1.2, by omega⟩]
theorem st10 (h1 : m = mGet) (h2 : has qf kRange = false) (h3 : ¬ st < 200) (h4 : ¬ st = 206) (h5 : ¬ st = 304) (h6 : (Fr.says qf).ns = false) (h7 : (Fr.says rf).ns = false) (h8 : (Fr.says rf).pr = false)
    (h9 : has qf kAuth = false ∨ ((Fr.says rf).pu || (Fr.says rf).mu || decide (0 ≤ (Fr.says rf).sa)) = true) : storable D m qf st rf = ((Vr.names (Fld.get rf kVary)).2 && ((Fr.life D st rf 0).2 || (Fr.says rf).pu || Fr.heur st)) := by
  unfold storable
  rw [if_neg (by rw [ask_ns, h1, h2, h6, h7, h8]; simp [h3, h4, h5]), if_neg]
  · cases (Fr.life D st rf 0).2 <;> cases (Fr.says rf).pu <;> cases Fr.heur st <;> rfl
  · intro ⟨e1, e2, e3, e4⟩
    rcases h9 with h9 | h9
    · rw [h9] at e1; cases e1
    · rw [e2, e3] at h9
      have : ¬ 0 ≤ (Fr.says rf).sa := by omega
      simp [this] at h9
end
end Rl
namespace Go.Proofs.YtoanelobggledaaGreatDoor
open Go.RowKit

theorem cells7_at {w : World} {g : Nat} {a b c d e f h : Value} {t : TypeId} (hh : w.heap[g]? = some (.cells #[a, b, c, d, e, f, h] t (0, 0))) :
    w.cell? ⟨g, 0, none⟩ = some a ∧ w.cell? ⟨g, 1, none⟩ = some b ∧ w.cell? ⟨g, 2, none⟩ = some c ∧ w.cell? ⟨g, 3, none⟩ = some d ∧ w.cell? ⟨g, 4, none⟩ = some e ∧ w.cell? ⟨g, 5, none⟩ = some f ∧ w.cell? ⟨g, 6, none⟩ = some h := by
  simp [World.cell?, hh]
set_option maxHeartbeats 1600000 in
set_option maxRecDepth 100000 in
theorem Life_w (a b c : ByteArray) (st mi : Int) (fv bv : Value) (fs : List Fld.F) (ta tg : Int) (w : World) (hE : Env10 w) (hf : FIn w fv fs) (sb : Sl bv) (hs : Mid fs) :
    Calls Tryz.prog 73 #[mv a b st c mi fv bv, tv ta tg] w fun e w' => e = .returned (lv (Fr.life D0 st fs (Fr.got ta tg))) ∧ Below w.heap.size w w' := by
  obtain ⟨fa, fc, hfv, hx9⟩ := id hf
  obtain ⟨ba, bl, bc, rfl⟩ := sb
  clear hx9
  rw [hfv] at hf ⊢
  clear hfv
  have hgb := Fr.got_bd ta tg
  have hdb := Fr.date_bd D0_fine fs (g := Fr.got ta tg) (by omega) hgb.2.2
  obtain ⟨R, hR⟩ : ∃ R : Rsp, R = ⟨a, b, st, c, mi, .slice fa fs.length fc, .slice ba bl bc, Fr.ask ta, Fr.got ta tg, Fr.says fs, Fr.date D0 fs (Fr.got ta tg)⟩ := ⟨_, rfl⟩
  have cR := fun W' (hb : Below w.heap.size w W') => responseOf_w a b c st mi (.slice fa fs.length fc) (.slice ba bl bc) fs ta tg W' (hE.later hb) (hf.later hb) ⟨_, _, _, rfl⟩ hs
  rw [← hR] at cR
  have cA : ∀ W', Below w.heap.size w W' → Calls Tryz.prog 106 #[rv R] W' fun e w' => e = .returned (lv (Fr.life D0 st fs (Fr.got ta tg))) ∧ Below W'.heap.size W' w' := fun W' hb => by
    have := lifetime_w R fs (Fr.got ta tg) W' (by rw [hR]; exact hf.later hb) hs (hE.later hb) (by rw [hR]) (by rw [hR]) (by rw [hR]; exact hdb)
    rw [hR] at this ⊢; exact this
  unfold lv at *
  unfold rv at cR cA
  generalize Fr.life D0 st fs (Fr.got ta tg) = o at *
  generalize fs.length = fl at *
  generalize rcells R = cc at *
  clear hR hf hE hs hgb hdb fs R
  obtain ⟨W, hW⟩ : ∃ W, W = (w.alloc (.cells #[.string a, .string b, .int .i64 st, .string c, .int .i64 mi, .slice fa fl fc, .slice ba bl bc] 27)).alloc (.cells #[.int .i64 ta, .int .i64 tg] 66) := ⟨_, rfl⟩
  have hbw : Below w.heap.size w W := by rw [hW]; exact ((Below.refl _ w).alloc (Nat.le_refl _) _).alloc (by simp) _
  have q0 : W.heap[w.heap.size]? = some (.cells #[.string a, .string b, .int .i64 st, .string c, .int .i64 mi, .slice fa fl fc, .slice ba bl bc] 27 (0, 0)) := by rw [hW]; exact blk_keep (heap_alloc_new w _) ((Below.refl _ _).alloc (Nat.le_refl _) _)
  have q1 : W.heap[w.heap.size + 1]? = some (.cells #[.int .i64 ta, .int .i64 tg] 66 (0, 0)) := by rw [hW]; exact heap_alloc2_new w _ _
  obtain ⟨m0, m1, m2, m3, m4, m5, m6⟩ := cells7_at q0
  obtain ⟨t0, t1⟩ := cells2_at q1
  clear q0 q1
  unfold mv mcell tv
  go_enter Tryz.func73, Tryz.ntmps73
  go_upto_region 1 with fail
  rw [← hW]
  clear hW
  go_wp2_with fail
  refine (cR W hbw).mono ?_
  rintro e w2 ⟨rfl, hb2⟩
  have hbw2 := hbw.trans (hb2.mono hbw.size)
  clear hb2 cR m0 m1 m2 m3 m4 m5 m6 t0 t1
  go_wp2_with fail
  refine (cA w2 hbw2).mono ?_
  rintro e w3 ⟨rfl, hb3⟩
  go_wp2_with fail
  go_ret2
  exact ⟨rfl, hbw2.trans (hb3.mono hbw2.size)⟩
set_option maxHeartbeats 1600000 in
set_option maxRecDepth 100000 in
theorem lasts_w (x : Mx) (fs : List Fld.F) (w : World) (hE : Env10 w) (hf : FIn w x.fv fs) (sb : Sl x.bv) (hs : Mid fs) :
    Calls Tryz.prog 42 #[xv x] w fun e w' => e = .returned (.bool ((Fr.life D0 x.st fs 0).2 || x.s.pu || Fr.heur x.st)) ∧ Below w.heap.size w w' := by
  have hbw : Below w.heap.size w (w.alloc (.cells (xcells x) 58)) := (Below.refl _ w).alloc (Nat.le_refl _) _
  have hr := XAt.new w x
  have cF := fun W' (hb : Below w.heap.size w W') => Life_w x.a x.b x.c x.st x.mi x.fv x.bv fs 0 0 W' (hE.later hb) (hf.later hb) sb hs
  rw [show Fr.got 0 0 = 0 from rfl] at cF
  have cE := fun W' => Heuristic_w x.st W'
  obtain ⟨p, hp⟩ : ∃ p, p = x.s.pu := ⟨_, rfl⟩
  obtain ⟨a, b, c, st, mi, fv, bv, s⟩ := x
  obtain ⟨fa, fc, hfv, hx9⟩ := id hf
  obtain ⟨ba, bl, bc, hbv⟩ := sb
  dsimp only at *
  subst hfv hbv
  have m0 := hr.cell 0
  have m1 := hr.cell 1
  have m2 := hr.cell 2
  have m3 := hr.cell 3
  have m4 := hr.cell 4
  have m5 := hr.cell 5
  have m6 := hr.cell 6
  have m9 := hr.cell 9
  change _ = some (Value.string a) at m0
  change _ = some (Value.string b) at m1
  change _ = some (Value.int .i64 st) at m2
  change _ = some (Value.string c) at m3
  change _ = some (Value.int .i64 mi) at m4
  change _ = some (Value.slice fa fs.length fc) at m5
  change _ = some (Value.slice ba bl bc) at m6
  change _ = some (Value.bool s.pu) at m9
  rw [← hp] at m9 ⊢
  unfold mv mcell tv lv at cF
  generalize Fr.life D0 st fs 0 = L at *
  obtain ⟨L1, L2⟩ := L
  dsimp only at *
  clear hx9 hE hf hs hp
  generalize fs.length = fl at *
  generalize Fr.heur st = hh at *
  unfold xv
  clear hr
  generalize xcells _ = cc at *
  go_enter Tryz.func42, Tryz.ntmps42
  go_upto_region 1 with fail
  have KB : ∀ W', Below (w.alloc (.cells cc 58)).heap.size (w.alloc (.cells cc 58)) W' → ∀ k, W'.cell? ⟨w.heap.size, k, none⟩ = (w.alloc (.cells cc 58)).cell? ⟨w.heap.size, k, none⟩ := fun W' hb k => hb.cell (p := ⟨w.heap.size, k, none⟩) (by simp)
  generalize w.alloc (.cells cc 58) = W at *
  go_wp2_with fail
  refine (cF W hbw).mono ?_
  rintro e w1 ⟨rfl, hb1⟩
  have hbw1 := hbw.trans (hb1.mono hbw.size)
  have n9 := (KB w1 hb1 9).trans m9
  have n2 := (KB w1 hb1 2).trans m2
  have cE1 := cE w1
  clear m0 m1 m2 m3 m4 m5 m6 m9 KB cF cE hb1 hbw
  cases L2 with
  | true =>
    go_wp2_with fail
    go_ret
    exact ⟨rfl, hbw1⟩
  | false =>
    cases p with
    | true =>
      go_wp2_with fail
      go_ret
      exact ⟨rfl, hbw1⟩
    | false =>
      go_wp2_with fail
      refine cE1.mono ?_
      rintro e w2 ⟨rfl, rfl⟩
      go_wp2_with fail
      go_ret
      exact ⟨rfl, hbw1⟩
theorem row_at {w : World} {g : Nat} {cs : Array Value} {t : TypeId} {fr : Nat × Nat} (h : w.heap[g]? = some (.cells cs t fr)) (k : Nat) : w.cell? ⟨g, k, none⟩ = cs[k]? := by
  simp only [World.cell?, h]; rfl
structure OwnP (w W : World) (gA gB : Nat) (ma mb : Array Value) : Prop where
  one : W.heap[gA]? = some (.cells ma 27 (0, 0))
  two : W.heap[gB]? = some (.cells mb 27 (0, 0))
  below : Below w.heap.size w W
theorem OwnP.later {w W W' : World} {gA gB : Nat} {ma mb : Array Value} (h : OwnP w W gA gB ma mb) (hb : Below W.heap.size W W') : OwnP w W' gA gB ma mb :=
  ⟨blk_keep h.one hb, blk_keep h.two hb, h.below.trans (hb.mono h.below.size)⟩
theorem OwnP.row {w W : World} {gA gB : Nat} {ma mb : Array Value} (h : OwnP w W gA gB ma mb) {b : Nat} (hb : w.heap.size ≤ b) (h1 : gA ≠ b) (h3 : gB ≠ b) (cs : Array Value) : OwnP w (W.setRow b cs) gA gB ma mb :=
  ⟨heap_row h.one h1 cs, heap_row h.two h3 cs, Below.row h.below hb cs⟩
theorem arr_neP {a : ByteArray} {l : List UInt8} (h : a ≠ str l) : (a.toList != l) = true := by
  simp only [bne, Bool.not_eq_true']
  exact beq_eq_false_iff_ne.2 (fun e => h (by rw [← str_of a, ← e, Lib.toList_data]))
set_option maxHeartbeats 6400000 in
set_option maxRecDepth 100000 in
theorem Storable_w (a b c a' b' c' : ByteArray) (st mi st' mi' : Int) (fv bv fv' bv' : Value) (fs fs' : List Fld.F) (w : World) (hE : Env10 w) (hf : FIn w fv fs) (sb : Sl bv) (hs : Mid fs) (hf' : FIn w fv' fs') (sb' : Sl bv') (hs' : Mid fs') :
    Calls Tryz.prog 12 #[mv a b st c mi fv bv, mv a' b' st' c' mi' fv' bv'] w fun e w' => e = .returned (.bool (Rl.storable D0 a.data.toList fs st' fs')) ∧ Below w.heap.size w w' := by
  obtain ⟨fa, fc, hfv, hx9⟩ := id hf
  obtain ⟨ba, bl, bc, rfl⟩ := sb
  obtain ⟨fa', fc', hfv', hx8⟩ := id hf'
  obtain ⟨ba', bl', bc', rfl⟩ := sb'
  clear hx9 hx8
  rw [hfv] at hf ⊢
  rw [hfv'] at hf' ⊢
  clear hfv hfv'
  have cQ0 := Lib.hid (fun W' (hb : Below w.heap.size w W') => messageOf_w a b c st mi (.slice fa fs.length fc) (.slice ba bl bc) fs W' (hE.later hb) (hf.later hb) ⟨_, _, _, rfl⟩ hs)
  have cR0 := Lib.hid (fun W' (hb : Below w.heap.size w W') => messageOf_w a' b' c' st' mi' (.slice fa' fs'.length fc') (.slice ba' bl' bc') fs' W' (hE.later hb) (hf'.later hb) ⟨_, _, _, rfl⟩ hs')
  obtain ⟨q, hq⟩ : ∃ q : Mx, q = ⟨a, b, c, st, mi, .slice fa fs.length fc, .slice ba bl bc, mq st fs⟩ := ⟨_, rfl⟩
  obtain ⟨r, hr⟩ : ∃ r : Mx, r = ⟨a', b', c', st', mi', .slice fa' fs'.length fc', .slice ba' bl' bc', mq st' fs'⟩ := ⟨_, rfl⟩
  have cQ := Lib.hid (fun W' (hb : Below w.heap.size w W') => hq ▸ cQ0.out W' hb)
  have cR := Lib.hid (fun W' (hb : Below w.heap.size w W') => hr ▸ cR0.out W' hb)
  clear cQ0 cR0
  unfold mv mcell at cQ cR
  have h1 : (xcells q).all (·.oneCell') = true := xcells_one (by rw [hq]; exact ⟨_, _, _, rfl⟩) (by rw [hq]; exact ⟨_, _, _, rfl⟩)
  have h2 : (xcells r).all (·.oneCell') = true := xcells_one (by rw [hr]; exact ⟨_, _, _, rfl⟩) (by rw [hr]; exact ⟨_, _, _, rfl⟩)
  have hfq : FIn w q.fv fs := by rw [hq]; exact hf
  have hfr : FIn w r.fv fs' := by rw [hr]; exact hf'
  have HQ0 : Hid ((xcells q)[0]? = some (.string a)) := Lib.hid (by rw [hq]; rfl)
  have HQ7 : Hid ((xcells q)[7]? = some (.bool (Fr.says fs).ns)) := Lib.hid (by rw [hq, ← mq_ns st fs]; rfl)
  have HR2 : Hid ((xcells r)[2]? = some (.int .i64 st')) := Lib.hid (by rw [hr]; rfl)
  have HR7 : Hid ((xcells r)[7]? = some (.bool (Fr.says fs').ns)) := Lib.hid (by rw [hr, ← mq_ns st' fs']; rfl)
  have HR10 : Hid ((xcells r)[10]? = some (.bool (Fr.says fs').pr)) := Lib.hid (by rw [hr, ← mq_pr st' fs']; rfl)
  have cH := fun n v W' (hb : Below w.heap.size w W') (hv : SIn W' v [n]) (hn : n.length ≤ 1000) => has_w q fs v [n] W' (hfq.later hb) hs hv (by simp) (by simpa using hn)
  have hany : ∀ (p : List UInt8 → Bool) n, [n].any p = p n := fun p n => by simp
  simp only [hany] at cH
  have cH1 := fun v W' (hb : Below w.heap.size w W') (hv : SIn W' v [Rl.kRange]) => cH Rl.kRange v W' hb hv (by decide)
  have cH2 := fun v W' (hb : Below w.heap.size w W') (hv : SIn W' v [Rl.kAuth]) => cH Rl.kAuth v W' hb hv (by decide)
  have cS := fun W' => shared_w r W'
  have cT := fun W' (hb : Below w.heap.size w W') => tellsApart_w r fs' W' (hfr.later hb) hs'
  have cL := fun W' (hb : Below w.heap.size w W') => lasts_w r fs' W' (hE.later hb) (hfr.later hb) (by rw [hr]; exact ⟨_, _, _, rfl⟩) hs'
  have e1 : r.s.pu = (Fr.says fs').pu := by rw [hr]; exact mq_pu st' fs'
  have e2 : r.s.mu = (Fr.says fs').mu := by rw [hr]; exact mq_mu st' fs'
  have e3 : r.s.sa = (Fr.says fs').sa := by rw [hr]; exact mq_sa st' fs'
  have e4 : r.st = st' := by rw [hr]
  rw [e1, e2, e3] at cS
  rw [e1, e4] at cL
  clear e1 e2 e3 e4 cH hany
  have E1 := Lib.hid (Rl.st1 (D := D0) (m := a.data.toList) (qf := fs) (st := st') (rf := fs'))
  have E2 := Lib.hid (Rl.st2 (D := D0) (m := a.data.toList) (qf := fs) (st := st') (rf := fs'))
  have E3 := Lib.hid (Rl.st3 (D := D0) (m := a.data.toList) (qf := fs) (st := st') (rf := fs'))
  have E4 := Lib.hid (Rl.st4 (D := D0) (m := a.data.toList) (qf := fs) (st := st') (rf := fs'))
  have E5 := Lib.hid (Rl.st5 (D := D0) (m := a.data.toList) (qf := fs) (st := st') (rf := fs'))
  have E6 := Lib.hid (Rl.st6 (D := D0) (m := a.data.toList) (qf := fs) (st := st') (rf := fs'))
  have E7 := Lib.hid (Rl.st7 (D := D0) (m := a.data.toList) (qf := fs) (st := st') (rf := fs'))
  have E8 := Lib.hid (Rl.st8 (D := D0) (m := a.data.toList) (qf := fs) (st := st') (rf := fs'))
  have E9 := Lib.hid (Rl.st9 (D := D0) (m := a.data.toList) (qf := fs) (st := st') (rf := fs'))
  have E10 := Lib.hid (Rl.st10 (D := D0) (m := a.data.toList) (qf := fs) (st := st') (rf := fs'))
  generalize Rl.storable D0 a.data.toList fs st' fs' = RES at *
  generalize (Fr.says fs).ns = qns at *
  generalize (Fr.says fs').ns = rns at *
  generalize (Fr.says fs').pr = rpr at *
  generalize ((Fr.says fs').pu || (Fr.says fs').mu || decide (0 ≤ (Fr.says fs').sa)) = SH at *
  generalize ((Fr.life D0 st' fs' 0).2 || (Fr.says fs').pu || Fr.heur st') = LS at *
  generalize (Vr.names (Fld.get fs' Rl.kVary)).2 = TA at *
  generalize Rl.has fs Rl.kRange = HRG at *
  generalize Rl.has fs Rl.kAuth = HAU at *
  clear hq hr hf hf'
  generalize hfl : fs.length = fl at *
  generalize hfl' : fs'.length = fl' at *
  clear hfl hfl'
  obtain ⟨W, hW⟩ : ∃ W, W = (w.alloc (.cells #[.string a, .string b, .int .i64 st, .string c, .int .i64 mi, .slice fa fl fc, .slice ba bl bc] 27)).alloc (.cells #[.string a', .string b', .int .i64 st', .string c', .int .i64 mi', .slice fa' fl' fc', .slice ba' bl' bc'] 27) := ⟨_, rfl⟩
  have hbw : Below w.heap.size w W := by rw [hW]; exact ((Below.refl _ w).alloc (Nat.le_refl _) _).alloc (by simp) _
  have h3 := pair_at w (.cells #[.string a, .string b, .int .i64 st, .string c, .int .i64 mi, .slice fa fl fc, .slice ba bl bc] 27) (.cells #[.string a', .string b', .int .i64 st', .string c', .int .i64 mi', .slice fa' fl' fc', .slice ba' bl' bc'] 27)
  rw [← hW] at h3
  have hO : OwnP w W w.heap.size (w.heap.size + 1) #[.string a, .string b, .int .i64 st, .string c, .int .i64 mi, .slice fa fl fc, .slice ba bl bc] #[.string a', .string b', .int .i64 st', .string c', .int .i64 mi', .slice fa' fl' fc', .slice ba' bl' bc'] := ⟨h3.1, h3.2, hbw⟩
  clear h3 hbw
  unfold mv mcell
  go_enter Tryz.func12, Tryz.ntmps12
  go_upto_region 1 with fail
  rw [← hW]
  clear hW
  generalize w.heap.size + 1 = gB at *
  obtain ⟨gA, hgA⟩ : ∃ gA, gA = w.heap.size := ⟨_, rfl⟩
  rw [← hgA] at hO ⊢
  have HGA := Lib.hid hgA
  clear hgA
  go_cut [5, 6] (fun u5 u6 wx => ∃ w3 g5 g6, w3 = wx ∧ u5 = .pointer (some ⟨g5, 0, none⟩) ∧ u6 = .pointer (some ⟨g6, 0, none⟩) ∧ XAt w3 g5 q ∧ XAt w3 g6 r ∧ g5 ≠ g6 ∧ Below w.heap.size w w3)
  case first =>
    have OV0 := hO.later ((Below.refl _ W).drew)
    refine wp_region_noPanic ?_
    refine wp_region_held (S := fun W' => OwnP w W' gA gB #[.string a, .string b, .int .i64 st, .string c, .int .i64 mi, .slice fa fl fc, .slice ba bl bc] #[.string a', .string b', .int .i64 st', .string c', .int .i64 mi', .slice fa' fl' fc', .slice ba' bl' bc']) (by kernel_rfl) ?_
    change wpAnyH _ _ _ _ _ _ _ _ W.drew
    generalize W.drew = V0 at *
    clear hO W
    refine held_of_takes (fuel := 6) (by kernel_rfl) (fun _ _ _ _ _ h => h) OV0 [0, 2] _ _ (by kernel_rfl) ?_
    refine Takes.val (.agg #[.string a, .string b, .int .i64 st, .string c, .int .i64 mi, .slice fa fl fc, .slice ba bl bc]) rfl rfl (fun W' h => exec_row rfl gA rfl 27 _ (0, 0) _ h.one Tryz.underlying27 rfl (by kernel_rfl)) ?_
    refine Takes.val (.agg #[.string a', .string b', .int .i64 st', .string c', .int .i64 mi', .slice fa' fl' fc', .slice ba' bl' bc']) rfl rfl (fun W' h => exec_row rfl gB rfl 27 _ (0, 0) _ h.two Tryz.underlying27 rfl (by kernel_rfl)) ?_
    refine wpAnyH_all (rs := [1, 4, 5]) (by kernel_rfl) (by simp) (fun i hi => ?_)
    simp only [List.mem_cons, List.not_mem_nil, or_false] at hi
    rcases hi with rfl | rfl | rfl
    refine wpOp_into (f := 38) (args := #[.agg #[.string a, .string b, .int .i64 st, .string c, .int .i64 mi, .slice fa fl fc, .slice ba bl bc]]) rfl rfl (by kernel_rfl) ((cQ.out _ OV0.below).mono ?_)
    rintro e V1 ⟨rfl, hbV1⟩
    have OV1 := OV0.later hbV1
    refine ⟨_, rfl, OV1, ?_⟩
    refine wpAnyH_all (rs := [3, 4, 5]) (by kernel_rfl) (by simp) (fun i hi => ?_)
    simp only [List.mem_cons, List.not_mem_nil, or_false] at hi
    rcases hi with rfl | rfl | rfl
    refine wpOp_into (f := 38) (args := #[.agg #[.string a', .string b', .int .i64 st', .string c', .int .i64 mi', .slice fa' fl' fc', .slice ba' bl' bc']]) rfl rfl (by kernel_rfl) ((cR.out _ OV1.below).mono ?_)
    rintro e V2 ⟨rfl, hbV2⟩
    have OV2 := OV1.later hbV2
    refine ⟨_, rfl, OV2, ?_⟩
    refine wpAnyH_all (rs := [4, 5]) (by kernel_rfl) (by simp) (fun i hi => ?_)
    simp only [List.mem_cons, List.not_mem_nil, or_false] at hi
    rcases hi with rfl | rfl
    have hbV3 : Below V2.heap.size V2 (V2.alloc (.cells (xcells noX) 58)) := (Below.refl _ _).alloc (Nat.le_refl _) _
    have OV3 := OV2.later hbV3
    have R5V3 : XAt (V2.alloc (.cells (xcells noX) 58)) V2.heap.size noX := XAt.new V2 noX
    have p5 : w.heap.size ≤ V2.heap.size := OV2.below.size
    have n5 := lt_of_block OV2.one
    have m5 := lt_of_block OV2.two
    refine wpOp_make (v := .pointer (some ⟨V2.heap.size, 0, none⟩)) (w' := V2.alloc (.cells (xcells noX) 58)) rfl rfl (by kernel_rfl) ⟨OV3, ?_⟩
    generalize V2.heap.size = g5 at *
    generalize V2.alloc (.cells (xcells noX) 58) = V3 at *
    refine wpAnyH_all (rs := [5]) (by kernel_rfl) (by simp) (fun i hi => ?_)
    obtain rfl := List.mem_singleton.1 hi
    have hbV4 : Below V3.heap.size V3 (V3.alloc (.cells (xcells noX) 58)) := (Below.refl _ _).alloc (Nat.le_refl _) _
    have OV4 := OV3.later hbV4
    have R6V4 : XAt (V3.alloc (.cells (xcells noX) 58)) V3.heap.size noX := XAt.new V3 noX
    have p6 : w.heap.size ≤ V3.heap.size := OV3.below.size
    have n6 := lt_of_block OV3.one
    have m6 := lt_of_block OV3.two
    have ne : g5 < V3.heap.size := R5V3.lt
    have R5V4 := R5V3.later hbV4
    refine wpOp_make (v := .pointer (some ⟨V3.heap.size, 0, none⟩)) (w' := V3.alloc (.cells (xcells noX) 58)) rfl rfl (by kernel_rfl) ⟨OV4, ?_⟩
    generalize V3.heap.size = g6 at *
    generalize V3.alloc (.cells (xcells noX) 58) = V4 at *
    have OL := OV4
    have R5L := R5V4
    have R6L := R6V4
    generalize V4 = VL at *
    rotate_left
    have hbV5 : Below V2.heap.size V2 (V2.alloc (.cells (xcells noX) 58)) := (Below.refl _ _).alloc (Nat.le_refl _) _
    have OV5 := OV2.later hbV5
    have R6V5 : XAt (V2.alloc (.cells (xcells noX) 58)) V2.heap.size noX := XAt.new V2 noX
    have p6 : w.heap.size ≤ V2.heap.size := OV2.below.size
    have n6 := lt_of_block OV2.one
    have m6 := lt_of_block OV2.two
    refine wpOp_make (v := .pointer (some ⟨V2.heap.size, 0, none⟩)) (w' := V2.alloc (.cells (xcells noX) 58)) rfl rfl (by kernel_rfl) ⟨OV5, ?_⟩
    generalize V2.heap.size = g6 at *
    generalize V2.alloc (.cells (xcells noX) 58) = V5 at *
    refine wpAnyH_all (rs := [4]) (by kernel_rfl) (by simp) (fun i hi => ?_)
    obtain rfl := List.mem_singleton.1 hi
    have hbV6 : Below V5.heap.size V5 (V5.alloc (.cells (xcells noX) 58)) := (Below.refl _ _).alloc (Nat.le_refl _) _
    have OV6 := OV5.later hbV6
    have R5V6 : XAt (V5.alloc (.cells (xcells noX) 58)) V5.heap.size noX := XAt.new V5 noX
    have p5 : w.heap.size ≤ V5.heap.size := OV5.below.size
    have n5 := lt_of_block OV5.one
    have m5 := lt_of_block OV5.two
    have ne : g6 < V5.heap.size := R6V5.lt
    have R6V6 := R6V5.later hbV6
    refine wpOp_make (v := .pointer (some ⟨V5.heap.size, 0, none⟩)) (w' := V5.alloc (.cells (xcells noX) 58)) rfl rfl (by kernel_rfl) ⟨OV6, ?_⟩
    generalize V5.heap.size = g5 at *
    generalize V5.alloc (.cells (xcells noX) 58) = V6 at *
    have OL := OV6
    have R5L := R5V6
    have R6L := R6V6
    generalize V6 = VL at *
    rotate_left
    have hbV7 : Below V1.heap.size V1 (V1.alloc (.cells (xcells noX) 58)) := (Below.refl _ _).alloc (Nat.le_refl _) _
    have OV7 := OV1.later hbV7
    have R5V7 : XAt (V1.alloc (.cells (xcells noX) 58)) V1.heap.size noX := XAt.new V1 noX
    have p5 : w.heap.size ≤ V1.heap.size := OV1.below.size
    have n5 := lt_of_block OV1.one
    have m5 := lt_of_block OV1.two
    refine wpOp_make (v := .pointer (some ⟨V1.heap.size, 0, none⟩)) (w' := V1.alloc (.cells (xcells noX) 58)) rfl rfl (by kernel_rfl) ⟨OV7, ?_⟩
    generalize V1.heap.size = g5 at *
    generalize V1.alloc (.cells (xcells noX) 58) = V7 at *
    refine wpAnyH_all (rs := [3, 5]) (by kernel_rfl) (by simp) (fun i hi => ?_)
    simp only [List.mem_cons, List.not_mem_nil, or_false] at hi
    rcases hi with rfl | rfl
    refine wpOp_into (f := 38) (args := #[.agg #[.string a', .string b', .int .i64 st', .string c', .int .i64 mi', .slice fa' fl' fc', .slice ba' bl' bc']]) rfl rfl (by kernel_rfl) ((cR.out _ OV7.below).mono ?_)
    rintro e V8 ⟨rfl, hbV8⟩
    have OV8 := OV7.later hbV8
    refine ⟨_, rfl, OV8, ?_⟩
    have R5V8 := R5V7.later hbV8
    refine wpAnyH_all (rs := [5]) (by kernel_rfl) (by simp) (fun i hi => ?_)
    obtain rfl := List.mem_singleton.1 hi
    have hbV9 : Below V8.heap.size V8 (V8.alloc (.cells (xcells noX) 58)) := (Below.refl _ _).alloc (Nat.le_refl _) _
    have OV9 := OV8.later hbV9
    have R6V9 : XAt (V8.alloc (.cells (xcells noX) 58)) V8.heap.size noX := XAt.new V8 noX
    have p6 : w.heap.size ≤ V8.heap.size := OV8.below.size
    have n6 := lt_of_block OV8.one
    have m6 := lt_of_block OV8.two
    have ne : g5 < V8.heap.size := R5V8.lt
    have R5V9 := R5V8.later hbV9
    refine wpOp_make (v := .pointer (some ⟨V8.heap.size, 0, none⟩)) (w' := V8.alloc (.cells (xcells noX) 58)) rfl rfl (by kernel_rfl) ⟨OV9, ?_⟩
    generalize V8.heap.size = g6 at *
    generalize V8.alloc (.cells (xcells noX) 58) = V9 at *
    have OL := OV9
    have R5L := R5V9
    have R6L := R6V9
    generalize V9 = VL at *
    rotate_left
    have hbV10 : Below V7.heap.size V7 (V7.alloc (.cells (xcells noX) 58)) := (Below.refl _ _).alloc (Nat.le_refl _) _
    have OV10 := OV7.later hbV10
    have R6V10 : XAt (V7.alloc (.cells (xcells noX) 58)) V7.heap.size noX := XAt.new V7 noX
    have p6 : w.heap.size ≤ V7.heap.size := OV7.below.size
    have n6 := lt_of_block OV7.one
    have m6 := lt_of_block OV7.two
    have ne : g5 < V7.heap.size := R5V7.lt
    have R5V10 := R5V7.later hbV10
    refine wpOp_make (v := .pointer (some ⟨V7.heap.size, 0, none⟩)) (w' := V7.alloc (.cells (xcells noX) 58)) rfl rfl (by kernel_rfl) ⟨OV10, ?_⟩
    generalize V7.heap.size = g6 at *
    generalize V7.alloc (.cells (xcells noX) 58) = V10 at *
    refine wpAnyH_all (rs := [3]) (by kernel_rfl) (by simp) (fun i hi => ?_)
    obtain rfl := List.mem_singleton.1 hi
    refine wpOp_into (f := 38) (args := #[.agg #[.string a', .string b', .int .i64 st', .string c', .int .i64 mi', .slice fa' fl' fc', .slice ba' bl' bc']]) rfl rfl (by kernel_rfl) ((cR.out _ OV10.below).mono ?_)
    rintro e V11 ⟨rfl, hbV11⟩
    have OV11 := OV10.later hbV11
    refine ⟨_, rfl, OV11, ?_⟩
    have R5V11 := R5V10.later hbV11
    have R6V11 := R6V10.later hbV11
    have OL := OV11
    have R5L := R5V11
    have R6L := R6V11
    generalize V11 = VL at *
    rotate_left
    have hbV12 : Below V1.heap.size V1 (V1.alloc (.cells (xcells noX) 58)) := (Below.refl _ _).alloc (Nat.le_refl _) _
    have OV12 := OV1.later hbV12
    have R6V12 : XAt (V1.alloc (.cells (xcells noX) 58)) V1.heap.size noX := XAt.new V1 noX
    have p6 : w.heap.size ≤ V1.heap.size := OV1.below.size
    have n6 := lt_of_block OV1.one
    have m6 := lt_of_block OV1.two
    refine wpOp_make (v := .pointer (some ⟨V1.heap.size, 0, none⟩)) (w' := V1.alloc (.cells (xcells noX) 58)) rfl rfl (by kernel_rfl) ⟨OV12, ?_⟩
    generalize V1.heap.size = g6 at *
    generalize V1.alloc (.cells (xcells noX) 58) = V12 at *
    refine wpAnyH_all (rs := [3, 4]) (by kernel_rfl) (by simp) (fun i hi => ?_)
    simp only [List.mem_cons, List.not_mem_nil, or_false] at hi
    rcases hi with rfl | rfl
    refine wpOp_into (f := 38) (args := #[.agg #[.string a', .string b', .int .i64 st', .string c', .int .i64 mi', .slice fa' fl' fc', .slice ba' bl' bc']]) rfl rfl (by kernel_rfl) ((cR.out _ OV12.below).mono ?_)
    rintro e V13 ⟨rfl, hbV13⟩
    have OV13 := OV12.later hbV13
    refine ⟨_, rfl, OV13, ?_⟩
    have R6V13 := R6V12.later hbV13
    refine wpAnyH_all (rs := [4]) (by kernel_rfl) (by simp) (fun i hi => ?_)
    obtain rfl := List.mem_singleton.1 hi
    have hbV14 : Below V13.heap.size V13 (V13.alloc (.cells (xcells noX) 58)) := (Below.refl _ _).alloc (Nat.le_refl _) _
    have OV14 := OV13.later hbV14
    have R5V14 : XAt (V13.alloc (.cells (xcells noX) 58)) V13.heap.size noX := XAt.new V13 noX
    have p5 : w.heap.size ≤ V13.heap.size := OV13.below.size
    have n5 := lt_of_block OV13.one
    have m5 := lt_of_block OV13.two
    have ne : g6 < V13.heap.size := R6V13.lt
    have R6V14 := R6V13.later hbV14
    refine wpOp_make (v := .pointer (some ⟨V13.heap.size, 0, none⟩)) (w' := V13.alloc (.cells (xcells noX) 58)) rfl rfl (by kernel_rfl) ⟨OV14, ?_⟩
    generalize V13.heap.size = g5 at *
    generalize V13.alloc (.cells (xcells noX) 58) = V14 at *
    have OL := OV14
    have R5L := R5V14
    have R6L := R6V14
    generalize V14 = VL at *
    rotate_left
    have hbV15 : Below V12.heap.size V12 (V12.alloc (.cells (xcells noX) 58)) := (Below.refl _ _).alloc (Nat.le_refl _) _
    have OV15 := OV12.later hbV15
    have R5V15 : XAt (V12.alloc (.cells (xcells noX) 58)) V12.heap.size noX := XAt.new V12 noX
    have p5 : w.heap.size ≤ V12.heap.size := OV12.below.size
    have n5 := lt_of_block OV12.one
    have m5 := lt_of_block OV12.two
    have ne : g6 < V12.heap.size := R6V12.lt
    have R6V15 := R6V12.later hbV15
    refine wpOp_make (v := .pointer (some ⟨V12.heap.size, 0, none⟩)) (w' := V12.alloc (.cells (xcells noX) 58)) rfl rfl (by kernel_rfl) ⟨OV15, ?_⟩
    generalize V12.heap.size = g5 at *
    generalize V12.alloc (.cells (xcells noX) 58) = V15 at *
    refine wpAnyH_all (rs := [3]) (by kernel_rfl) (by simp) (fun i hi => ?_)
    obtain rfl := List.mem_singleton.1 hi
    refine wpOp_into (f := 38) (args := #[.agg #[.string a', .string b', .int .i64 st', .string c', .int .i64 mi', .slice fa' fl' fc', .slice ba' bl' bc']]) rfl rfl (by kernel_rfl) ((cR.out _ OV15.below).mono ?_)
    rintro e V16 ⟨rfl, hbV16⟩
    have OV16 := OV15.later hbV16
    refine ⟨_, rfl, OV16, ?_⟩
    have R5V16 := R5V15.later hbV16
    have R6V16 := R6V15.later hbV16
    have OL := OV16
    have R5L := R5V16
    have R6L := R6V16
    generalize V16 = VL at *
    rotate_left
    have hbV17 : Below V0.heap.size V0 (V0.alloc (.cells (xcells noX) 58)) := (Below.refl _ _).alloc (Nat.le_refl _) _
    have OV17 := OV0.later hbV17
    have R5V17 : XAt (V0.alloc (.cells (xcells noX) 58)) V0.heap.size noX := XAt.new V0 noX
    have p5 : w.heap.size ≤ V0.heap.size := OV0.below.size
    have n5 := lt_of_block OV0.one
    have m5 := lt_of_block OV0.two
    refine wpOp_make (v := .pointer (some ⟨V0.heap.size, 0, none⟩)) (w' := V0.alloc (.cells (xcells noX) 58)) rfl rfl (by kernel_rfl) ⟨OV17, ?_⟩
    generalize V0.heap.size = g5 at *
    generalize V0.alloc (.cells (xcells noX) 58) = V17 at *
    refine wpAnyH_all (rs := [1, 5]) (by kernel_rfl) (by simp) (fun i hi => ?_)
    simp only [List.mem_cons, List.not_mem_nil, or_false] at hi
    rcases hi with rfl | rfl
    refine wpOp_into (f := 38) (args := #[.agg #[.string a, .string b, .int .i64 st, .string c, .int .i64 mi, .slice fa fl fc, .slice ba bl bc]]) rfl rfl (by kernel_rfl) ((cQ.out _ OV17.below).mono ?_)
    rintro e V18 ⟨rfl, hbV18⟩
    have OV18 := OV17.later hbV18
    refine ⟨_, rfl, OV18, ?_⟩
    have R5V18 := R5V17.later hbV18
    refine wpAnyH_all (rs := [3, 5]) (by kernel_rfl) (by simp) (fun i hi => ?_)
    simp only [List.mem_cons, List.not_mem_nil, or_false] at hi
    rcases hi with rfl | rfl
    refine wpOp_into (f := 38) (args := #[.agg #[.string a', .string b', .int .i64 st', .string c', .int .i64 mi', .slice fa' fl' fc', .slice ba' bl' bc']]) rfl rfl (by kernel_rfl) ((cR.out _ OV18.below).mono ?_)
    rintro e V19 ⟨rfl, hbV19⟩
    have OV19 := OV18.later hbV19
    refine ⟨_, rfl, OV19, ?_⟩
    have R5V19 := R5V18.later hbV19
    refine wpAnyH_all (rs := [5]) (by kernel_rfl) (by simp) (fun i hi => ?_)
    obtain rfl := List.mem_singleton.1 hi
    have hbV20 : Below V19.heap.size V19 (V19.alloc (.cells (xcells noX) 58)) := (Below.refl _ _).alloc (Nat.le_refl _) _
    have OV20 := OV19.later hbV20
    have R6V20 : XAt (V19.alloc (.cells (xcells noX) 58)) V19.heap.size noX := XAt.new V19 noX
    have p6 : w.heap.size ≤ V19.heap.size := OV19.below.size
    have n6 := lt_of_block OV19.one
    have m6 := lt_of_block OV19.two
    have ne : g5 < V19.heap.size := R5V19.lt
    have R5V20 := R5V19.later hbV20
    refine wpOp_make (v := .pointer (some ⟨V19.heap.size, 0, none⟩)) (w' := V19.alloc (.cells (xcells noX) 58)) rfl rfl (by kernel_rfl) ⟨OV20, ?_⟩
    generalize V19.heap.size = g6 at *
    generalize V19.alloc (.cells (xcells noX) 58) = V20 at *
    have OL := OV20
    have R5L := R5V20
    have R6L := R6V20
    generalize V20 = VL at *
    rotate_left
    have hbV21 : Below V18.heap.size V18 (V18.alloc (.cells (xcells noX) 58)) := (Below.refl _ _).alloc (Nat.le_refl _) _
    have OV21 := OV18.later hbV21
    have R6V21 : XAt (V18.alloc (.cells (xcells noX) 58)) V18.heap.size noX := XAt.new V18 noX
    have p6 : w.heap.size ≤ V18.heap.size := OV18.below.size
    have n6 := lt_of_block OV18.one
    have m6 := lt_of_block OV18.two
    have ne : g5 < V18.heap.size := R5V18.lt
    have R5V21 := R5V18.later hbV21
    refine wpOp_make (v := .pointer (some ⟨V18.heap.size, 0, none⟩)) (w' := V18.alloc (.cells (xcells noX) 58)) rfl rfl (by kernel_rfl) ⟨OV21, ?_⟩
    generalize V18.heap.size = g6 at *
    generalize V18.alloc (.cells (xcells noX) 58) = V21 at *
    refine wpAnyH_all (rs := [3]) (by kernel_rfl) (by simp) (fun i hi => ?_)
    obtain rfl := List.mem_singleton.1 hi
    refine wpOp_into (f := 38) (args := #[.agg #[.string a', .string b', .int .i64 st', .string c', .int .i64 mi', .slice fa' fl' fc', .slice ba' bl' bc']]) rfl rfl (by kernel_rfl) ((cR.out _ OV21.below).mono ?_)
    rintro e V22 ⟨rfl, hbV22⟩
    have OV22 := OV21.later hbV22
    refine ⟨_, rfl, OV22, ?_⟩
    have R5V22 := R5V21.later hbV22
    have R6V22 := R6V21.later hbV22
    have OL := OV22
    have R5L := R5V22
    have R6L := R6V22
    generalize V22 = VL at *
    rotate_left
    have hbV23 : Below V17.heap.size V17 (V17.alloc (.cells (xcells noX) 58)) := (Below.refl _ _).alloc (Nat.le_refl _) _
    have OV23 := OV17.later hbV23
    have R6V23 : XAt (V17.alloc (.cells (xcells noX) 58)) V17.heap.size noX := XAt.new V17 noX
    have p6 : w.heap.size ≤ V17.heap.size := OV17.below.size
    have n6 := lt_of_block OV17.one
    have m6 := lt_of_block OV17.two
    have ne : g5 < V17.heap.size := R5V17.lt
    have R5V23 := R5V17.later hbV23
    refine wpOp_make (v := .pointer (some ⟨V17.heap.size, 0, none⟩)) (w' := V17.alloc (.cells (xcells noX) 58)) rfl rfl (by kernel_rfl) ⟨OV23, ?_⟩
    generalize V17.heap.size = g6 at *
    generalize V17.alloc (.cells (xcells noX) 58) = V23 at *
    refine wpAnyH_all (rs := [1]) (by kernel_rfl) (by simp) (fun i hi => ?_)
    obtain rfl := List.mem_singleton.1 hi
    refine wpOp_into (f := 38) (args := #[.agg #[.string a, .string b, .int .i64 st, .string c, .int .i64 mi, .slice fa fl fc, .slice ba bl bc]]) rfl rfl (by kernel_rfl) ((cQ.out _ OV23.below).mono ?_)
    rintro e V24 ⟨rfl, hbV24⟩
    have OV24 := OV23.later hbV24
    refine ⟨_, rfl, OV24, ?_⟩
    have R5V24 := R5V23.later hbV24
    have R6V24 := R6V23.later hbV24
    refine wpAnyH_all (rs := [3]) (by kernel_rfl) (by simp) (fun i hi => ?_)
    obtain rfl := List.mem_singleton.1 hi
    refine wpOp_into (f := 38) (args := #[.agg #[.string a', .string b', .int .i64 st', .string c', .int .i64 mi', .slice fa' fl' fc', .slice ba' bl' bc']]) rfl rfl (by kernel_rfl) ((cR.out _ OV24.below).mono ?_)
    rintro e V25 ⟨rfl, hbV25⟩
    have OV25 := OV24.later hbV25
    refine ⟨_, rfl, OV25, ?_⟩
    have R5V25 := R5V24.later hbV25
    have R6V25 := R6V24.later hbV25
    have OL := OV25
    have R5L := R5V25
    have R6L := R6V25
    generalize V25 = VL at *
    rotate_left
    have hbV26 : Below V0.heap.size V0 (V0.alloc (.cells (xcells noX) 58)) := (Below.refl _ _).alloc (Nat.le_refl _) _
    have OV26 := OV0.later hbV26
    have R6V26 : XAt (V0.alloc (.cells (xcells noX) 58)) V0.heap.size noX := XAt.new V0 noX
    have p6 : w.heap.size ≤ V0.heap.size := OV0.below.size
    have n6 := lt_of_block OV0.one
    have m6 := lt_of_block OV0.two
    refine wpOp_make (v := .pointer (some ⟨V0.heap.size, 0, none⟩)) (w' := V0.alloc (.cells (xcells noX) 58)) rfl rfl (by kernel_rfl) ⟨OV26, ?_⟩
    generalize V0.heap.size = g6 at *
    generalize V0.alloc (.cells (xcells noX) 58) = V26 at *
    refine wpAnyH_all (rs := [1, 4]) (by kernel_rfl) (by simp) (fun i hi => ?_)
    simp only [List.mem_cons, List.not_mem_nil, or_false] at hi
    rcases hi with rfl | rfl
    refine wpOp_into (f := 38) (args := #[.agg #[.string a, .string b, .int .i64 st, .string c, .int .i64 mi, .slice fa fl fc, .slice ba bl bc]]) rfl rfl (by kernel_rfl) ((cQ.out _ OV26.below).mono ?_)
    rintro e V27 ⟨rfl, hbV27⟩
    have OV27 := OV26.later hbV27
    refine ⟨_, rfl, OV27, ?_⟩
    have R6V27 := R6V26.later hbV27
    refine wpAnyH_all (rs := [3, 4]) (by kernel_rfl) (by simp) (fun i hi => ?_)
    simp only [List.mem_cons, List.not_mem_nil, or_false] at hi
    rcases hi with rfl | rfl
    refine wpOp_into (f := 38) (args := #[.agg #[.string a', .string b', .int .i64 st', .string c', .int .i64 mi', .slice fa' fl' fc', .slice ba' bl' bc']]) rfl rfl (by kernel_rfl) ((cR.out _ OV27.below).mono ?_)
    rintro e V28 ⟨rfl, hbV28⟩
    have OV28 := OV27.later hbV28
    refine ⟨_, rfl, OV28, ?_⟩
    have R6V28 := R6V27.later hbV28
    refine wpAnyH_all (rs := [4]) (by kernel_rfl) (by simp) (fun i hi => ?_)
    obtain rfl := List.mem_singleton.1 hi
    have hbV29 : Below V28.heap.size V28 (V28.alloc (.cells (xcells noX) 58)) := (Below.refl _ _).alloc (Nat.le_refl _) _
    have OV29 := OV28.later hbV29
    have R5V29 : XAt (V28.alloc (.cells (xcells noX) 58)) V28.heap.size noX := XAt.new V28 noX
    have p5 : w.heap.size ≤ V28.heap.size := OV28.below.size
    have n5 := lt_of_block OV28.one
    have m5 := lt_of_block OV28.two
    have ne : g6 < V28.heap.size := R6V28.lt
    have R6V29 := R6V28.later hbV29
    refine wpOp_make (v := .pointer (some ⟨V28.heap.size, 0, none⟩)) (w' := V28.alloc (.cells (xcells noX) 58)) rfl rfl (by kernel_rfl) ⟨OV29, ?_⟩
    generalize V28.heap.size = g5 at *
    generalize V28.alloc (.cells (xcells noX) 58) = V29 at *
    have OL := OV29
    have R5L := R5V29
    have R6L := R6V29
    generalize V29 = VL at *
    rotate_left
    have hbV30 : Below V27.heap.size V27 (V27.alloc (.cells (xcells noX) 58)) := (Below.refl _ _).alloc (Nat.le_refl _) _
    have OV30 := OV27.later hbV30
    have R5V30 : XAt (V27.alloc (.cells (xcells noX) 58)) V27.heap.size noX := XAt.new V27 noX
    have p5 : w.heap.size ≤ V27.heap.size := OV27.below.size
    have n5 := lt_of_block OV27.one
    have m5 := lt_of_block OV27.two
    have ne : g6 < V27.heap.size := R6V27.lt
    have R6V30 := R6V27.later hbV30
    refine wpOp_make (v := .pointer (some ⟨V27.heap.size, 0, none⟩)) (w' := V27.alloc (.cells (xcells noX) 58)) rfl rfl (by kernel_rfl) ⟨OV30, ?_⟩
    generalize V27.heap.size = g5 at *
    generalize V27.alloc (.cells (xcells noX) 58) = V30 at *
    refine wpAnyH_all (rs := [3]) (by kernel_rfl) (by simp) (fun i hi => ?_)
    obtain rfl := List.mem_singleton.1 hi
    refine wpOp_into (f := 38) (args := #[.agg #[.string a', .string b', .int .i64 st', .string c', .int .i64 mi', .slice fa' fl' fc', .slice ba' bl' bc']]) rfl rfl (by kernel_rfl) ((cR.out _ OV30.below).mono ?_)
    rintro e V31 ⟨rfl, hbV31⟩
    have OV31 := OV30.later hbV31
    refine ⟨_, rfl, OV31, ?_⟩
    have R5V31 := R5V30.later hbV31
    have R6V31 := R6V30.later hbV31
    have OL := OV31
    have R5L := R5V31
    have R6L := R6V31
    generalize V31 = VL at *
    rotate_left
    have hbV32 : Below V26.heap.size V26 (V26.alloc (.cells (xcells noX) 58)) := (Below.refl _ _).alloc (Nat.le_refl _) _
    have OV32 := OV26.later hbV32
    have R5V32 : XAt (V26.alloc (.cells (xcells noX) 58)) V26.heap.size noX := XAt.new V26 noX
    have p5 : w.heap.size ≤ V26.heap.size := OV26.below.size
    have n5 := lt_of_block OV26.one
    have m5 := lt_of_block OV26.two
    have ne : g6 < V26.heap.size := R6V26.lt
    have R6V32 := R6V26.later hbV32
    refine wpOp_make (v := .pointer (some ⟨V26.heap.size, 0, none⟩)) (w' := V26.alloc (.cells (xcells noX) 58)) rfl rfl (by kernel_rfl) ⟨OV32, ?_⟩
    generalize V26.heap.size = g5 at *
    generalize V26.alloc (.cells (xcells noX) 58) = V32 at *
    refine wpAnyH_all (rs := [1]) (by kernel_rfl) (by simp) (fun i hi => ?_)
    obtain rfl := List.mem_singleton.1 hi
    refine wpOp_into (f := 38) (args := #[.agg #[.string a, .string b, .int .i64 st, .string c, .int .i64 mi, .slice fa fl fc, .slice ba bl bc]]) rfl rfl (by kernel_rfl) ((cQ.out _ OV32.below).mono ?_)
    rintro e V33 ⟨rfl, hbV33⟩
    have OV33 := OV32.later hbV33
    refine ⟨_, rfl, OV33, ?_⟩
    have R5V33 := R5V32.later hbV33
    have R6V33 := R6V32.later hbV33
    refine wpAnyH_all (rs := [3]) (by kernel_rfl) (by simp) (fun i hi => ?_)
    obtain rfl := List.mem_singleton.1 hi
    refine wpOp_into (f := 38) (args := #[.agg #[.string a', .string b', .int .i64 st', .string c', .int .i64 mi', .slice fa' fl' fc', .slice ba' bl' bc']]) rfl rfl (by kernel_rfl) ((cR.out _ OV33.below).mono ?_)
    rintro e V34 ⟨rfl, hbV34⟩
    have OV34 := OV33.later hbV34
    refine ⟨_, rfl, OV34, ?_⟩
    have R5V34 := R5V33.later hbV34
    have R6V34 := R6V33.later hbV34
    have OL := OV34
    have R5L := R5V34
    have R6L := R6V34
    generalize V34 = VL at *
    rotate_left
    all_goals
      refine wpAnyH_all (rs := [6]) (by kernel_rfl) (by simp) (fun i hi => ?_)
      obtain rfl := List.mem_singleton.1 hi
      refine wpOp_known (.store 58 (.tmp 5) (.tmp 8)) none (by kernel_rfl) (fun o e1 e2 => wp_store_row 58 _ _ e1 g5 (xcells q) (by kernel_rfl) (by kernel_rfl) 58 (xcells noX) R5L (x_info _) rfl h1 ?_)
      rw [e2]
      have OE := OL.row p5 (by omega) (by omega) (xcells q)
      have RE := R5L.row q
      have RF : XAt (VL.setRow g5 (xcells q)) g6 noX := heap_row R6L (by omega) _
      refine ⟨OE, ?_⟩
      generalize VL.setRow g5 (xcells q) = VE at *
      refine wpAnyH_all (rs := [7]) (by kernel_rfl) (by simp) (fun i hi => ?_)
      obtain rfl := List.mem_singleton.1 hi
      refine wpOp_known (.store 58 (.tmp 6) (.tmp 10)) none (by kernel_rfl) (fun o e1 e2 => wp_store_row 58 _ _ e1 g6 (xcells r) (by kernel_rfl) (by kernel_rfl) 58 (xcells noX) RF (x_info _) rfl h2 ?_)
      rw [e2]
      have OG := OE.row p6 (by omega) (by omega) (xcells r)
      have RG := RF.row r
      have RH : XAt (VE.setRow g6 (xcells r)) g5 q := heap_row RE (by omega) _
      refine ⟨OG, ?_⟩
      refine wpAnyH_done (P := Tryz.prog) (by kernel_rfl) ?_ 0
      generalize VE.setRow g6 (xcells r) = VG at *
      refine NoPanic.normal ?_
      go_simp
      go_wp2_with fail
      go_meet
      case rel => exact ⟨_, g5, g6, rfl, rfl, rfl, RH, RG, by omega, OG.below⟩
  case rest =>
    obtain ⟨w3, g5, g6, rfl, rfl, rfl, hq, hr, hne, hb3⟩ := hcut
    clear cQ cR h1 h2 hne HGA
    have hiq := x_info q
    have hir := x_info r
    unfold XAt at hq hr
    unfold xv at *
    generalize xcells q = cq at *
    generalize xcells r = cr at *
    by_cases hm : a = str Rl.mGet
    case neg =>
      have hmn := arr_neP hm
      rw [show Rl.mGet = [71, 69, 84] from rfl] at hmn
      have hmf : (a.toList == [71, 69, 84]) = false := beq_eq_false_iff_ne.2 (fun e => by rw [e] at hmn; simp at hmn)
      have HR := Lib.hid (E1.out (fun e => hm (by rw [← str_of a, e])))
      clear cH1 cH2 cS cT cL E1 E2 E3 E4 E5 E6 E7 E8 E9 E10
      have k0 := (row_at hq 0).trans HQ0.out
      go_wp2_with fail
      go_ret
      exact ⟨by rw [HR.out]; rfl, hb3⟩
    have hm' : a.data.toList = Rl.mGet := by rw [hm, str_list]
    clear E1
    subst hm
    have HQ0' : Hid (cq[0]? = some (.string ⟨#[71, 69, 84]⟩)) := HQ0
    clear HQ0
    have k0 := (row_at hq 0).trans HQ0'.out
    have hL := SBuf.lit_p w3 [Rl.kRange] #[.string ⟨#[114, 97, 110, 103, 101]⟩] rfl (by decide)
    have hb3' := hb3.trans (hL.2.mono hb3.size)
    have cA := cH1 _ _ hb3' hL.sin
    change Calls _ _ #[.agg cq, .slice (some ⟨w3.heap.size, 0, none⟩) 1 1] _ _ at cA
    have hq3 := blk_keep hq hL.2
    have hr3 := blk_keep hr hL.2
    clear cH1 hL
    go_wp2_with (refine wpList_row_if rfl 58 _ rfl g5 rfl 58 cq (0, 0) _ hq Tryz.underlying58 rfl hiq ?_)
    refine cA.mono ?_
    rintro e w4 ⟨rfl, hb4'⟩
    have hb4 := hb3'.trans (hb4'.mono hb3'.size)
    have hq4 := blk_keep hq3 hb4'
    have hr4 := blk_keep hr3 hb4'
    clear cA hb3' hb4' hq3 hr3 hb3 hq hr k0
    have k0 := (row_at hq4 0).trans HQ0'.out
    have k7 := (row_at hq4 7).trans HQ7.out
    have j2 := (row_at hr4 2).trans HR2.out
    have j7 := (row_at hr4 7).trans HR7.out
    have j10 := (row_at hr4 10).trans HR10.out
    clear HQ0' HQ7 HR2 HR7 HR10
    cases HRG with
    | true =>
      have HR := Lib.hid (E2.out rfl)
      clear cH2 cS cT cL E2 E3 E4 E5 E6 E7 E8 E9 E10
      go_wp2_with fail
      go_ret
      exact ⟨by rw [HR.out]; rfl, hb4⟩
    | false =>
      by_cases g1 : st' < 200
      · have HR := Lib.hid (E3.out g1)
        skip
        clear cH2 cS cT cL E2 E3 E4 E5 E6 E7 E8 E9 E10
        go_wp2_with fail
        go_ret
        exact ⟨by rw [HR.out]; rfl, hb4⟩
      have g1b : decide (st' < 200) = false := decide_eq_false g1
      by_cases g2 : st' = 206
      · have HR := Lib.hid (E4.out g2)
        subst g2
        clear cH2 cS cT cL E2 E3 E4 E5 E6 E7 E8 E9 E10
        go_wp2_with fail
        go_ret
        exact ⟨by rw [HR.out]; rfl, hb4⟩
      have g2b : (st' == 206) = false := beq_eq_false_iff_ne.2 g2
      by_cases g3 : st' = 304
      · have HR := Lib.hid (E5.out g3)
        subst g3
        clear cH2 cS cT cL E2 E3 E4 E5 E6 E7 E8 E9 E10
        go_wp2_with fail
        go_ret
        exact ⟨by rw [HR.out]; rfl, hb4⟩
      have g3b : (st' == 304) = false := beq_eq_false_iff_ne.2 g3
      cases qns with
      | true =>
        have HR := Lib.hid (E6.out rfl)
        clear cH2 cS cT cL E2 E3 E4 E5 E6 E7 E8 E9 E10
        go_wp2_with fail
        go_ret
        exact ⟨by rw [HR.out]; rfl, hb4⟩
      | false =>
        cases rns with
        | true =>
          have HR := Lib.hid (E7.out rfl)
          clear cH2 cS cT cL E2 E3 E4 E5 E6 E7 E8 E9 E10
          go_wp2_with fail
          go_ret
          exact ⟨by rw [HR.out]; rfl, hb4⟩
        | false =>
          cases rpr with
          | true =>
            have HR := Lib.hid (E8.out rfl)
            clear cH2 cS cT cL E2 E3 E4 E5 E6 E7 E8 E9 E10
            go_wp2_with fail
            go_ret
            exact ⟨by rw [HR.out]; rfl, hb4⟩
          | false =>
            have EX := Lib.hid (fun h => E10.out hm' rfl (by omega) g2 g3 rfl rfl rfl h)
            have EY := Lib.hid (fun h h2 => E9.out h h2)
            clear E2 E3 E4 E5 E6 E7 E8 E9 E10
            have hL := SBuf.lit_p w4 [Rl.kAuth] #[.string ⟨#[97, 117, 116, 104, 111, 114, 105, 122, 97, 116, 105, 111, 110]⟩] rfl (by decide)
            have hb5 := hb4.trans (hL.2.mono hb4.size)
            have cA := cH2 _ _ hb5 hL.sin
            change Calls _ _ #[.agg cq, .slice (some ⟨w4.heap.size, 0, none⟩) 1 1] _ _ at cA
            have hr5 := blk_keep hr4 hL.2
            clear cH2 hL
            go_wp2_with (refine wpList_load_row rfl 58 _ rfl g5 rfl 58 cq (0, 0) _ hq4 Tryz.underlying58 rfl hiq ?_)
            refine cA.mono ?_
            rintro e w6 ⟨rfl, hb6'⟩
            have hb6 := hb5.trans (hb6'.mono hb5.size)
            have hr6 := blk_keep hr5 hb6'
            clear cA hb5 hb6' hr5 hq4 hiq k0 k7 j2 j7 j10
            cases HAU with
            | false =>
              have HE := Lib.hid (EX.out (.inl rfl))
              clear EX EY cS
              have cT1 := cT w6 hb6
              go_wp2_with (refine wpList_load_row rfl 58 _ rfl g6 rfl 58 cr (0, 0) _ hr6 Tryz.underlying58 rfl hir ?_)
              refine cT1.mono ?_
              rintro e w7 ⟨rfl, hb7⟩
              have hb7' := hb6.trans (hb7.mono hb6.size)
              have hr7 := blk_keep hr6 hb7
              have cL1 := cL w7 hb7'
              clear cT1 cT cL hb7 hr6
              cases TA with
              | false =>
                have HR : Hid (RES = false) := Lib.hid (by rw [HE.out]; rfl)
                clear cL1 hir hr7
                go_wp2_with fail
                go_ret
                exact ⟨by rw [HR.out]; rfl, hb7'⟩
              | true =>
                have HR : Hid (RES = LS) := Lib.hid (by rw [HE.out]; rfl)
                go_wp2_with (refine wpList_row_if rfl 58 _ rfl g6 rfl 58 cr (0, 0) _ hr7 Tryz.underlying58 rfl hir ?_)
                refine cL1.mono ?_
                rintro e w8 ⟨rfl, hb8⟩
                go_wp2_with fail
                go_ret
                exact ⟨by rw [HR.out]; rfl, hb7'.trans (hb8.mono hb7'.size)⟩
            | true =>
              have cS1 := cS w6
              clear cS
              go_wp2_with (refine wpList_row_if rfl 58 _ rfl g6 rfl 58 cr (0, 0) _ hr6 Tryz.underlying58 rfl hir ?_)
              refine cS1.mono ?_
              rintro e w9 ⟨rfl, hb9⟩
              have hb9' := hb6.trans (hb9.mono hb6.size)
              have hr9 := blk_keep hr6 hb9
              clear cS1 hb9 hr6 hb6
              cases SH with
              | false =>
                have HR := Lib.hid (EY.out (by first | rfl | trivial) (by first | rfl | trivial))
                clear EX EY cT cL hir hr9
                go_wp2_with fail
                go_ret
                exact ⟨by rw [HR.out]; rfl, hb9'⟩
              | true =>
                have HE := Lib.hid (EX.out (.inr rfl))
                clear EX EY
                have cT1 := cT w9 hb9'
                go_wp2_with (refine wpList_load_row rfl 58 _ rfl g6 rfl 58 cr (0, 0) _ hr9 Tryz.underlying58 rfl hir ?_)
                refine cT1.mono ?_
                rintro e w7 ⟨rfl, hb7⟩
                have hb7' := hb9'.trans (hb7.mono hb9'.size)
                have hr7 := blk_keep hr9 hb7
                have cL1 := cL w7 hb7'
                clear cT1 cT cL hb7 hr9
                cases TA with
                | false =>
                  have HR : Hid (RES = false) := Lib.hid (by rw [HE.out]; rfl)
                  clear cL1 hir hr7
                  go_wp2_with fail
                  go_ret
                  exact ⟨by rw [HR.out]; rfl, hb7'⟩
                | true =>
                  have HR : Hid (RES = LS) := Lib.hid (by rw [HE.out]; rfl)
                  go_wp2_with (refine wpList_row_if rfl 58 _ rfl g6 rfl 58 cr (0, 0) _ hr7 Tryz.underlying58 rfl hir ?_)
                  refine cL1.mono ?_
                  rintro e w8 ⟨rfl, hb8⟩
                  go_wp2_with fail
                  go_ret
                  exact ⟨by rw [HR.out]; rfl, hb7'.trans (hb8.mono hb7'.size)⟩
end Go.Proofs.YtoanelobggledaaGreatDoor

