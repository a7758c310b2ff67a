/- Package fresh, the program's side: Age, Fresh, Serve. -/
import Derived.Test.YtajbeoignhnpjaaDoorFrL
namespace Go.Proofs.YtajbeoignhnpjaaDoor
open Go.RowKit

theorem cells7_at {w : World} {g : Nat} {a b c d e f h : Value} {t : TypeId} (hh : w.heap[g]? = some (.cells #[a, b, c, d, e, f, h] t (0, 0))) :
    w.cell? ⟨g, 0, none⟩ = some a ∧ w.cell? ⟨g, 1, none⟩ = some b ∧ w.cell? ⟨g, 2, none⟩ = some c ∧ w.cell? ⟨g, 3, none⟩ = some d ∧ w.cell? ⟨g, 4, none⟩ = some e ∧ w.cell? ⟨g, 5, none⟩ = some f ∧ w.cell? ⟨g, 6, none⟩ = some h := by
  simp [World.cell?, hh]

set_option maxHeartbeats 1600000 in
set_option maxRecDepth 100000 in
theorem Age_w (a b c : ByteArray) (st mi : Int) (fv bv : Value) (fs : List Fld.F) (ta tg now : Int) (w : World) (hE : Env10 w) (hf : FIn w fv fs) (sb : Sl bv) (hs : shortR fs = true) :
    Calls Tryd.prog 8 #[mv a b st c mi fv bv, tv ta tg, .int .i64 now] w fun e w' => e = .returned (.int .i64 (Fr.age D0 fs ta tg now)) ∧ Below w.heap.size w w' := by
  obtain ⟨fa, fc, hfv, hx9⟩ := id hf
  obtain ⟨ba, bl, bc, rfl⟩ := sb
  clear hx9
  rw [hfv] at hf ⊢
  clear hfv
  have hgb := Fr.got_bd ta tg
  have hdb := Fr.date_bd D0_fine fs (g := Fr.got ta tg) (by omega) hgb.2.2
  obtain ⟨R, hR⟩ : ∃ R : Rsp, R = ⟨a, b, st, c, mi, .slice fa fs.length fc, .slice ba bl bc, Fr.ask ta, Fr.got ta tg, Fr.says fs, Fr.date D0 fs (Fr.got ta tg)⟩ := ⟨_, rfl⟩
  have cR := fun W' (hb : Below w.heap.size w W') => responseOf_w a b c st mi (.slice fa fs.length fc) (.slice ba bl bc) fs ta tg W' (hE.later hb) (hf.later hb) ⟨_, _, _, rfl⟩ hs
  rw [← hR] at cR
  have cA : ∀ W', Below w.heap.size w W' → Calls Tryd.prog 15 #[rv R, .int .i64 now] W' fun e w' => e = .returned (.int .i64 (Fr.age D0 fs ta tg now)) ∧ Below W'.heap.size W' w' := fun W' hb => by
    have := age_w R fs now W' (by rw [hR]; exact hf.later hb) hs (by rw [hR]; exact ⟨hgb.1, hgb.2.1, hgb.2.2⟩) (by rw [hR]; exact hdb)
    rw [hR] at this ⊢; exact this
  unfold rv at cR cA
  generalize Fr.age D0 fs ta tg now = o at *
  generalize fs.length = fl at *
  generalize rcells R = cc at *
  clear hR hf hE hs hgb hdb fs R
  obtain ⟨W, hW⟩ : ∃ W, W = (w.alloc (.cells #[.string a, .string b, .int .i64 st, .string c, .int .i64 mi, .slice fa fl fc, .slice ba bl bc] 27)).alloc (.cells #[.int .i64 ta, .int .i64 tg] 29) := ⟨_, rfl⟩
  have hbw : Below w.heap.size w W := by rw [hW]; exact ((Below.refl _ w).alloc (Nat.le_refl _) _).alloc (by simp) _
  have q0 : W.heap[w.heap.size]? = some (.cells #[.string a, .string b, .int .i64 st, .string c, .int .i64 mi, .slice fa fl fc, .slice ba bl bc] 27 (0, 0)) := by rw [hW]; exact blk_keep (heap_alloc_new w _) ((Below.refl _ _).alloc (Nat.le_refl _) _)
  have q1 : W.heap[w.heap.size + 1]? = some (.cells #[.int .i64 ta, .int .i64 tg] 29 (0, 0)) := by rw [hW]; exact heap_alloc2_new w _ _
  obtain ⟨m0, m1, m2, m3, m4, m5, m6⟩ := cells7_at q0
  obtain ⟨t0, t1⟩ := cells2_at q1
  clear q0 q1
  unfold mv mcell tv
  go_enter Tryd.func8, Tryd.ntmps8
  go_upto_region 1 with fail
  rw [← hW]
  clear hW
  go_wp2_with fail
  refine (cR W hbw).mono ?_
  rintro e w2 ⟨rfl, hb2⟩
  have hbw2 := hbw.trans (hb2.mono hbw.size)
  clear hb2 cR m0 m1 m2 m3 m4 m5 m6 t0 t1
  go_wp2_with fail
  refine (cA w2 hbw2).mono ?_
  rintro e w3 ⟨rfl, hb3⟩
  go_wp2_with fail
  go_ret
  exact ⟨rfl, hbw2.trans (hb3.mono hbw2.size)⟩

set_option maxHeartbeats 1600000 in
set_option maxRecDepth 100000 in
theorem Fresh_w (a b c : ByteArray) (st mi : Int) (fv bv : Value) (fs : List Fld.F) (ta tg now : Int) (w : World) (hE : Env10 w) (hf : FIn w fv fs) (sb : Sl bv) (hs : shortR fs = true) :
    Calls Tryd.prog 9 #[mv a b st c mi fv bv, tv ta tg, .int .i64 now] w fun e w' => e = .returned (.bool (Fr.fresh D0 st fs ta tg now)) ∧ Below w.heap.size w w' := by
  obtain ⟨fa, fc, hfv, hx9⟩ := id hf
  obtain ⟨ba, bl, bc, rfl⟩ := sb
  clear hx9
  rw [hfv] at hf ⊢
  clear hfv
  have hgb := Fr.got_bd ta tg
  have hdb := Fr.date_bd D0_fine fs (g := Fr.got ta tg) (by omega) hgb.2.2
  obtain ⟨R, hR⟩ : ∃ R : Rsp, R = ⟨a, b, st, c, mi, .slice fa fs.length fc, .slice ba bl bc, Fr.ask ta, Fr.got ta tg, Fr.says fs, Fr.date D0 fs (Fr.got ta tg)⟩ := ⟨_, rfl⟩
  have cR := fun W' (hb : Below w.heap.size w W') => responseOf_w a b c st mi (.slice fa fs.length fc) (.slice ba bl bc) fs ta tg W' (hE.later hb) (hf.later hb) ⟨_, _, _, rfl⟩ hs
  rw [← hR] at cR
  have cA : ∀ W', Below w.heap.size w W' → Calls Tryd.prog 15 #[rv R, .int .i64 now] W' fun e w' => e = .returned (.int .i64 (Fr.age D0 fs ta tg now)) ∧ Below W'.heap.size W' w' := fun W' hb => by
    have := age_w R fs now W' (by rw [hR]; exact hf.later hb) hs (by rw [hR]; exact ⟨hgb.1, hgb.2.1, hgb.2.2⟩) (by rw [hR]; exact hdb)
    rw [hR] at this ⊢; exact this
  have cL : ∀ W', Below w.heap.size w W' → Calls Tryd.prog 16 #[rv R] W' fun e w' => e = .returned (lv (Fr.life D0 st fs (Fr.got ta tg))) ∧ Below W'.heap.size W' w' := fun W' hb => by
    have := lifetime_w R fs (Fr.got ta tg) W' (by rw [hR]; exact hf.later hb) hs (hE.later hb) (by rw [hR]) (by rw [hR]) (by rw [hR]; exact hdb)
    rw [hR] at this ⊢; exact this
  unfold lv at cL
  have hi := rsp_info R
  have h1 : (rcells R).all (·.oneCell') = true := rcells_one (by rw [hR]; exact ⟨_, _, _, rfl⟩) (by rw [hR]; exact ⟨_, _, _, rfl⟩)
  have hsz : (rcells noRsp).size = (rcells R).size := rfl
  have hlb := Fr.life_bd D0 st fs (Fr.got ta tg)
  have hob := Fr.age_bd D0 fs ta tg now
  unfold Fr.maxD at hob
  unfold rv at cR cA cL
  have HR : Hid (Fr.fresh D0 st fs ta tg now = decide (Fr.age D0 fs ta tg now < (Fr.life D0 st fs (Fr.got ta tg)).1)) := Lib.hid rfl
  rw [HR.out]
  generalize Fr.age D0 fs ta tg now = o at *
  generalize (Fr.life D0 st fs (Fr.got ta tg)).1 = n at *
  generalize (Fr.life D0 st fs (Fr.got ta tg)).2 = sd at *
  clear HR
  generalize fs.length = fl at *
  generalize rcells R = cc at *
  clear hR hf hE hs hgb hdb hlb hob fs R
  obtain ⟨W, hW⟩ : ∃ W, W = (w.alloc (.cells #[.string a, .string b, .int .i64 st, .string c, .int .i64 mi, .slice fa fl fc, .slice ba bl bc] 27)).alloc (.cells #[.int .i64 ta, .int .i64 tg] 29) := ⟨_, rfl⟩
  have hbw : Below w.heap.size w W := by rw [hW]; exact ((Below.refl _ w).alloc (Nat.le_refl _) _).alloc (by simp) _
  have q0 : W.heap[w.heap.size]? = some (.cells #[.string a, .string b, .int .i64 st, .string c, .int .i64 mi, .slice fa fl fc, .slice ba bl bc] 27 (0, 0)) := by rw [hW]; exact blk_keep (heap_alloc_new w _) ((Below.refl _ _).alloc (Nat.le_refl _) _)
  have q1 : W.heap[w.heap.size + 1]? = some (.cells #[.int .i64 ta, .int .i64 tg] 29 (0, 0)) := by rw [hW]; exact heap_alloc2_new w _ _
  obtain ⟨m0, m1, m2, m3, m4, m5, m6⟩ := cells7_at q0
  obtain ⟨t0, t1⟩ := cells2_at q1
  clear q0 q1
  unfold mv mcell tv
  have HF : Hid (o < n ∨ ¬ o < n) := Lib.hid (by omega)
  go_enter Tryd.func9, Tryd.ntmps9
  go_upto_region 1 with fail
  rw [← hW]
  clear hW
  go_wp2_with fail
  refine (cR W hbw).mono ?_
  rintro e w2 ⟨rfl, hb2⟩
  have hbw2 := hbw.trans (hb2.mono hbw.size)
  clear hb2 cR m0 m1 m2 m3 m4 m5 m6 t0 t1
  have hz := heap_alloc_new w2 (.cells (rcells noRsp) 50)
  have hbz := hbw2.alloc (o := .cells (rcells noRsp) 50) hbw2.size
  have hr3 := setRow_heap _ _ _ cc _ _ hz
  have hbw3 := Below.row hbz hbw2.size cc
  have hg3 := hbw2.size
  go_upto_region 2 with (refine wpList_store_row rfl 50 _ _ rfl w2.heap.size cc rfl rfl 50 (rcells noRsp) hz hi hsz h1 ?_)
  change Code.wp _ _ _ _ ((w2.alloc (.cells (rcells noRsp) 50)).setRow w2.heap.size cc)
  generalize (w2.alloc (.cells (rcells noRsp) 50)).setRow w2.heap.size cc = w3 at *
  generalize w2.heap.size = g at *
  clear hz hbz hbw2 w2 hbw W
  go_wp2_with (refine wpList_load_row rfl 50 _ rfl g rfl 50 cc (0, 0) _ hr3 Tryd.underlying50 rfl hi ?_)
  refine (cL w3 hbw3).mono ?_
  rintro e w4 ⟨rfl, hb4⟩
  have hbw4 := hbw3.trans (hb4.mono hbw3.size)
  have hr4 := blk_keep hr3 hb4
  clear hb4 hr3 hbw3 cL w3
  go_wp2_with (refine wpList_load_row rfl 50 _ rfl g rfl 50 cc (0, 0) _ hr4 Tryd.underlying50 rfl hi ?_)
  refine (cA w4 hbw4).mono ?_
  rintro e w5 ⟨rfl, hb5⟩
  have hbw5 := hbw4.trans (hb5.mono hbw4.size)
  clear hb5 hr4 hbw4 cA
  go_wp2_with fail
  go_ret
  exact ⟨rfl, hbw5⟩
end Go.Proofs.YtajbeoignhnpjaaDoor
