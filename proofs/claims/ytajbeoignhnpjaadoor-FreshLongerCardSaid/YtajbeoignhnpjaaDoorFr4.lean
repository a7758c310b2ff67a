/- The statements of layer 10: FreshLater. -/
import Derived.Test.YtajbeoignhnpjaaDoorFr3
namespace Go.Proofs.YtajbeoignhnpjaaDoor
open Go.RowKit

theorem blk_later {w w' : World} {g : Nat} {O : Obj} (h : w.heap[g]? = some O) (hb : Below w.heap.size w w') : w'.heap[g]? = some O := by
  rw [hb.block g (lt_of_block h)]; exact h
theorem three_new (w : World) (A B C : Obj) : (((w.alloc A).alloc B).alloc C).heap[w.heap.size]? = some A ∧ (((w.alloc A).alloc B).alloc C).heap[w.heap.size + 1]? = some B ∧ (((w.alloc A).alloc B).alloc C).heap[w.heap.size + 1 + 1]? = some C := by
  have hb : Below ((w.alloc A).alloc B).heap.size ((w.alloc A).alloc B) (((w.alloc A).alloc B).alloc C) := (Below.refl _ _).alloc (Nat.le_refl _) C
  refine ⟨blk_later (two_old w A B) hb, blk_later (heap_alloc2_new w A B) hb, ?_⟩
  have := heap_alloc_new ((w.alloc A).alloc B) C
  simpa using this

set_option maxHeartbeats 3200000 in
set_option maxRecDepth 100000 in
theorem later_w {D : List UInt8 → Option Int} {Env : World → Prop} (R : Prog10 D Env) (a b c : ByteArray) (st mi : Int) (fv bv : Value) (fs : List Fld.F) (ta tg n0 n1 : Int) (w : World) (he : Env w) (hf : FIn w fv fs) (sb : Sl bv)
    (hla : fs.length ≤ 9223372036854775807) (hsz : ∀ f ∈ fs, f.1.length ≤ 9223372036854775807 ∧ f.2.length ≤ 9223372036854775807) (ia : I64 ta) (ig : I64 tg) (i0 : I64 n0) (i1 : I64 n1) :
    Calls Tryd.prog 3 #[mv a b st c mi fv bv, tv ta tg, .agg #[.int .i64 n0, .int .i64 n1]] w fun e w' => e = .returned (.bool true) ∧ Below w.heap.size w w' := by
  have cA : Hid (∀ W', Below w.heap.size w W' → Calls Tryd.prog 6 #[] W' fun e w' => e = .returned (.bool true) ∧ Below W'.heap.size W' w') := Lib.hid fun W' hb => awake_w R W' (R.later he hb)
  have cS : Hid (∀ W', Below w.heap.size w W' → Calls Tryd.prog 7 #[mv a b st c mi fv bv] W' fun e w' => e = .returned (.bool (shortR fs)) ∧ Below W'.heap.size W' w') := Lib.hid fun W' hb => shortM_w a b c st mi fv bv fs W' (hf.later hb) hla hsz
  have cG : Hid (shortR fs = true → ∀ now, I64 now → ∀ W', Below w.heap.size w W' → Calls Tryd.prog 8 #[mv a b st c mi fv bv, tv ta tg, .int .i64 now] W' fun e w' => e = .returned (.int .i64 (Fr.age D fs ta tg now)) ∧ Below W'.heap.size W' w') := Lib.hid fun hs now hn W' hb => R.age a b c st mi fv bv fs ta tg now W' (R.later he hb) (hf.later hb) sb hs ia ig hn
  have cF : Hid (shortR fs = true → ∀ now, I64 now → ∀ W', Below w.heap.size w W' → Calls Tryd.prog 9 #[mv a b st c mi fv bv, tv ta tg, .int .i64 now] W' fun e w' => e = .returned (.bool (Fr.fresh D st fs ta tg now)) ∧ Below W'.heap.size W' w') := Lib.hid fun hs now hn W' hb => R.fresh a b c st mi fv bv fs ta tg now W' (R.later he hb) (hf.later hb) sb hs ia ig hn
  have cW : Hid (∀ W', Below w.heap.size w W' → Calls Tryd.prog 10 #[tv ta tg] W' fun e w' => e = .returned (.tuple #[.int .i64 (Fr.ask ta), .int .i64 (Fr.got ta tg)]) ∧ Below W'.heap.size W' w') := Lib.hid fun W' _ => When_w ta tg W'
  obtain ⟨aa, ca, rfl, hx9⟩ := id hf
  obtain ⟨W, hW⟩ : ∃ W, W = ((w.alloc (.cells #[.string a, .string b, .int .i64 st, .string c, .int .i64 mi, .slice aa fs.length ca, bv] 27)).alloc (.cells #[.int .i64 ta, .int .i64 tg] 29)).alloc (.cells #[.int .i64 n0, .int .i64 n1] 30) := ⟨_, rfl⟩
  have hbw : Below w.heap.size w W := by rw [hW]; exact (((Below.refl _ w).alloc (Nat.le_refl _) _).alloc (by simp) _).alloc (by simp; omega) _
  have h3 := three_new w (.cells #[.string a, .string b, .int .i64 st, .string c, .int .i64 mi, .slice aa fs.length ca, bv] 27) (.cells #[.int .i64 ta, .int .i64 tg] 29) (.cells #[.int .i64 n0, .int .i64 n1] 30)
  rw [← hW] at h3
  obtain ⟨q0, q1, q2⟩ := h3
  have HM := Lib.hid (fun (W' : World) (hb : Below W.heap.size W W') => set7' (blk_later q0 hb))
  have HT := Lib.hid (fun (W' : World) (hb : Below W.heap.size W W') => fcells2 (blk_later q1 hb))
  obtain ⟨p0, p1⟩ := fcells2 q2
  have HB := Lib.hid hbw
  have b0 := Below.refl W.heap.size W
  clear q0 q1 hbw hf he R hla hsz hx9
  unfold mv mcell tv at *
  generalize hn : fs.length = n at *
  clear hn
  by_cases hs : shortR fs = true
  case neg =>
    have cS' := cS
    rw [show shortR fs = false by simpa using hs] at cS'
    clear cS hs p0 p1 q2 cG cF cW HT ia ig i0 i1
    go_enter Tryd.func3, Tryd.ntmps3
    go_upto_region 1 with fail
    rw [← hW]
    clear hW
    go_wp2_with fail
    refine (cA.out W HB.out).mono ?_
    rintro e w1 ⟨rfl, hb1⟩
    obtain ⟨m0, m1, m2, m3, m4, m5, m6⟩ := HM.out w1 hb1
    have hB1 := HB.out.trans (hb1.mono HB.out.size)
    go_wp2_with fail
    refine (cS'.out w1 hB1).mono ?_
    rintro e w2 ⟨rfl, hb2⟩
    have hB2 := hB1.trans (hb2.mono hB1.size)
    clear m0 m1 m2 m3 m4 m5 m6
    go_wp2_with fail
    refine (cA.out w2 hB2).mono ?_
    rintro e w3 ⟨rfl, hb3⟩
    go_wp2_with fail
    go_ret
    exact ⟨rfl, hB2.trans (hb3.mono hB2.size)⟩
  have cS' := cS
  rw [hs] at cS'
  have cG0 := cG.out hs
  have cF0 := cF.out hs
  clear cS cG cF hs
  obtain ⟨lo, hlo⟩ : ∃ lo, lo = min n0 n1 := ⟨_, rfl⟩
  obtain ⟨hi, hhi⟩ : ∃ hi, hi = max n0 n1 := ⟨_, rfl⟩
  have HP := Lib.hid (fun (W' : World) (hb : Below W.heap.size W W') => fcells2 (blk_later q2 hb))
  clear p0 p1 q2
  go_enter Tryd.func3, Tryd.ntmps3
  go_upto_region 1 with fail
  rw [← hW]
  clear hW
  go_wp2_with fail
  refine (cA.out W HB.out).mono ?_
  rintro e w1 ⟨rfl, hb1⟩
  obtain ⟨m0, m1, m2, m3, m4, m5, m6⟩ := HM.out w1 hb1
  have hB1 := HB.out.trans (hb1.mono HB.out.size)
  go_wp2_with fail
  refine (cS'.out w1 hB1).mono ?_
  rintro e w2 ⟨rfl, hb2⟩
  clear m0 m1 m2 m3 m4 m5 m6
  have hb3 := hb1.trans (hb2.mono hb1.size)
  clear hb1 hB1 hb2 w1
  obtain ⟨p0, p1⟩ := HP.out w2 hb3
  go_upto_region 3 with fail
  go_cut [7, 8] (fun u7 u8 wx => ∃ w4, w4 = wx ∧ Below W.heap.size W w4 ∧ u7 = .int .i64 lo ∧ u8 = .int .i64 hi)
  case first =>
    go_region
    all_goals go_wp2_with fail
    all_goals go_meet
    all_goals (case rel => exact ⟨_, rfl, hb3.drew, congrArg (Value.int .i64) (by rw [hlo]; try (first | omega | (split <;> omega))), congrArg (Value.int .i64) (by rw [hhi]; try (first | omega | (split <;> omega)))⟩)
  case rest =>
    obtain ⟨w4, rfl, hb4, rfl, rfl⟩ := hcut
    clear p0 p1 hb3 w2 cS' cA HP
    have ilo : I64 lo := by unfold I64 at *; omega
    have ihi : I64 hi := by unfold I64 at *; omega
    have hle : lo ≤ hi := by omega
    have hB4 := HB.out.trans (hb4.mono HB.out.size)
    have hxy := Fr.age_later D fs ta tg hle
    have hfx := fun h => Fr.fresh_later D st fs ta tg hle h
    have hst := fun h1 h2 h3 => Fr.age_step D fs ta tg hle h1 h2 h3
    have hgb := Fr.got_bd ta tg
    have hx0 := Fr.age_bd D fs ta tg lo
    have hy0 := Fr.age_bd D fs ta tg hi
    have KX := fun p : LateOf w4 => cG0 lo ilo p.w (hB4.trans (p.h.mono hB4.size))
    have KY := fun p : LateOf w4 => cG0 hi ihi p.w (hB4.trans (p.h.mono hB4.size))
    have cX := cF0 lo ilo
    have cY := cF0 hi ihi
    unfold Fr.maxD at hx0 hy0 hst
    unfold Fr.far at hgb hst
    clear cG0 cF0
    generalize Fr.age D fs ta tg lo = x at *
    generalize Fr.age D fs ta tg hi = y at *
    generalize Fr.fresh D st fs ta tg lo = fx at *
    generalize Fr.fresh D st fs ta tg hi = fy at *
    generalize Fr.got ta tg = got at *
    generalize Fr.ask ta = ask at *
    unfold I64 at ilo ihi
    clear ia ig i0 i1 hlo hhi
    have HF := Lib.hid hfx
    have HX := Lib.hid hst
    clear hfx hst
    obtain ⟨m0, m1, m2, m3, m4, m5, m6⟩ := HM.out w4 hb4
    obtain ⟨t0, t1⟩ := HT.out w4 hb4
    go_upto_region 4 with fail
    have l0 := fun p : LateOf w4 => p.cell m0
    have l1 := fun p : LateOf w4 => p.cell m1
    have l2 := fun p : LateOf w4 => p.cell m2
    have l3 := fun p : LateOf w4 => p.cell m3
    have l4 := fun p : LateOf w4 => p.cell m4
    have l5 := fun p : LateOf w4 => p.cell m5
    have l6 := fun p : LateOf w4 => p.cell m6
    have l7 := fun p : LateOf w4 => p.cell t0
    have l8 := fun p : LateOf w4 => p.cell t1
    clear m0 m1 m2 m3 m4 m5 m6 t0 t1
    refine wp_region_late (by kernel_rfl) (by kernel_rfl) ?_
    repeat (quiet_step (fail))
    quiet_step ((go_at_call 8; exact late _ (KX _)))
    repeat (quiet_step (fail))
    quiet_step ((go_at_call 8; exact late _ (KY _)))
    repeat (quiet_step (fail))
    refine wpQuiet_nil ?_
    intro w5 hw'
    have hb5' : Below w4.heap.size w4 w5 := by obtain ⟨p, rfl⟩ := hw'; exact p.h
    have hb5 := hb4.trans (hb5'.mono hb4.size)
    clear hw' l0 l1 l2 l3 l4 l5 l6 l7 l8 KX KY hb5' hb4 hB4 w4
    obtain ⟨m0, m1, m2, m3, m4, m5, m6⟩ := HM.out w5 hb5
    obtain ⟨t0, t1⟩ := HT.out w5 hb5
    have hB5 := HB.out.trans (hb5.mono HB.out.size)
    go_upto_region 5 with fail
    go_cut [54] (fun u wx => ∃ w6, w6 = wx ∧ Below W.heap.size W w6 ∧ u = .bool false)
    case first =>
      cases fx
      · have hfy : fy = false := by
          have := HF.out
          cases fy
          · rfl
          · exact absurd (this rfl) (by decide)
        subst hfy
        go_wp2_with fail
        refine (cX w5 hB5).mono ?_
        rintro e w6 ⟨rfl, hb6'⟩
        have hb6 := hb5.trans (hb6'.mono hb5.size)
        have hB6 := HB.out.trans (hb6.mono HB.out.size)
        clear m0 m1 m2 m3 m4 m5 m6 t0 t1
        obtain ⟨m0, m1, m2, m3, m4, m5, m6⟩ := HM.out w6 hb6
        obtain ⟨t0, t1⟩ := HT.out w6 hb6
        go_wp2_with fail
        refine (cY w6 hB6).mono ?_
        rintro e w7 ⟨rfl, hb7'⟩
        go_wp2_with fail
        go_meet
        case rel => exact ⟨_, rfl, hb6.trans (hb7'.mono hb6.size), congrArg Value.bool (decide_eq_false (by omega))⟩
      · go_wp2_with fail
        refine (cX w5 hB5).mono ?_
        rintro e w6 ⟨rfl, hb6'⟩
        go_wp2_with fail
        go_meet
        case rel => exact ⟨_, rfl, hb5.trans (hb6'.mono hb5.size), congrArg Value.bool (decide_eq_false (by omega))⟩
    case rest =>
      obtain ⟨w6, rfl, hb6, rfl⟩ := hcut
      clear m0 m1 m2 m3 m4 m5 m6 t0 t1 hb5 hB5 w5
      clear cX cY HF
      obtain ⟨t0, t1⟩ := HT.out w6 hb6
      have hB6 := HB.out.trans (hb6.mono HB.out.size)
      by_cases h1 : lo < got
      · clear HX hxy hx0 hy0
        go_wp2_with fail
        refine (cW.out w6 hB6).mono ?_
        rintro e w7 ⟨rfl, hb7⟩
        go_wp2_with fail
        go_ret
        exact ⟨rfl, hB6.trans (hb7.mono hB6.size)⟩
      by_cases h2 : 1099511627776 < hi
      · clear HX hxy hx0 hy0
        go_wp2_with fail
        refine (cW.out w6 hB6).mono ?_
        rintro e w7 ⟨rfl, hb7⟩
        go_wp2_with fail
        go_ret
        exact ⟨rfl, hB6.trans (hb7.mono hB6.size)⟩
      by_cases h3 : y = 2147483647
      · subst h3
        clear HX hxy hx0 hy0
        go_wp2_with fail
        refine (cW.out w6 hB6).mono ?_
        rintro e w7 ⟨rfl, hb7⟩
        go_wp2_with fail
        go_ret
        exact ⟨rfl, hB6.trans (hb7.mono hB6.size)⟩
      have hD := HX.out (by omega) (by omega) h3
      obtain ⟨d, hd⟩ : ∃ d, d = hi - lo := ⟨_, rfl⟩
      have v1 : IntKind.i64.wrap (y - x) = d := by rw [IntKind.wrap_i64]; omega
      have v2 : IntKind.i64.wrap (hi - lo) = d := by rw [IntKind.wrap_i64]; omega
      have b3 : (y == 2147483647) = false := beq_eq_false_iff_ne.2 h3
      have HD := Lib.hid (show y - x = hi - lo from hD)
      clear HX hd hD h3
      go_wp2_with fail
      refine (cW.out w6 hB6).mono ?_
      rintro e w7 ⟨rfl, hb7⟩
      go_wp2_with fail
      go_ret
      exact ⟨rfl, hB6.trans (hb7.mono hB6.size)⟩
end Go.Proofs.YtajbeoignhnpjaaDoor
