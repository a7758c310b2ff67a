/- Package fresh, the program's side: Serve. -/
import Derived.Test.YtajbeoignhnpjaaDoorFrM
namespace Go.Proofs.YtajbeoignhnpjaaDoor
open Go.RowKit

/-- A whole struct loaded where a guard lets it. -/
theorem wpList_row_if {P : Program} {ops : Array Oper} {rest : List Oper} {o : Oper} {a : Act} {w : World} {Q : Exit → Act → World → Prop} (hgd : Region.wanted o (yielded ops a.tmps) = true) (ty : TypeId) (x : Operand) (ho : o.op = .load ty x)
    (g : Nat) (hx : a.eval x = .pointer (some ⟨g, 0, none⟩)) (t : TypeId) (cs : Array Value) (fr : Nat × Nat) (d : TypeDesc) (hg : w.heap[g]? = some (.cells cs t fr))
    (hu : P.underlying ty = some d) (hd : (match d with | .struct _ | .array _ _ => true | _ => false) = true) (hi : (P.info? ty).map (·.size) = some cs.size)
    (h : wpList P ops Q rest (a.put o.dst (.agg cs)) w) : wpList P ops Q (o :: rest) a w := by
  unfold wpList
  rw [if_pos hgd]
  exact .inl (wp_load_row ty x ho g hx t cs fr d hg hu hd hi h)
theorem may_1 {s q : Ctl.C} {n o : Int} (h : q.nc = true) : Fr.may s q n o = false := by unfold Fr.may; rw [h]; simp
theorem may_2 {s q : Ctl.C} {n o : Int} (h : s.nc = true) : Fr.may s q n o = false := by unfold Fr.may; rw [h]; simp
theorem may_3 {s q : Ctl.C} {n o : Int} (h : 0 ≤ q.ma) (h' : q.ma < o) : Fr.may s q n o = false := by unfold Fr.may; rw [decide_eq_true h, decide_eq_true h']; simp
theorem may_4 {s q : Ctl.C} {n o : Int} (h : 0 ≤ q.mf) (h' : n - o < q.mf) : Fr.may s q n o = false := by unfold Fr.may; rw [decide_eq_true h, decide_eq_true h']; simp
theorem may_else {s q : Ctl.C} {n o : Int} (h1 : q.nc = false) (h2 : s.nc = false) (h3 : ¬ (0 ≤ q.ma ∧ q.ma < o)) (h4 : ¬ (0 ≤ q.mf ∧ n - o < q.mf)) :
    Fr.may s q n o = if o < n then true else decide (0 ≤ q.ms) && decide (o - n ≤ q.ms) && !s.mu && !s.px && decide (s.sa < 0) := by
  unfold Fr.may
  rw [if_neg]
  simp only [Bool.or_eq_true, Bool.and_eq_true, decide_eq_true_eq, h1, h2]
  intro h
  rcases h with ((h | h) | h) | h
  · cases h
  · cases h
  · exact h3 h
  · exact h4 h

set_option maxHeartbeats 6400000 in
set_option maxRecDepth 100000 in
theorem Serve_w (a b c : ByteArray) (st mi : Int) (fv bv : Value) (fs : List Fld.F) (ta tg now : Int) (q : Ctl.C) (w : World) (hE : Env10 w) (hf : FIn w fv fs) (sb : Sl bv) (hs : shortR fs = true) :
    Calls Tryd.prog 11 #[mv a b st c mi fv bv, tv ta tg, .int .i64 now, cval q] w fun e w' => e = .returned (.bool (Fr.serve D0 st fs ta tg now q)) ∧ Below w.heap.size w w' := by
  obtain ⟨fa, fc, hfv, hx9⟩ := id hf
  obtain ⟨ba, bl, bc, rfl⟩ := sb
  clear hx9
  rw [hfv] at hf ⊢
  clear hfv
  have hgb := Fr.got_bd ta tg
  have hdb := Fr.date_bd D0_fine fs (g := Fr.got ta tg) (by omega) hgb.2.2
  obtain ⟨R, hR⟩ : ∃ R : Rsp, R = ⟨a, b, st, c, mi, .slice fa fs.length fc, .slice ba bl bc, Fr.ask ta, Fr.got ta tg, Fr.says fs, Fr.date D0 fs (Fr.got ta tg)⟩ := ⟨_, rfl⟩
  have cR := fun W' (hb : Below w.heap.size w W') => responseOf_w a b c st mi (.slice fa fs.length fc) (.slice ba bl bc) fs ta tg W' (hE.later hb) (hf.later hb) ⟨_, _, _, rfl⟩ hs
  rw [← hR] at cR
  have cA : ∀ W', Below w.heap.size w W' → Calls Tryd.prog 15 #[rv R, .int .i64 now] W' fun e w' => e = .returned (.int .i64 (Fr.age D0 fs ta tg now)) ∧ Below W'.heap.size W' w' := fun W' hb => by
    have := age_w R fs now W' (by rw [hR]; exact hf.later hb) hs (by rw [hR]; exact ⟨hgb.1, hgb.2.1, hgb.2.2⟩) (by rw [hR]; exact hdb)
    rw [hR] at this ⊢; exact this
  have cL : ∀ W', Below w.heap.size w W' → Calls Tryd.prog 16 #[rv R] W' fun e w' => e = .returned (lv (Fr.life D0 st fs (Fr.got ta tg))) ∧ Below W'.heap.size W' w' := fun W' hb => by
    have := lifetime_w R fs (Fr.got ta tg) W' (by rw [hR]; exact hf.later hb) hs (hE.later hb) (by rw [hR]) (by rw [hR]) (by rw [hR]; exact hdb)
    rw [hR] at this ⊢; exact this
  unfold lv at cL
  have hi := rsp_info R
  have h1 : (rcells R).all (·.oneCell') = true := rcells_one (by rw [hR]; exact ⟨_, _, _, rfl⟩) (by rw [hR]; exact ⟨_, _, _, rfl⟩)
  have hsz : (rcells noRsp).size = (rcells R).size := rfl
  have hlb := Fr.life_bd D0 st fs (Fr.got ta tg)
  have hob := Fr.age_bd D0 fs ta tg now
  unfold Fr.maxD at hob
  have cT : ∀ W', Below w.heap.size w W' → Calls Tryd.prog 19 #[rv R] W' fun e w' => e = .returned (.bool ((Fr.says fs).mu || (Fr.says fs).px || decide (0 ≤ (Fr.says fs).sa))) ∧ Below W'.heap.size W' w' := fun W' _ => by
    have := stern_w R W'
    rw [hR] at this ⊢; exact this
  unfold rv at cR cA cL cT
  have HM1 := Lib.hid (fun h => may_1 (s := Fr.says fs) (q := q) (n := (Fr.life D0 st fs (Fr.got ta tg)).1) (o := Fr.age D0 fs ta tg now) h)
  have HM2 := Lib.hid (fun h => may_2 (s := Fr.says fs) (q := q) (n := (Fr.life D0 st fs (Fr.got ta tg)).1) (o := Fr.age D0 fs ta tg now) h)
  have HM3 := Lib.hid (fun h h' => may_3 (s := Fr.says fs) (q := q) (n := (Fr.life D0 st fs (Fr.got ta tg)).1) (o := Fr.age D0 fs ta tg now) h h')
  have HM4 := Lib.hid (fun h h' => may_4 (s := Fr.says fs) (q := q) (n := (Fr.life D0 st fs (Fr.got ta tg)).1) (o := Fr.age D0 fs ta tg now) h h')
  have HMe := Lib.hid (fun h1 h2 h3 h4 => may_else (s := Fr.says fs) (q := q) (n := (Fr.life D0 st fs (Fr.got ta tg)).1) (o := Fr.age D0 fs ta tg now) h1 h2 h3 h4)
  have HM0 : Hid (Fr.serve D0 st fs ta tg now q = Fr.may (Fr.says fs) q (Fr.life D0 st fs (Fr.got ta tg)).1 (Fr.age D0 fs ta tg now)) := Lib.hid rfl
  rw [HM0.out]
  have HZ : Hid (∀ b : Bool, (b && !(Fr.says fs).mu && !(Fr.says fs).px && decide ((Fr.says fs).sa < 0)) = (b && !((Fr.says fs).mu || (Fr.says fs).px || decide (0 ≤ (Fr.says fs).sa)))) := Lib.hid fun b => by
    rw [show decide ((Fr.says fs).sa < 0) = !decide (0 ≤ (Fr.says fs).sa) by by_cases h : 0 ≤ (Fr.says fs).sa <;> simp [h] <;> omega]
    cases b <;> cases (Fr.says fs).mu <;> cases (Fr.says fs).px <;> rfl
  generalize Fr.may (Fr.says fs) q (Fr.life D0 st fs (Fr.got ta tg)).1 (Fr.age D0 fs ta tg now) = M at *
  have c10 : Hid (∀ (W' : World) (g : Nat), W'.heap[g]? = some (.cells (rcells R) 50 (0, 0)) → W'.cell? ⟨g, 10, none⟩ = some (.bool (Fr.says fs).nc)) := Lib.hid fun W' g h => by
    rw [(show RspAt W' g R from h).cell 10, hR]; rfl
  generalize Fr.age D0 fs ta tg now = o at *
  generalize (Fr.life D0 st fs (Fr.got ta tg)).1 = n at *
  generalize (Fr.life D0 st fs (Fr.got ta tg)).2 = sd at *
  generalize hz : ((Fr.says fs).mu || (Fr.says fs).px || decide (0 ≤ (Fr.says fs).sa)) = z at *
  have HMf : Hid (q.nc = false → (Fr.says fs).nc = false → ¬ (0 ≤ q.ma ∧ q.ma < o) → ¬ (0 ≤ q.mf ∧ n - o < q.mf) → M = if o < n then true else decide (0 ≤ q.ms) && decide (o - n ≤ q.ms) && !z) := Lib.hid fun h1 h2 h3 h4 => by
    have h := HMe.out h1 h2 h3 h4
    rw [HZ.out] at h
    exact h
  clear HMe HM0 HZ hz
  generalize (Fr.says fs).nc = sn at *
  obtain ⟨hl0, hl1⟩ := hlb
  obtain ⟨ho0, ho1⟩ := hob
  obtain ⟨x1, f1⟩ : ∃ x1, n - o = x1 := ⟨_, rfl⟩
  have w1 : IntKind.i64.wrap (n - o) = x1 := by rw [IntKind.wrap_i64]; omega
  obtain ⟨y1, f2⟩ : ∃ y1, o - n = y1 := ⟨_, rfl⟩
  have w2 : IntKind.i64.wrap (o - n) = y1 := by rw [IntKind.wrap_i64]; omega
  rw [f1] at HM4 HMf
  rw [f2] at HMf
  clear f1 f2 hl0 hl1 ho0 ho1
  have HM5 : Hid (q.nc = false → sn = false → ¬ (0 ≤ q.ma ∧ q.ma < o) → ¬ (0 ≤ q.mf ∧ x1 < q.mf) → o < n → M = true) := Lib.hid fun h1 h2 h3 h4 h5 => by rw [HMf.out h1 h2 h3 h4, if_pos h5]
  have HM6 : Hid (q.nc = false → sn = false → ¬ (0 ≤ q.ma ∧ q.ma < o) → ¬ (0 ≤ q.mf ∧ x1 < q.mf) → ¬ o < n → 0 ≤ q.ms → y1 ≤ q.ms → M = !z) := Lib.hid fun h1 h2 h3 h4 h5 h6 h7 => by rw [HMf.out h1 h2 h3 h4, if_neg h5, decide_eq_true h6, decide_eq_true h7]; simp
  have HM7 : Hid (q.nc = false → sn = false → ¬ (0 ≤ q.ma ∧ q.ma < o) → ¬ (0 ≤ q.mf ∧ x1 < q.mf) → ¬ o < n → ¬ y1 ≤ q.ms → M = false) := Lib.hid fun h1 h2 h3 h4 h5 h7 => by rw [HMf.out h1 h2 h3 h4, if_neg h5, decide_eq_false h7]; simp
  have HM8 : Hid (q.nc = false → sn = false → ¬ (0 ≤ q.ma ∧ q.ma < o) → ¬ (0 ≤ q.mf ∧ x1 < q.mf) → ¬ o < n → ¬ 0 ≤ q.ms → M = false) := Lib.hid fun h1 h2 h3 h4 h5 h6 => by rw [HMf.out h1 h2 h3 h4, if_neg h5, decide_eq_false h6]; simp
  clear HMf
  generalize fs.length = fl at *
  generalize rcells R = cc at *
  clear hR hf hE hs hgb hdb fs R
  obtain ⟨W, hW⟩ : ∃ W, W = ((w.alloc (.cells #[.string a, .string b, .int .i64 st, .string c, .int .i64 mi, .slice fa fl fc, .slice ba bl bc] 27)).alloc (.cells #[.int .i64 ta, .int .i64 tg] 29)).alloc (.cells #[.bool q.ns, .bool q.nc, .bool q.pu, .bool q.pr, .bool q.mu, .bool q.px, .bool q.oi, .int .i64 q.ma, .int .i64 q.sa, .int .i64 q.ms, .int .i64 q.mf] 39) := ⟨_, rfl⟩
  have hbw : Below w.heap.size w W := by rw [hW]; exact (((Below.refl _ w).alloc (Nat.le_refl _) _).alloc (by simp) _).alloc (by simp; omega) _
  have h3 := three_at w (.cells #[.string a, .string b, .int .i64 st, .string c, .int .i64 mi, .slice fa fl fc, .slice ba bl bc] 27) (.cells #[.int .i64 ta, .int .i64 tg] 29) (.cells #[.bool q.ns, .bool q.nc, .bool q.pu, .bool q.pr, .bool q.mu, .bool q.px, .bool q.oi, .int .i64 q.ma, .int .i64 q.sa, .int .i64 q.ms, .int .i64 q.mf] 39)
  rw [← hW] at h3
  obtain ⟨q0, q1, q2⟩ := h3
  obtain ⟨m0, m1, m2, m3, m4, m5, m6⟩ := cells7_at q0
  obtain ⟨t0, t1⟩ := cells2_at q1
  have HQ := Lib.hid (fun (W' : World) (hb : Below W.heap.size W W') => (show CAt W' (w.heap.size + 1 + 1) q from blk_keep q2 hb).cells)
  have hWW := Below.refl W.heap.size W
  clear q0 q1 q2
  unfold mv mcell tv cval ccells
  go_enter Tryd.func11, Tryd.ntmps11
  go_upto_region 1 with fail
  rw [← hW]
  clear hW
  go_wp2_with fail
  refine (cR W hbw).mono ?_
  rintro e w2 ⟨rfl, hb2⟩
  have hbw2 := hbw.trans (hb2.mono hbw.size)
  have hWW := hWW.trans (hb2.mono hWW.size)
  clear hb2 cR m0 m1 m2 m3 m4 m5 m6 t0 t1
  have hz := heap_alloc_new w2 (.cells (rcells noRsp) 50)
  have hbz := hbw2.alloc (o := .cells (rcells noRsp) 50) hbw2.size
  have hr3 := setRow_heap _ _ _ cc _ _ hz
  have hbw3 := Below.row hbz hbw2.size cc
  have hg3 := hbw2.size
  have hWW3 := Below.row (hWW.alloc (o := .cells (rcells noRsp) 50) hWW.size) hWW.size cc
  go_upto_region 2 with (refine wpList_store_row rfl 50 _ _ rfl w2.heap.size cc rfl rfl 50 (rcells noRsp) hz hi hsz h1 ?_)
  change Code.wp _ _ _ _ ((w2.alloc (.cells (rcells noRsp) 50)).setRow w2.heap.size cc)
  generalize (w2.alloc (.cells (rcells noRsp) 50)).setRow w2.heap.size cc = w3 at *
  generalize w2.heap.size = g at *
  clear hz hbz hbw2 w2 hbw hWW
  go_wp2_with (refine wpList_load_row rfl 50 _ rfl g rfl 50 cc (0, 0) _ hr3 Tryd.underlying50 rfl hi ?_)
  refine (cL w3 hbw3).mono ?_
  rintro e w4 ⟨rfl, hb4⟩
  have hWW4 := hWW3.trans (hb4.mono hWW3.size)
  have hbw4 := hbw3.trans (hb4.mono hbw3.size)
  have hr4 := blk_keep hr3 hb4
  clear hb4 hr3 hbw3 hWW3 cL w3
  go_upto_region 3 with fail
  go_wp2_with (refine wpList_load_row rfl 50 _ rfl g rfl 50 cc (0, 0) _ hr4 Tryd.underlying50 rfl hi ?_)
  refine (cA w4 hbw4).mono ?_
  rintro e w5 ⟨rfl, hb5⟩
  have hbw5 := hbw4.trans (hb5.mono hbw4.size)
  have hr5 := blk_keep hr4 hb5
  have hWW5 := hWW4.trans (hb5.mono hWW4.size)
  have k10 := c10.out w5 g hr5
  obtain ⟨j0, j1, j2, j3, j4, j5, j6, j7, j8, j9, j10⟩ := HQ.out w5 hWW5
  clear hb5 hr4 hbw4 hWW4 hWW5 cA HQ c10 w4 j0 j2 j3 j4 j5 j6 j8
  generalize q.nc = qn at *
  generalize q.ma = ma at *
  generalize q.ms = ms at *
  generalize q.mf = mf at *
  go_upto_region 4 with fail
  cases qn
  · cases sn
    · by_cases h3 : 0 ≤ ma
      · by_cases h3' : ma < o
        · have HR : Hid (M = false) := Lib.hid (HM3.out h3 h3')
          clear HM1 HM2 HM3 HM4 HM5 HM6 HM7 HM8
          clear cT hi hr5
          go_wp2_with fail
          go_ret
          exact ⟨by rw [HR.out]; rfl, hbw5⟩
        · by_cases h4 : 0 ≤ mf
          · by_cases h4' : x1 < mf
            · have HR : Hid (M = false) := Lib.hid (HM4.out h4 h4')
              clear HM1 HM2 HM3 HM4 HM5 HM6 HM7 HM8
              clear cT hi hr5
              go_wp2_with fail
              go_ret
              exact ⟨by rw [HR.out]; rfl, hbw5⟩
            · by_cases h5 : o < n
              · have HR : Hid (M = true) := Lib.hid (HM5.out rfl rfl (fun h => h3' h.2) (fun h => h4' h.2) (by omega))
                clear HM1 HM2 HM3 HM4 HM5 HM6 HM7 HM8
                go_wp2_with fail
                go_ret
                exact ⟨by rw [HR.out]; rfl, hbw5⟩
              · by_cases h6 : 0 ≤ ms
                · by_cases h7 : y1 ≤ ms
                  · have HR : Hid (M = !z) := Lib.hid (HM6.out rfl rfl (fun h => h3' h.2) (fun h => h4' h.2) (by omega) (by omega) (by omega))
                    clear HM1 HM2 HM3 HM4 HM5 HM6 HM7 HM8
                    go_wp2_with (refine wpList_row_if rfl 50 _ rfl g rfl 50 cc (0, 0) _ hr5 Tryd.underlying50 rfl hi ?_)
                    refine (cT w5 hbw5).mono ?_
                    rintro e w6 ⟨rfl, hb6⟩
                    go_wp2_with fail
                    go_ret
                    exact ⟨by rw [HR.out]; rfl, hbw5.trans (hb6.mono hbw5.size)⟩
                  · have HR : Hid (M = false) := Lib.hid (HM7.out rfl rfl (fun h => h3' h.2) (fun h => h4' h.2) (by omega) (by omega))
                    clear HM1 HM2 HM3 HM4 HM5 HM6 HM7 HM8
                    clear cT hi hr5
                    go_wp2_with fail
                    go_ret
                    exact ⟨by rw [HR.out]; rfl, hbw5⟩
                · have HR : Hid (M = false) := Lib.hid (HM8.out rfl rfl (fun h => h3' h.2) (fun h => h4' h.2) (by omega) (by omega))
                  clear HM1 HM2 HM3 HM4 HM5 HM6 HM7 HM8
                  clear cT hi hr5
                  go_wp2_with fail
                  go_ret
                  exact ⟨by rw [HR.out]; rfl, hbw5⟩
          · by_cases h5 : o < n
            · have HR : Hid (M = true) := Lib.hid (HM5.out rfl rfl (fun h => h3' h.2) (fun h => h4 h.1) (by omega))
              clear HM1 HM2 HM3 HM4 HM5 HM6 HM7 HM8
              go_wp2_with fail
              go_ret
              exact ⟨by rw [HR.out]; rfl, hbw5⟩
            · by_cases h6 : 0 ≤ ms
              · by_cases h7 : y1 ≤ ms
                · have HR : Hid (M = !z) := Lib.hid (HM6.out rfl rfl (fun h => h3' h.2) (fun h => h4 h.1) (by omega) (by omega) (by omega))
                  clear HM1 HM2 HM3 HM4 HM5 HM6 HM7 HM8
                  go_wp2_with (refine wpList_row_if rfl 50 _ rfl g rfl 50 cc (0, 0) _ hr5 Tryd.underlying50 rfl hi ?_)
                  refine (cT w5 hbw5).mono ?_
                  rintro e w6 ⟨rfl, hb6⟩
                  go_wp2_with fail
                  go_ret
                  exact ⟨by rw [HR.out]; rfl, hbw5.trans (hb6.mono hbw5.size)⟩
                · have HR : Hid (M = false) := Lib.hid (HM7.out rfl rfl (fun h => h3' h.2) (fun h => h4 h.1) (by omega) (by omega))
                  clear HM1 HM2 HM3 HM4 HM5 HM6 HM7 HM8
                  clear cT hi hr5
                  go_wp2_with fail
                  go_ret
                  exact ⟨by rw [HR.out]; rfl, hbw5⟩
              · have HR : Hid (M = false) := Lib.hid (HM8.out rfl rfl (fun h => h3' h.2) (fun h => h4 h.1) (by omega) (by omega))
                clear HM1 HM2 HM3 HM4 HM5 HM6 HM7 HM8
                clear cT hi hr5
                go_wp2_with fail
                go_ret
                exact ⟨by rw [HR.out]; rfl, hbw5⟩
      · by_cases h4 : 0 ≤ mf
        · by_cases h4' : x1 < mf
          · have HR : Hid (M = false) := Lib.hid (HM4.out h4 h4')
            clear HM1 HM2 HM3 HM4 HM5 HM6 HM7 HM8
            clear cT hi hr5
            go_wp2_with fail
            go_ret
            exact ⟨by rw [HR.out]; rfl, hbw5⟩
          · by_cases h5 : o < n
            · have HR : Hid (M = true) := Lib.hid (HM5.out rfl rfl (fun h => h3 h.1) (fun h => h4' h.2) (by omega))
              clear HM1 HM2 HM3 HM4 HM5 HM6 HM7 HM8
              go_wp2_with fail
              go_ret
              exact ⟨by rw [HR.out]; rfl, hbw5⟩
            · by_cases h6 : 0 ≤ ms
              · by_cases h7 : y1 ≤ ms
                · have HR : Hid (M = !z) := Lib.hid (HM6.out rfl rfl (fun h => h3 h.1) (fun h => h4' h.2) (by omega) (by omega) (by omega))
                  clear HM1 HM2 HM3 HM4 HM5 HM6 HM7 HM8
                  go_wp2_with (refine wpList_row_if rfl 50 _ rfl g rfl 50 cc (0, 0) _ hr5 Tryd.underlying50 rfl hi ?_)
                  refine (cT w5 hbw5).mono ?_
                  rintro e w6 ⟨rfl, hb6⟩
                  go_wp2_with fail
                  go_ret
                  exact ⟨by rw [HR.out]; rfl, hbw5.trans (hb6.mono hbw5.size)⟩
                · have HR : Hid (M = false) := Lib.hid (HM7.out rfl rfl (fun h => h3 h.1) (fun h => h4' h.2) (by omega) (by omega))
                  clear HM1 HM2 HM3 HM4 HM5 HM6 HM7 HM8
                  clear cT hi hr5
                  go_wp2_with fail
                  go_ret
                  exact ⟨by rw [HR.out]; rfl, hbw5⟩
              · have HR : Hid (M = false) := Lib.hid (HM8.out rfl rfl (fun h => h3 h.1) (fun h => h4' h.2) (by omega) (by omega))
                clear HM1 HM2 HM3 HM4 HM5 HM6 HM7 HM8
                clear cT hi hr5
                go_wp2_with fail
                go_ret
                exact ⟨by rw [HR.out]; rfl, hbw5⟩
        · by_cases h5 : o < n
          · have HR : Hid (M = true) := Lib.hid (HM5.out rfl rfl (fun h => h3 h.1) (fun h => h4 h.1) (by omega))
            clear HM1 HM2 HM3 HM4 HM5 HM6 HM7 HM8
            go_wp2_with fail
            go_ret
            exact ⟨by rw [HR.out]; rfl, hbw5⟩
          · by_cases h6 : 0 ≤ ms
            · by_cases h7 : y1 ≤ ms
              · have HR : Hid (M = !z) := Lib.hid (HM6.out rfl rfl (fun h => h3 h.1) (fun h => h4 h.1) (by omega) (by omega) (by omega))
                clear HM1 HM2 HM3 HM4 HM5 HM6 HM7 HM8
                go_wp2_with (refine wpList_row_if rfl 50 _ rfl g rfl 50 cc (0, 0) _ hr5 Tryd.underlying50 rfl hi ?_)
                refine (cT w5 hbw5).mono ?_
                rintro e w6 ⟨rfl, hb6⟩
                go_wp2_with fail
                go_ret
                exact ⟨by rw [HR.out]; rfl, hbw5.trans (hb6.mono hbw5.size)⟩
              · have HR : Hid (M = false) := Lib.hid (HM7.out rfl rfl (fun h => h3 h.1) (fun h => h4 h.1) (by omega) (by omega))
                clear HM1 HM2 HM3 HM4 HM5 HM6 HM7 HM8
                clear cT hi hr5
                go_wp2_with fail
                go_ret
                exact ⟨by rw [HR.out]; rfl, hbw5⟩
            · have HR : Hid (M = false) := Lib.hid (HM8.out rfl rfl (fun h => h3 h.1) (fun h => h4 h.1) (by omega) (by omega))
              clear HM1 HM2 HM3 HM4 HM5 HM6 HM7 HM8
              clear cT hi hr5
              go_wp2_with fail
              go_ret
              exact ⟨by rw [HR.out]; rfl, hbw5⟩
    · have HR : Hid (M = false) := Lib.hid (HM2.out rfl)
      clear HM1 HM2 HM3 HM4 HM5 HM6 HM7 HM8
      clear cT hi hr5
      go_wp2_with fail
      go_ret
      exact ⟨by rw [HR.out]; rfl, hbw5⟩
  · have HR : Hid (M = false) := Lib.hid (HM1.out rfl)
    clear HM1 HM2 HM3 HM4 HM5 HM6 HM7 HM8
    clear cT hi hr5
    go_wp2_with fail
    go_ret
    exact ⟨by rw [HR.out]; rfl, hbw5⟩
end Go.Proofs.YtajbeoignhnpjaaDoor
