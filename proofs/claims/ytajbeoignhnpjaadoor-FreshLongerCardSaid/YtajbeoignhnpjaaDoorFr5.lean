/- The statements of layer 10: FreshStrict. -/
import Derived.Test.YtajbeoignhnpjaaDoorFr4
import Derived.Deep.CutBlock
namespace Go.Proofs.YtajbeoignhnpjaaDoor
open Go.RowKit

/-- Now, and what is asked. -/
def av (now : Int) (q : Ctl.C) : Value := .agg #[.int .i64 now, .bool q.ns, .bool q.nc, .bool q.pu, .bool q.pr, .bool q.mu, .bool q.px, .bool q.oi, .int .i64 q.ma, .int .i64 q.sa, .int .i64 q.ms, .int .i64 q.mf]
/-- A number that may be asked for. -/
def mid (x : Int) : Int := if (if 2147483647 < x then 2147483647 else x) < -1 then -1 else (if 2147483647 < x then 2147483647 else x)
theorem mid_bd (x : Int) : -1 ≤ mid x ∧ mid x ≤ 2147483647 := by unfold mid; split <;> split <;> omega
/-- What is said, its numbers as they may be. -/
def tame (q : Ctl.C) : Ctl.C := { q with ma := mid q.ma, mf := mid q.mf, ms := mid q.ms }

/-- M asks for no less than S. -/
def Less (S M : Ctl.C) : Prop := M.nc = S.nc ∧ M.sa = S.sa ∧ (0 ≤ S.ma → 0 ≤ M.ma ∧ M.ma ≤ S.ma) ∧ (0 ≤ S.mf → 0 ≤ M.mf ∧ S.mf ≤ M.mf) ∧ (0 ≤ M.ms → 0 ≤ S.ms ∧ M.ms ≤ S.ms) ∧ I64 M.ma ∧ I64 M.ms ∧ I64 M.mf
theorem tame_bd (q : Ctl.C) : (-1 ≤ (tame q).ma ∧ (tame q).ma ≤ 2147483647) ∧ (-1 ≤ (tame q).ms ∧ (tame q).ms ≤ 2147483647) ∧ (-1 ≤ (tame q).mf ∧ (tame q).mf ≤ 2147483647) := ⟨mid_bd _, mid_bd _, mid_bd _⟩
theorem less_serve {D : List UInt8 → Option Int} {st : Int} {fs : List Fld.F} {ta tg now : Int} {S M : Ctl.C} (h : Less S M) (hs : Fr.serve D st fs ta tg now S = false) : Fr.serve D st fs ta tg now M = false := by
  cases hm : Fr.serve D st fs ta tg now M
  · rfl
  · unfold Fr.serve at hs hm
    rw [Fr.may_less h.1 h.2.2.1 h.2.2.2.1 h.2.2.2.2.1 hm] at hs
    cases hs
theorem serve_nc (D : List UInt8 → Option Int) (st : Int) (fs : List Fld.F) (ta tg now : Int) (S : Ctl.C) : Fr.serve D st fs ta tg now { S with nc := true } = false := Fr.may_nocache _ _ _ _ rfl
theorem less_half {S : Ctl.C} {u : Int} (h0 : ¬ S.ma < 0) (h1 : 0 ≤ u ∧ u ≤ S.ma) (b1 : S.ma ≤ 2147483647) (b2 : -1 ≤ S.ms ∧ S.ms ≤ 2147483647) (b3 : -1 ≤ S.mf ∧ S.mf ≤ 2147483647) : Less S { S with ma := u } := by
  unfold Less I64; dsimp only
  exact ⟨rfl, rfl, fun _ => by omega, fun _ => by omega, fun _ => by omega, by omega, by omega, by omega⟩
theorem less_seven {S : Ctl.C} (h0 : S.ma < 0) (b2 : -1 ≤ S.ms ∧ S.ms ≤ 2147483647) (b3 : -1 ≤ S.mf ∧ S.mf ≤ 2147483647) : Less S { S with ma := 7 } := by
  unfold Less I64; dsimp only
  exact ⟨rfl, rfl, fun _ => by omega, fun _ => by omega, fun _ => by omega, by omega, by omega, by omega⟩
theorem less_mf {S : Ctl.C} {u : Int} (h1 : S.mf ≤ u) (h2 : 0 ≤ u ∧ u ≤ 2147483647) (b1 : -1 ≤ S.ma ∧ S.ma ≤ 2147483647) (b2 : -1 ≤ S.ms ∧ S.ms ≤ 2147483647) : Less S { S with mf := u } := by
  unfold Less I64; dsimp only
  exact ⟨rfl, rfl, fun _ => by omega, fun _ => by omega, fun _ => by omega, by omega, by omega, by omega⟩
theorem less_ms {S : Ctl.C} (b1 : -1 ≤ S.ma ∧ S.ma ≤ 2147483647) (b3 : -1 ≤ S.mf ∧ S.mf ≤ 2147483647) : Less S { S with ms := -1 } := by
  unfold Less I64; dsimp only
  exact ⟨rfl, rfl, fun _ => by omega, fun _ => by omega, fun _ => by omega, by omega, by omega, by omega⟩

theorem cat_whole {w : World} {g : Nat} {c : Ctl.C} (h : CAt w g c) (d : Ctl.C) : CAt (w.setRow g (ccells d)) g d := by
  unfold CAt at *
  simp [World.setRow, Array.getElem?_modify, h]
theorem cat_other {w : World} {g b : Nat} {c : Ctl.C} (h : CAt w g c) (hne : g ≠ b) (cs : Array Value) : CAt (w.setRow b cs) g c := by
  unfold CAt at *
  have hne' : b ≠ g := fun e => hne e.symm
  simp [World.setRow, Array.getElem?_modify, hne', h]
theorem cat_cell {w : World} {g b k : Nat} {c : Ctl.C} {v : Value} (h : CAt w g c) (hne : g ≠ b) : CAt (w.setCell ⟨b, k, none⟩ v) g c := by
  unfold CAt at *
  have hne' : b ≠ g := fun e => hne e.symm
  simp [World.setCell, Array.getElem?_modify, hne', h]
theorem cone (c : Ctl.C) : (ccells c).all (·.oneCell') = true := by simp [ccells, Value.oneCell']
theorem below_row {n : Nat} {W w : World} {g : Nat} (h : Below n W w) (hg : n ≤ g) (cs : Array Value) : Below n W (w.setRow g cs) := by
  refine h.trans ⟨rfl, rfl, rfl, by simp [World.setRow], fun k hk => ?_⟩
  have hne : g ≠ k := by omega
  simp [World.setRow, Array.getElem?_modify, hne]
theorem acells {w : World} {g : Nat} {now : Int} {q : Ctl.C} {t : TypeId} (hh : w.heap[g]? = some (.cells #[.int .i64 now, .bool q.ns, .bool q.nc, .bool q.pu, .bool q.pr, .bool q.mu, .bool q.px, .bool q.oi, .int .i64 q.ma, .int .i64 q.sa, .int .i64 q.ms, .int .i64 q.mf] t (0, 0))) :
    w.cell? ⟨g, 0, none⟩ = some (.int .i64 now) ∧ w.cell? ⟨g, 1, none⟩ = some (.bool q.ns) ∧ w.cell? ⟨g, 2, none⟩ = some (.bool q.nc) ∧ w.cell? ⟨g, 3, none⟩ = some (.bool q.pu) ∧ w.cell? ⟨g, 4, none⟩ = some (.bool q.pr) ∧ w.cell? ⟨g, 5, none⟩ = some (.bool q.mu) ∧ w.cell? ⟨g, 6, none⟩ = some (.bool q.px) ∧ w.cell? ⟨g, 7, none⟩ = some (.bool q.oi) ∧ w.cell? ⟨g, 8, none⟩ = some (.int .i64 q.ma) ∧ w.cell? ⟨g, 9, none⟩ = some (.int .i64 q.sa) ∧ w.cell? ⟨g, 10, none⟩ = some (.int .i64 q.ms) ∧ w.cell? ⟨g, 11, none⟩ = some (.int .i64 q.mf) := by
  simp [World.cell?, hh]

set_option maxHeartbeats 3200000 in
set_option maxRecDepth 100000 in
theorem strict_w {D : List UInt8 → Option Int} {Env : World → Prop} (R : Prog10 D Env) (a b c : ByteArray) (st mi : Int) (fv bv : Value) (fs : List Fld.F) (ta tg now : Int) (q : Ctl.C) (w : World) (he : Env w) (hf : FIn w fv fs) (sb : Sl bv)
    (hla : fs.length ≤ 9223372036854775807) (hsz : ∀ f ∈ fs, f.1.length ≤ 9223372036854775807 ∧ f.2.length ≤ 9223372036854775807) (ia : I64 ta) (ig : I64 tg) (iw : I64 now) (isa : I64 q.sa) :
    Calls Tryd.prog 4 #[mv a b st c mi fv bv, tv ta tg, av now q] w fun e w' => e = .returned (.bool true) ∧ Below w.heap.size w w' := by
  have cA : Hid (∀ W', Below w.heap.size w W' → Calls Tryd.prog 6 #[] W' fun e w' => e = .returned (.bool true) ∧ Below W'.heap.size W' w') := Lib.hid fun W' hb => awake_w R W' (R.later he hb)
  have cS : Hid (∀ W', Below w.heap.size w W' → Calls Tryd.prog 7 #[mv a b st c mi fv bv] W' fun e w' => e = .returned (.bool (shortR fs)) ∧ Below W'.heap.size W' w') := Lib.hid fun W' hb => shortM_w a b c st mi fv bv fs W' (hf.later hb) hla hsz
  have cV : Hid (shortR fs = true → ∀ S : Ctl.C, S.sa = q.sa → I64 S.ma → I64 S.ms → I64 S.mf → ∀ cc, cc = ccells S → ∀ W', Below w.heap.size w W' → Calls Tryd.prog 11 #[mv a b st c mi fv bv, tv ta tg, .int .i64 now, .agg cc] W' fun e w' => e = .returned (.bool (Fr.serve D st fs ta tg now S)) ∧ Below W'.heap.size W' w') := Lib.hid fun hs S e1 e2 e3 e4 cc ec W' hb => by
    subst ec; exact R.serve a b c st mi fv bv fs ta tg now S W' (R.later he hb) (hf.later hb) sb hs ia ig iw e2 (e1 ▸ isa) e3 e4
  obtain ⟨aa, ca, rfl, hx9⟩ := id hf
  obtain ⟨W, hW⟩ : ∃ W, W = ((w.alloc (.cells #[.string a, .string b, .int .i64 st, .string c, .int .i64 mi, .slice aa fs.length ca, bv] 27)).alloc (.cells #[.int .i64 ta, .int .i64 tg] 29)).alloc (.cells #[.int .i64 now, .bool q.ns, .bool q.nc, .bool q.pu, .bool q.pr, .bool q.mu, .bool q.px, .bool q.oi, .int .i64 q.ma, .int .i64 q.sa, .int .i64 q.ms, .int .i64 q.mf] 41) := ⟨_, rfl⟩
  have hbw : Below w.heap.size w W := by rw [hW]; exact (((Below.refl _ w).alloc (Nat.le_refl _) _).alloc (by simp) _).alloc (by simp; omega) _
  have h3 := three_new w (.cells #[.string a, .string b, .int .i64 st, .string c, .int .i64 mi, .slice aa fs.length ca, bv] 27) (.cells #[.int .i64 ta, .int .i64 tg] 29) (.cells #[.int .i64 now, .bool q.ns, .bool q.nc, .bool q.pu, .bool q.pr, .bool q.mu, .bool q.px, .bool q.oi, .int .i64 q.ma, .int .i64 q.sa, .int .i64 q.ms, .int .i64 q.mf] 41)
  rw [← hW] at h3
  obtain ⟨q0, q1, q2⟩ := h3
  have HM := Lib.hid (fun (W' : World) (hb : Below W.heap.size W W') => set7' (blk_later q0 hb))
  have HT := Lib.hid (fun (W' : World) (hb : Below W.heap.size W W') => fcells2 (blk_later q1 hb))
  have HQ := Lib.hid (fun (W' : World) (hb : Below W.heap.size W W') => acells (blk_later q2 hb))
  have HB := Lib.hid hbw
  have b0 := Below.refl W.heap.size W
  clear q0 q1 q2 hbw hf he R hla hsz hx9 ia ig iw isa
  unfold mv mcell tv av at *
  generalize hn : fs.length = n at *
  clear hn
  by_cases hs : shortR fs = true
  case neg =>
    have cS' := cS
    rw [show shortR fs = false by simpa using hs] at cS'
    clear cS hs cV HT HQ
    go_enter Tryd.func4, Tryd.ntmps4
    go_upto_region 1 with fail
    rw [← hW]
    clear hW
    go_wp2_with fail
    refine (cA.out W HB.out).mono ?_
    rintro e w1 ⟨rfl, hb1⟩
    obtain ⟨m0, m1, m2, m3, m4, m5, m6⟩ := HM.out w1 hb1
    have hB1 := HB.out.trans (hb1.mono HB.out.size)
    go_wp2_with fail
    refine (cS'.out w1 hB1).mono ?_
    rintro e w2 ⟨rfl, hb2⟩
    have hB2 := hB1.trans (hb2.mono hB1.size)
    clear m0 m1 m2 m3 m4 m5 m6
    go_wp2_with fail
    refine (cA.out w2 hB2).mono ?_
    rintro e w3 ⟨rfl, hb3⟩
    go_wp2_with fail
    go_ret
    exact ⟨rfl, hB2.trans (hb3.mono hB2.size)⟩
  have cS' := cS
  rw [hs] at cS'
  have cV0 := Lib.hid (cV.out hs)
  clear cS cV hs
  go_enter Tryd.func4, Tryd.ntmps4
  go_upto_region 1 with fail
  rw [← hW]
  clear hW
  go_wp2_with fail
  refine (cA.out W HB.out).mono ?_
  rintro e w1 ⟨rfl, hb1⟩
  obtain ⟨m0, m1, m2, m3, m4, m5, m6⟩ := HM.out w1 hb1
  have hB1 := HB.out.trans (hb1.mono HB.out.size)
  go_wp2_with fail
  refine (cS'.out w1 hB1).mono ?_
  rintro e w2 ⟨rfl, hb2⟩
  clear m0 m1 m2 m3 m4 m5 m6
  have hb3 := hb1.trans (hb2.mono hb1.size)
  clear hb1 hB1 hb2 w1 cS' cA
  obtain ⟨k0, k1, k2, k3, k4, k5, k6, k7, k8, k9, k10, k11⟩ := HQ.out w2 hb3
  go_upto_region 3 with fail
  go_cut [7] (fun u wx => ∃ w3 g, w3 = wx ∧ u = .pointer (some ⟨g, 0, none⟩) ∧ W.heap.size ≤ g ∧ CAt w3 g q ∧ Below W.heap.size W w3)
  case first =>
    go_wp2_with fail
    go_meet
    case rel => exact ⟨_, w2.heap.size, rfl, rfl, hb3.size, heap_alloc_new w2 _, hb3.alloc hb3.size _⟩
  case rest =>
    obtain ⟨w3, g, rfl, rfl, hg, hc, hb4⟩ := hcut
    clear k0 k1 k2 k3 k4 k5 k6 k7 k8 k9 k10 k11 hb3 w2
    go_upto_region 4 with fail
    go_cut [] (fun wx => ∃ w4, w4 = wx ∧ CAt w4 g (tame q) ∧ Below W.heap.size W w4)
    case first =>
      obtain ⟨k0, k1, k2, k3, k4, k5, k6, k7, k8, k9, k10⟩ := hc.cells
      have z7 := hc.free 7
      have z9 := hc.free 9
      have z10 := hc.free 10
      obtain ⟨x7, e7⟩ : ∃ x, (if 2147483647 < q.ma then 2147483647 else q.ma) = x := ⟨_, rfl⟩
      have e7' : min q.ma 2147483647 = x7 := by rw [← e7]; split <;> omega
      obtain ⟨y7, f7⟩ : ∃ y, (if x7 < -1 then -1 else x7) = y := ⟨_, rfl⟩
      have f7' : max x7 (-1) = y7 := by rw [← f7]; split <;> omega
      obtain ⟨x9, e9⟩ : ∃ x, (if 2147483647 < q.ms then 2147483647 else q.ms) = x := ⟨_, rfl⟩
      have e9' : min q.ms 2147483647 = x9 := by rw [← e9]; split <;> omega
      obtain ⟨y9, f9⟩ : ∃ y, (if x9 < -1 then -1 else x9) = y := ⟨_, rfl⟩
      have f9' : max x9 (-1) = y9 := by rw [← f9]; split <;> omega
      obtain ⟨x10, e10⟩ : ∃ x, (if 2147483647 < q.mf then 2147483647 else q.mf) = x := ⟨_, rfl⟩
      have e10' : min q.mf 2147483647 = x10 := by rw [← e10]; split <;> omega
      obtain ⟨y10, f10⟩ : ∃ y, (if x10 < -1 then -1 else x10) = y := ⟨_, rfl⟩
      have f10' : max x10 (-1) = y10 := by rw [← f10]; split <;> omega
      have HE : Hid (tame q = { q with ma := y7, mf := y10, ms := y9 }) := Lib.hid (by unfold tame mid; rw [e7, e9, e10, f7, f9, f10])
      go_wp2_with fail
      all_goals go_meet
      all_goals (case rel => exact ⟨_, rfl, by rw [HE.out]; exact CAt.put (d := { q with ma := y7, mf := y10, ms := y9 }) (CAt.put (d := { q with ma := y7, mf := y10 }) (CAt.put (d := { q with ma := y7 }) hc 7 _ rfl) 10 _ rfl) 9 _ rfl, ((hb4.setCell hg _).setCell hg _).setCell hg _⟩)
    case rest =>
      obtain ⟨w4, rfl, hcS, hb5⟩ := hcut
      clear hc hb4 w3
      obtain ⟨bma, bms, bmf⟩ := tame_bd q
      have sT := cV0.out (tame q) rfl (by unfold I64; omega) (by unfold I64; omega) (by unfold I64; omega)
      have sL := fun (M : Ctl.C) (hl : Less (tame q) M) => cV0.out M hl.2.1 hl.2.2.2.2.2.1 hl.2.2.2.2.2.2.1 hl.2.2.2.2.2.2.2
      have sN := cV0.out { tame q with nc := true } rfl (by unfold I64; dsimp only; omega) (by unfold I64; dsimp only; omega) (by unfold I64; dsimp only; omega)
      rw [serve_nc] at sN
      have hless := fun (M : Ctl.C) (hl : Less (tame q) M) (h0 : Fr.serve D st fs ta tg now (tame q) = false) => less_serve hl h0
      generalize tame q = S at *
      generalize hsv : Fr.serve D st fs ta tg now S = sv at *
      have HL := Lib.hid hless
      have SL := Lib.hid sL
      have SN := Lib.hid sN
      clear hless sL sN cV0 hsv
      obtain ⟨cs, hcs⟩ : ∃ cs, cs = ccells S := ⟨_, rfl⟩
      have hsz : cs.size = 11 := by rw [hcs]; rfl
      have hi : (Tryd.prog.info? 39).map (·.size) = some cs.size := by rw [hsz]; kernel_rfl
      have h1 : cs.all (·.oneCell') = true := by rw [hcs]; exact cone S
      have hs4 := hcS
      unfold CAt at hs4
      rw [← hcs] at hs4
      have HC := Lib.hid hcs
      have HS4 := Lib.hid hcS
      clear hcs hcS
      have hB5 := HB.out.trans (hb5.mono HB.out.size)
      obtain ⟨m0, m1, m2, m3, m4, m5, m6⟩ := HM.out w4 hb5
      obtain ⟨t0, t1⟩ := HT.out w4 hb5
      have k0 := (HQ.out w4 hb5).1
      go_upto_region 5 with fail
      go_cut [8] (fun u wx => ∃ w5, w5 = wx ∧ u = .bool sv ∧ CAt w5 g S ∧ Below W.heap.size W w5)
      case first =>
        go_wp2_with (refine wpList_load_row rfl 39 _ rfl g rfl 39 cs (0, 0) _ hs4 Tryd.underlying39 rfl hi ?_)
        refine (sT cs HC.out w4 hB5).mono ?_
        rintro e w5 ⟨rfl, hb⟩
        go_wp2_with fail
        go_meet
        case rel => exact ⟨_, rfl, rfl, HS4.out.later hb, hb5.trans (hb.mono hb5.size)⟩
      case rest =>
        obtain ⟨w5, rfl, rfl, hcS, hb6⟩ := hcut
        clear m0 m1 m2 m3 m4 m5 m6 t0 t1 k0 hs4 HS4 hB5 hb5 w4 sT
        go_upto_region 6 with fail
        go_cut [9] (fun u wx => ∃ w6 h, w6 = wx ∧ u = .pointer (some ⟨h, 0, none⟩) ∧ W.heap.size ≤ h ∧ g ≠ h ∧ CAt w6 g S ∧ CAt w6 h S ∧ Below W.heap.size W w6)
        case first =>
          have hs5 := hcS
          unfold CAt at hs5
          rw [← HC.out] at hs5
          have hn0 := heap_alloc_new w5 (.cells #[.bool false, .bool false, .bool false, .bool false, .bool false, .bool false, .bool false, .int .i64 0, .int .i64 0, .int .i64 0, .int .i64 0] 39)
          have hgl := hcS.lt
          go_wp2_with (first
            | refine wpList_load_row rfl 39 _ rfl g rfl 39 cs (0, 0) _ hs5 Tryd.underlying39 rfl hi ?_
            | refine wpList_store_row rfl 39 _ _ rfl w5.heap.size cs rfl rfl 39 #[.bool false, .bool false, .bool false, .bool false, .bool false, .bool false, .bool false, .int .i64 0, .int .i64 0, .int .i64 0, .int .i64 0] hn0 hi hsz.symm h1 ?_)
          go_meet
          case rel =>
            have hz : CAt (w5.alloc (.cells #[.bool false, .bool false, .bool false, .bool false, .bool false, .bool false, .bool false, .int .i64 0, .int .i64 0, .int .i64 0, .int .i64 0] 39)) w5.heap.size Ctl.zeroC := heap_alloc_new w5 _
            have hw := cat_whole hz S
            rw [← HC.out] at hw
            exact ⟨_, _, rfl, rfl, hb6.size, Nat.ne_of_lt hgl, cat_other (hcS.later ((Below.refl _ w5).alloc (Nat.le_refl _) _)) (Nat.ne_of_lt hgl) cs, hw, below_row (hb6.alloc hb6.size _) hb6.size cs⟩
        case rest =>
          obtain ⟨w6, h, rfl, rfl, hh, hgh, hcS6, hcM, hb7⟩ := hcut
          clear hcS hb6 w5
          go_upto_region 7 with fail
          go_cut [] (fun wx => ∃ w7, w7 = wx ∧ CAt w7 g S ∧ CAt w7 h { S with nc := true } ∧ Below W.heap.size W w7)
          case first =>
            obtain ⟨k0, k1, k2, k3, k4, k5, k6, k7, k8, k9, k10⟩ := hcM.cells
            have z1 := hcM.free 1
            go_wp2_with fail
            go_meet
            case rel => exact ⟨_, rfl, cat_cell hcS6 hgh, CAt.put (d := { S with nc := true }) hcM 1 _ rfl, hb7.setCell hh _⟩
          case rest =>
            obtain ⟨w7, rfl, hcS7, hcN, hb8⟩ := hcut
            clear hcS6 hcM hb7 w6
            obtain ⟨cn, hcn⟩ : ∃ cn, cn = ccells { S with nc := true } := ⟨_, rfl⟩
            have nsz : cn.size = 11 := by rw [hcn]; rfl
            have ni : (Tryd.prog.info? 39).map (·.size) = some cn.size := by rw [nsz]; kernel_rfl
            have hs7 := hcN
            unfold CAt at hs7
            rw [← hcn] at hs7
            have HN := Lib.hid hcn
            have HS7 := Lib.hid hcS7
            have HM7 := Lib.hid hcN
            clear hcn hcS7 hcN
            have hB8 := HB.out.trans (hb8.mono HB.out.size)
            obtain ⟨m0, m1, m2, m3, m4, m5, m6⟩ := HM.out w7 hb8
            obtain ⟨t0, t1⟩ := HT.out w7 hb8
            have k0 := (HQ.out w7 hb8).1
            go_wp2_with (refine wpList_load_row rfl 39 _ rfl h rfl 39 cn (0, 0) _ hs7 Tryd.underlying39 rfl ni ?_)
            refine (SN.out cn HN.out w7 hB8).mono ?_
            rintro e w8 ⟨rfl, hb⟩
            have hcS8 := HS7.out.later hb
            have hcM8 := HM7.out.later hb
            have hb9 := hb8.trans (hb.mono hb8.size)
            clear hb hs7 HS7 HM7 hb8 hB8 m0 m1 m2 m3 m4 m5 m6 t0 t1 k0 HN nsz ni SN w7
            go_wp2_with fail
            go_loopw [10] (fun i wr => ∃ k : Int, (k = 0 ∨ k = 1 ∨ k = 2 ∨ k = 3) ∧ i = .int .i64 k ∧ ∃ M, CAt wr g S ∧ CAt wr h M ∧ Below W.heap.size W wr) (fun i _ => (3 - intOf i).toNat)
            case atStart => exact ⟨0, .inl rfl, rfl, _, hcS8, hcM8, hb9⟩
            case round =>
              clear hcS8 hcM8 hb9
              obtain ⟨k, hk, rfl, M0, hcS, hcM, hb⟩ := hrel
              by_cases h3 : k = 3
              · subst h3
                clear hk
                go_wp2_with fail
                go_ret
                exact ⟨rfl, HB.out.trans (hb.mono HB.out.size)⟩
              have hk3 : k < 3 := by omega
              have hsA := hcS
              unfold CAt at hsA
              rw [← HC.out] at hsA
              obtain ⟨cm, hcm⟩ : ∃ cm, cm = ccells M0 := ⟨_, rfl⟩
              have msz : cm.size = cs.size := by rw [hcm, hsz]; rfl
              have hsM := hcM
              unfold CAt at hsM
              rw [← hcm] at hsM
              have hS9 := cat_other hcS hgh cs
              have hM9 := cat_whole hcM S
              rw [← HC.out] at hM9
              have hb9 := below_row hb hh cs
              clear hcm hcS hcM hb
              go_upto_block 2 with (first
                | refine wpList_load_row rfl 39 _ rfl g rfl 39 cs (0, 0) _ hsA Tryd.underlying39 rfl hi ?_
                | refine wpList_store_row rfl 39 _ _ rfl h cs rfl rfl 39 cm hsM hi msz h1 ?_)
              generalize wr.setRow h cs = w9 at *
              clear hsA hsM msz cm
              go_cut [] from 56 to 76 (fun wx => ∃ w10 M, w10 = wx ∧ CAt w10 g S ∧ CAt w10 h M ∧ Below W.heap.size W w10 ∧ Hid (Less S M))
              case first =>
                obtain ⟨g0, g1, g2, g3, g4, g5, g6, g7, g8, g9, g10⟩ := hS9.cells
                obtain ⟨k0, k1, k2, k3, k4, k5, k6, k7, k8, k9, k10⟩ := hM9.cells
                have z7 := hM9.free 7
                have z9 := hM9.free 9
                have z10 := hM9.free 10
                rcases hk with rfl | rfl | rfl | rfl
                · obtain ⟨u, hu⟩ : ∃ u, u = Int.tdiv S.ma 2 := ⟨_, rfl⟩
                  have hu2 : (0 ≤ S.ma → u = S.ma / 2) ∧ (S.ma < 0 → u = 0) := ⟨fun h => by rw [hu, Int.tdiv_eq_ediv_of_nonneg h], fun h => by rw [hu, show S.ma = -1 by omega]; rfl⟩
                  have t2 := hu.symm
                  have w2 : IntKind.i64.wrap u = u := by rw [IntKind.wrap_i64]; omega
                  have hS10 := cat_cell (k := 7) (v := .int .i64 u) hS9 hgh
                  have hM10 := CAt.put (d := { S with ma := u }) hM9 7 (.int .i64 u) rfl
                  have hb10 : Below W.heap.size W (w9.setCell ⟨h, 7, none⟩ (.int .i64 u)) := hb9.setCell hh _
                  clear hu
                  go_upto_region 17 with fail
                  generalize w9.setCell ⟨h, 7, none⟩ (.int .i64 u) = w10 at *
                  clear g0 g1 g2 g3 g4 g5 g6 g7 g8 g9 g10 k0 k1 k2 k3 k4 k5 k6 k7 k8 k9 k10 z7 z9 z10 hS9 hM9 hb9 t2 w2
                  have z7 := hM10.free 7
                  have c7 : w10.cell? ⟨g, 7, none⟩ = some (.int .i64 S.ma) := hS10.cell 7
                  have d7 : w10.cell? ⟨h, 7, none⟩ = some (.int .i64 u) := hM10.cell 7
                  by_cases hm : S.ma < 0
                  · have HX : Hid (Less S { S with ma := 7 }) := Lib.hid (less_seven hm bms bmf)
                    clear hu2
                    go_wp2_with fail
                    go_meet
                    case rel => exact ⟨_, _, rfl, cat_cell hS10 hgh, CAt.put (d := { S with ma := 7 }) hM10 7 _ rfl, hb10.setCell hh _, HX⟩
                  · have HX : Hid (Less S { S with ma := u }) := Lib.hid (less_half hm (by have := hu2.1 (by omega); omega) bma.2 bms bmf)
                    clear hu2
                    go_wp2_with fail
                    go_meet
                    case rel => exact ⟨_, _, rfl, hS10, hM10, hb10, HX⟩
                · obtain ⟨x, e1⟩ : ∃ x, (if S.mf < 0 then 0 else S.mf) = x := ⟨_, rfl⟩
                  have e1' : max S.mf 0 = x := by rw [← e1]; split <;> omega
                  have hx : 0 ≤ x ∧ x ≤ 2147483647 ∧ S.mf ≤ x := by rw [← e1]; split <;> omega
                  obtain ⟨y, hy⟩ : ∃ y, x * 2 = y := ⟨_, rfl⟩
                  have w2 : IntKind.i64.wrap y = y := by rw [IntKind.wrap_i64]; omega
                  obtain ⟨z, e2⟩ : ∃ z, (if 2147483647 < y then 2147483647 else y) = z := ⟨_, rfl⟩
                  have e2' : min y 2147483647 = z := by rw [← e2]; split <;> omega
                  have hz : 0 ≤ z ∧ z ≤ 2147483647 ∧ S.mf ≤ z := by rw [← e2]; split <;> omega
                  have HX : Hid (Less S { S with mf := z }) := Lib.hid (less_mf hz.2.2 ⟨hz.1, hz.2.1⟩ bma bms)
                  clear hx hz
                  go_wp2_with fail
                  all_goals go_meet
                  all_goals (case rel => exact ⟨_, _, rfl, cat_cell hS9 hgh, CAt.put (d := { S with mf := z }) hM9 10 _ rfl, hb9.setCell hh _, HX⟩)
                · have HX : Hid (Less S { S with ms := -1 }) := Lib.hid (less_ms bma bmf)
                  go_wp2_with fail
                  go_meet
                  case rel => exact ⟨_, _, rfl, cat_cell hS9 hgh, CAt.put (d := { S with ms := -1 }) hM9 9 _ rfl, hb9.setCell hh _, HX⟩
                · exact absurd rfl h3
              case rest =>
                obtain ⟨w10, M, rfl, hS10, hM10, hb10, HX⟩ := hcut
                clear hS9 hM9 hb9 w9
                cases sv
                · have hno := HL.out M HX.out rfl
                  have cM := SL.out M HX.out
                  rw [hno] at cM
                  have cM := cM _ rfl
                  unfold ccells at cM
                  obtain ⟨g0, g1, g2, g3, g4, g5, g6, g7, g8, g9, g10⟩ := hM10.cells
                  have HS := Lib.hid hS10
                  have HMM := Lib.hid hM10
                  clear hS10 hM10 hno
                  have hB10 := HB.out.trans (hb10.mono HB.out.size)
                  obtain ⟨m0, m1, m2, m3, m4, m5, m6⟩ := HM.out w10 hb10
                  obtain ⟨t0, t1⟩ := HT.out w10 hb10
                  have k0 := (HQ.out w10 hb10).1
                  go_wp2_with fail
                  refine (cM w10 hB10).mono ?_
                  rintro e w11 ⟨rfl, hb⟩
                  have hF : Hid (CAt w11 g S ∧ CAt w11 h M ∧ Below W.heap.size W w11) := Lib.hid ⟨HS.out.later hb, HMM.out.later hb, hb10.trans (hb.mono hb10.size)⟩
                  clear hb HS HMM hb10 hB10 g0 g1 g2 g3 g4 g5 g6 g7 g8 g9 g10 m0 m1 m2 m3 m4 m5 m6 t0 t1 k0
                  have w1 : IntKind.i64.wrap (k + 1) = k + 1 := by rw [IntKind.wrap_i64]; omega
                  go_wp2_with fail
                  go_roundw
                  case rel => exact ⟨k + 1, by omega, rfl, M, hF.out⟩
                  case measure => simp [intOf]; omega
                · have w1 : IntKind.i64.wrap (k + 1) = k + 1 := by rw [IntKind.wrap_i64]; omega
                  have hF := Lib.hid (And.intro hS10 (And.intro hM10 hb10))
                  clear hS10 hM10 hb10
                  go_wp2_with fail
                  go_roundw
                  case rel => exact ⟨k + 1, by omega, rfl, M, hF.out⟩
                  case measure => simp [intOf]; omega
end Go.Proofs.YtajbeoignhnpjaaDoor
