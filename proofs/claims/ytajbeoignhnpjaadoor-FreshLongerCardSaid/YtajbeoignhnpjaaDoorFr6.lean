/- The statements of layer 10: FreshLonger. -/
import Derived.Test.YtajbeoignhnpjaaDoorFr5
namespace Go.Proofs.YtajbeoignhnpjaaDoor
open Go.RowKit

theorem dgs_len : ∀ (k n : Nat), n < 10 ^ (k + 1) → (Oct.dgs 10 n).length ≤ k + 1
  | 0, n, h => by rw [Oct.dgs_last (by simpa using h)]; simp
  | k + 1, n, h => by
    by_cases hn : n < 10
    · rw [Oct.dgs_last hn]; simp
    · rw [Oct.dgs_more (by decide) (by omega)]
      have := dgs_len k (n / 10) (by rw [Nat.div_lt_iff_lt_mul (by decide)]; rw [Nat.pow_succ] at h; exact h)
      simp; omega
theorem dgs_small {n : Nat} (h : n ≤ 2147483647) : (Oct.dgs 10 n).length ≤ 10 := dgs_len 9 n (by omega)
theorem aged_short {n : Nat} (h : n ≤ 2147483647) : shortR (Fr.aged (Oct.dgs 10 n)) = true := by
  have := dgs_small h
  simp [shortR, Fr.aged, Fr.nCC, Fr.kEq]; omega
theorem aged_yes (D : List UInt8 → Option Int) (n : Nat) (g now : Int) (h : n ≤ 2147483647) (h1 : 0 ≤ g) (h2 : g ≤ 1099511627776) (h3 : g ≤ now) (h4 : now ≤ 1099511627776) :
    Fr.fresh D 200 (Fr.aged (Oct.dgs 10 n)) g g now = decide ((if 2147483647 < now - g then 2147483647 else now - g) < (n : Int)) := by
  rw [Fr.aged_fresh D 200 _ (Oct.dgs_ne 10 n) (Oct.dgs_dig 10 (by decide) (by decide) n) g now h1 h2 h3 h4, Ctl.val_dgs]
  have e1 : min (now - g) Fr.maxD = if 2147483647 < now - g then 2147483647 else now - g := by unfold Fr.maxD; split <;> omega
  have e2 : min (n : Int) 2147483647 = n := by omega
  rw [e1, e2]

set_option maxHeartbeats 3200000 in
set_option maxRecDepth 100000 in
theorem longer_w {D : List UInt8 → Option Int} {Env : World → Prop} (R : Prog10 D Env) (na nb n0 n1 : Int) (w : World) (he : Env w) :
    Calls Tryd.prog 5 #[.int .i64 na, .int .i64 nb, .agg #[.int .i64 n0, .int .i64 n1]] w fun e w' => e = .returned (.bool true) ∧ Below w.heap.size w w' := by
  have cA : Hid (∀ W', Below w.heap.size w W' → Calls Tryd.prog 6 #[] W' fun e w' => e = .returned (.bool true) ∧ Below W'.heap.size W' w') := Lib.hid fun W' hb => awake_w R W' (R.later he hb)
  obtain ⟨W, hW⟩ : ∃ W, W = w.alloc (.cells #[.int .i64 n0, .int .i64 n1] 30) := ⟨_, rfl⟩
  have hbw : Below w.heap.size w W := by rw [hW]; exact (Below.refl _ w).alloc (Nat.le_refl _) _
  have q2 : W.heap[w.heap.size]? = some (.cells #[.int .i64 n0, .int .i64 n1] 30 (0, 0)) := by rw [hW]; exact heap_alloc_new w _
  obtain ⟨x0, e0⟩ : ∃ x, (if na < 0 then 0 else na) = x := ⟨_, rfl⟩
  have e0' : max na 0 = x0 := by rw [← e0]; split <;> omega
  obtain ⟨y0, f0⟩ : ∃ y, (if 2147483647 < x0 then 2147483647 else x0) = y := ⟨_, rfl⟩
  have f0' : min x0 2147483647 = y0 := by rw [← f0]; split <;> omega
  obtain ⟨x1, e1⟩ : ∃ x, (if nb < 0 then 0 else nb) = x := ⟨_, rfl⟩
  have e1' : max nb 0 = x1 := by rw [← e1]; split <;> omega
  obtain ⟨y1, f1⟩ : ∃ y, (if 2147483647 < x1 then 2147483647 else x1) = y := ⟨_, rfl⟩
  have f1' : min x1 2147483647 = y1 := by rw [← f1]; split <;> omega
  obtain ⟨x2, e2⟩ : ∃ x, (if n0 < 0 then 0 else n0) = x := ⟨_, rfl⟩
  have e2' : max n0 0 = x2 := by rw [← e2]; split <;> omega
  obtain ⟨g, f2⟩ : ∃ y, (if 549755813888 < x2 then 549755813888 else x2) = y := ⟨_, rfl⟩
  have f2' : min x2 549755813888 = g := by rw [← f2]; split <;> omega
  obtain ⟨x3, e3⟩ : ∃ x, (if n1 < 0 then 0 else n1) = x := ⟨_, rfl⟩
  have e3' : max n1 0 = x3 := by rw [← e3]; split <;> omega
  obtain ⟨d, f3⟩ : ∃ y, (if 549755813888 < x3 then 549755813888 else x3) = y := ⟨_, rfl⟩
  have f3' : min x3 549755813888 = d := by rw [← f3]; split <;> omega
  have hx0 : 0 ≤ x0 := by rw [← e0]; split <;> omega
  have hy0 : 0 ≤ y0 ∧ y0 ≤ 2147483647 := by rw [← f0]; split <;> omega
  have hx1 : 0 ≤ x1 := by rw [← e1]; split <;> omega
  have hy1 : 0 ≤ y1 ∧ y1 ≤ 2147483647 := by rw [← f1]; split <;> omega
  have hx2 : 0 ≤ x2 := by rw [← e2]; split <;> omega
  have hg : 0 ≤ g ∧ g ≤ 549755813888 := by rw [← f2]; split <;> omega
  have hx3 : 0 ≤ x3 := by rw [← e3]; split <;> omega
  have hd : 0 ≤ d ∧ d ≤ 549755813888 := by rw [← f3]; split <;> omega
  obtain ⟨Y0, hY0⟩ : ∃ Y : Nat, y0 = Y := ⟨y0.toNat, by omega⟩
  obtain ⟨Y1, hY1⟩ : ∃ Y : Nat, y1 = Y := ⟨y1.toNat, by omega⟩
  subst hY0 hY1
  obtain ⟨N, hN⟩ : ∃ N, N = g + d := ⟨_, rfl⟩
  have w1 : IntKind.i64.wrap (g + d) = N := by rw [IntKind.wrap_i64]; omega
  have hN0 : g ≤ N ∧ N ≤ 1099511627776 := by omega
  clear hN
  clear hx0 hx1 hx2 hx3
  go_enter Tryd.func5, Tryd.ntmps5
  go_upto_region 1 with fail
  rw [← hW]
  clear hW
  go_wp2_with fail
  refine (cA.out W hbw).mono ?_
  rintro e w2 ⟨rfl, hb⟩
  have hb2 := hbw.trans (hb.mono hbw.size)
  have q3 := blk_later q2 hb
  obtain ⟨p0, p1⟩ := fcells2 q3
  have HB := Lib.hid hb2
  clear cA hbw q2 q3 hb hb2
  go_upto_region 3 with fail
  go_cut [7, 8] (fun u7 u8 wx => u7 = .int .i64 Y0 ∧ u8 = .int .i64 Y1 ∧ w2 = wx)
  case first =>
    go_wp2_with fail
    go_meet
    case rel => exact ⟨rfl, rfl, rfl⟩
  case rest =>
    obtain ⟨rfl, rfl, rfl⟩ := hcut
    clear e0 f0 e1 f1 e0' f0' e1' f1'
    go_upto_region 4 with fail
    go_cut [25] (fun u wx => ∃ bo : Bool, u = .bool bo ∧ Hid (bo = decide (Y1 < Y0)) ∧ w2 = wx)
    case first =>
      go_wp2_with fail
      go_meet
      case rel => exact ⟨_, rfl, Lib.hid (by simp), rfl⟩
    case rest =>
      obtain ⟨bo, rfl, hbo, rfl⟩ := hcut
      go_upto_if 25 with fail
      go_cut [7, 8] from 26 to 27 (fun u7 u8 wx => ∃ lo hi : Nat, u7 = .int .i64 lo ∧ u8 = .int .i64 hi ∧ lo ≤ hi ∧ hi ≤ 2147483647 ∧ w2 = wx)
      case first =>
        cases bo
        · have h : ¬ Y1 < Y0 := of_decide_eq_false hbo.out.symm
          go_wp2_with fail
          go_meet
          case rel => exact ⟨Y0, Y1, rfl, rfl, by omega, by omega, rfl⟩
        · have h : Y1 < Y0 := of_decide_eq_true hbo.out.symm
          go_wp2_with fail
          go_meet
          case rel => exact ⟨Y1, Y0, rfl, rfl, by omega, by omega, rfl⟩
      case rest =>
        obtain ⟨lo, hi, rfl, rfl, hle, hmx, rfl⟩ := hcut
        clear hy0 hy1 hbo
        go_upto_region 6 with fail
        obtain ⟨W3, hW3⟩ : ∃ W3, W3 = w2.alloc (.cells #[.int .i64 g, .int .i64 g] 29) := ⟨_, rfl⟩
        have hb3 : Below w2.heap.size w2 W3 := by rw [hW3]; exact (Below.refl _ w2).alloc (Nat.le_refl _) _
        have hc := tcells (w := W3) (g := w2.heap.size) (a := g) (b := g) (by rw [hW3]; exact heap_alloc_new w2 _)
        have HB3 := Lib.hid (HB.out.trans (hb3.mono HB.out.size))
        have hE : Env W3 := R.later he HB3.out
        obtain ⟨t, ht⟩ : ∃ t, N - g = t := ⟨_, rfl⟩
        have wt : IntKind.i64.wrap (N - g) = t := by rw [IntKind.wrap_i64]; omega
        obtain ⟨m, em⟩ : ∃ m, (if 2147483647 < t then 2147483647 else t) = m := ⟨_, rfl⟩
        have em' : min t 2147483647 = m := by rw [← em]; split <;> omega
        obtain ⟨yl, hyl⟩ : ∃ b, b = decide (m < (lo : Int)) := ⟨_, rfl⟩
        obtain ⟨yh, hyh⟩ : ∃ b, b = decide (m < (hi : Int)) := ⟨_, rfl⟩
        have CDl : Hid (∀ W', Below W3.heap.size W3 W' → Calls Tryd.prog 12 #[.int .i64 lo] W' fun e w' => e = .returned (.string (str (Oct.dgs 10 lo))) ∧ Below W'.heap.size W' w') := Lib.hid fun W' _ => digits_w lo W' (by omega)
        have CDh : Hid (∀ W', Below W3.heap.size W3 W' → Calls Tryd.prog 12 #[.int .i64 hi] W' fun e w' => e = .returned (.string (str (Oct.dgs 10 hi))) ∧ Below W'.heap.size W' w') := Lib.hid fun W' _ => digits_w hi W' hmx
        have CA : ∀ n : Nat, n ≤ 2147483647 → Hid (∀ W', Below W3.heap.size W3 W' → Calls Tryd.prog 13 #[.string (str (Oct.dgs 10 n))] W' fun e w' => (∃ fv bv, e = .returned (mv ⟨#[]⟩ ⟨#[]⟩ 200 ⟨#[]⟩ 1 fv bv) ∧ FIn w' fv (Fr.aged (Oct.dgs 10 n)) ∧ Sl bv) ∧ Below W'.heap.size W' w') := fun n hn => Lib.hid fun W' _ => aged_w (Oct.dgs 10 n) W' (by have := dgs_small hn; omega)
        have CF : ∀ n : Nat, n ≤ 2147483647 → ∀ y, y = decide (m < (n : Int)) → Hid (∀ fv bv W', Below W3.heap.size W3 W' → FIn W' fv (Fr.aged (Oct.dgs 10 n)) ∧ Sl bv → Calls Tryd.prog 9 #[mv ⟨#[]⟩ ⟨#[]⟩ 200 ⟨#[]⟩ 1 fv bv, .agg #[.int .i64 g, .int .i64 g], .int .i64 N] W' fun e w' => e = .returned (.bool y) ∧ Below W'.heap.size W' w') := fun n hn y hy => Lib.hid fun fv bv W' hb hf => by
          have := R.fresh ⟨#[]⟩ ⟨#[]⟩ ⟨#[]⟩ 200 1 fv bv (Fr.aged (Oct.dgs 10 n)) g g N W' (R.later hE hb) hf.1 hf.2 (aged_short hn) (by unfold I64; omega) (by unfold I64; omega) (by unfold I64; omega)
          rw [aged_yes D n g N hn hg.1 (by omega) (by omega) (by omega), ht, em, ← hy] at this; exact this
        have CAl := CA lo (by omega)
        have CAh := CA hi hmx
        have CFl := CF lo (by omega) yl hyl
        have CFh := CF hi hmx yh hyh
        have HS : Hid (∀ W', Below W3.heap.size W3 W' → W'.cell? ⟨w2.heap.size, 0, none⟩ = some (.int .i64 g) ∧ W'.cell? ⟨w2.heap.size, 1, none⟩ = some (.int .i64 g)) := Lib.hid fun W' hb =>
          ⟨(hb.cell (p := ⟨w2.heap.size, 0, none⟩) (World.block_lt_of_cell? _ _ hc.1)).trans hc.1, (hb.cell (p := ⟨w2.heap.size, 1, none⟩) (World.block_lt_of_cell? _ _ hc.2)).trans hc.2⟩
        have K0 : Hid (Below W3.heap.size W3 W3.drew) := Lib.hid ((Below.refl _ W3).drew)
        have HYL := Lib.hid hyl
        have HYH := Lib.hid hyh
        generalize str (Oct.dgs 10 lo) = sl at *
        generalize str (Oct.dgs 10 hi) = sh at *
        clear CA CF hc hb3 hE R he hyl hyh ht
        go_upto_region 10 with fail
        rw [← hW3]
        clear hW3 p0 p1 e2 f2 e3 f3 e2' f2' e3' f3' w1 HB
        go_cut [13, 14] (fun u13 u14 wx => ∃ W4, W4 = wx ∧ u13 = .bool yl ∧ u14 = .bool yh ∧ Below W3.heap.size W3 W4)
        case first =>
          go_region_held3 (fun w' => w'.cell? ⟨w2.heap.size, 0, none⟩ = some (.int .i64 g) ∧ w'.cell? ⟨w2.heap.size, 1, none⟩ = some (.int .i64 g))
            (first
              | with_reducible exact HS.out _ K0.out | with_reducible exact HS.out _ K6.out | with_reducible exact HS.out _ K5.out | with_reducible exact HS.out _ K4.out
              | with_reducible exact HS.out _ K3.out | with_reducible exact HS.out _ K2.out | with_reducible exact HS.out _ K1.out)
            (first
              | (go_at_call 9; (with_reducible refine (CFh.out f5 b5 w5 K5.out F5.out).mono ?_); rintro e w6 ⟨rfl, hb⟩; have K6 := Lib.hid (K5.out.trans (hb.mono K5.out.size)); clear hb)
              | (go_at_call 13; (with_reducible refine (CAh.out w4 K4.out).mono ?_); rintro e w5 ⟨⟨f5, b5, rfl, hf⟩, hb⟩; have K5 := Lib.hid (K4.out.trans (hb.mono K4.out.size)); have F5 := Lib.hid hf; clear hf hb)
              | (go_at_call 12; (with_reducible refine (CDh.out w3 K3.out).mono ?_); rintro e w4 ⟨rfl, hb⟩; have K4 := Lib.hid (K3.out.trans (hb.mono K3.out.size)); clear hb)
              | (go_at_call 9; (with_reducible refine (CFl.out f2 b2 w22 K2.out F2.out).mono ?_); rintro e w3 ⟨rfl, hb⟩; have K3 := Lib.hid (K2.out.trans (hb.mono K2.out.size)); clear hb)
              | (go_at_call 13; (with_reducible refine (CAl.out w11 K1.out).mono ?_); rintro e w22 ⟨⟨f2, b2, rfl, hf⟩, hb⟩; have K2 := Lib.hid (K1.out.trans (hb.mono K1.out.size)); have F2 := Lib.hid hf; clear hf hb)
              | (go_at_call 12; (with_reducible refine (CDl.out W3.drew K0.out).mono ?_); rintro e w11 ⟨rfl, hb⟩; have K1 := Lib.hid (K0.out.trans (hb.mono K0.out.size)); clear hb))
          go_wp2_with fail
          go_meet
          case rel => exact ⟨_, rfl, rfl, rfl, K6.out⟩
        case rest =>
          obtain ⟨W4, rfl, rfl, rfl, hb4⟩ := hcut
          clear CDl CDh CAl CAh CFl CFh HS K0
          have hfin := HB3.out.trans (hb4.mono HB3.out.size)
          have hll : (lo : Int) ≤ hi := by omega
          by_cases h1 : m < (lo : Int)
          · have h2 : m < (hi : Int) := by omega
            obtain rfl : yl = true := by rw [HYL.out, decide_eq_true h1]
            obtain rfl : yh = true := by rw [HYH.out, decide_eq_true h2]
            clear hll hle hmx
            go_wp2_with fail
            go_ret
            exact ⟨rfl, hfin⟩
          · obtain rfl : yl = false := by rw [HYL.out, decide_eq_false h1]
            by_cases h2 : m < (hi : Int)
            · obtain rfl : yh = true := by rw [HYH.out, decide_eq_true h2]
              clear hll hle hmx
              go_wp2_with fail
              go_ret
              exact ⟨rfl, hfin⟩
            · obtain rfl : yh = false := by rw [HYH.out, decide_eq_false h2]
              clear hll hle hmx
              go_wp2_with fail
              go_ret
              exact ⟨rfl, hfin⟩
end Go.Proofs.YtajbeoignhnpjaaDoor
