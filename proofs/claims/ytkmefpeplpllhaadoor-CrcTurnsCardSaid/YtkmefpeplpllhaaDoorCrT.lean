/- The law CrcTurns. -/
import Derived.Test.YtkmefpeplpllhaaDoorCrA1
import Derived.Test.YtkmefpeplpllhaaDoorCrP3
import Derived.Test.YtkmefpeplpllhaaDoorCrE4
namespace Go.Proofs.YtkmefpeplpllhaaDoor
open Go.RowKit

theorem Buf.blk {W w : World} {v : Value} {l : List UInt8} (h : Buf W w v l) (hv : v ≠ .slice none 0 0) : ∃ g cap, v = .slice (some ⟨g, 0, none⟩) l.length cap ∧ W.heap.size ≤ g ∧ Blk w g l ∧ l.length ≤ cap ∧ cap ≤ 9223372036854775807 := by
  rcases h.1.2 with ⟨h0, _⟩ | ⟨g, cap, cur, hv', hg, hh, h1, h2, h3, h4⟩
  · exact absurd h0 hv
  · exact ⟨g, cap, hv', hg, ⟨cur, hh, by rw [h3]; omega, by rw [Nat.mul_one] at h4; exact h4⟩, h1, by unfold maxLen at h2; omega⟩
theorem modm_at (a : Int) (N : Nat) (hN : N ≤ 1000000) (F : Nat) (hF : F = N + 4) : ∃ (q : Int) (k : Nat), a.tmod ((F : Int) - 3) = q ∧ IntKind.i64.wrap (q + F) = q + F ∧ IntKind.i64.wrap (q + F - 3) = q + F - 3 ∧ (q + F - 3).tmod ((F : Int) - 3) = k ∧ k ≤ N := by
  have e : (F : Int) - 3 = (N : Int) + 1 := by omega
  have h2 : -((N : Int) + 1) < a.tmod ((N : Int) + 1) ∧ a.tmod ((N : Int) + 1) < (N : Int) + 1 := by
    constructor
    · have := Int.lt_tmod_of_pos a (b := (N : Int) + 1) (by omega); omega
    · exact Int.tmod_lt_of_pos a (by omega)
  rw [e]
  generalize a.tmod ((N : Int) + 1) = q at h2
  have h4 := Int.emod_nonneg (q + F - 3) (b := (N : Int) + 1) (by omega)
  have h5 := Int.emod_lt_of_pos (q + F - 3) (b := (N : Int) + 1) (by omega)
  refine ⟨q, ((q + F - 3) % ((N : Int) + 1)).toNat, rfl, ?_, ?_, ?_, ?_⟩
  · rw [IntKind.wrap_i64]; omega
  · rw [IntKind.wrap_i64]; omega
  · rw [Int.tmod_eq_emod_of_nonneg (by omega)]; omega
  · omega

set_option maxHeartbeats 3200000 in
set_option maxRecDepth 100000 in
theorem turns_w (v : Value) (l : List UInt8) (a : Int) (x0 x1 x2 x3 : UInt8) (w : World) (h : BIn w v l) (hn : NilOk v) (hT : CTab w) :
    Calls Tryd.prog 5 #[v, .int .i64 a, .agg #[.int .u8 x0.toNat, .int .u8 x1.toNat, .int .u8 x2.toNat, .int .u8 x3.toNat]] w fun e w' => e = .returned (.bool true) ∧ Below w.heap.size w w' := by
  have HV := Lib.hid h
  have HN := Lib.hid hn
  have HT := Lib.hid hT
  obtain ⟨ao, cap, rfl, hlc, hc9, _⟩ := h
  obtain ⟨N, hN⟩ : ∃ N, N = l.length := ⟨_, rfl⟩
  have HNL := Lib.hid hN
  rw [← hN] at hlc HV HN ⊢
  clear hn hT hN
  have hb0 : Below w.heap.size w (w.alloc (.cells #[.int .u8 x0.toNat, .int .u8 x1.toNat, .int .u8 x2.toNat, .int .u8 x3.toNat] 38)) := (Below.refl _ w).alloc (Nat.le_refl _) _
  have hW : ∀ j (hj : j < 4), (w.alloc (.cells #[.int .u8 x0.toNat, .int .u8 x1.toNat, .int .u8 x2.toNat, .int .u8 x3.toNat] 38)).cell? ⟨w.heap.size, j, none⟩ = some (.int .u8 (([x0, x1, x2, x3] : List UInt8).getD j 0).toNat) := fun j hj => by
    rw [World.cell?_alloc_at _ _ _ _ rfl]
    match j, hj with
    | 0, _ => rfl
    | 1, _ => rfl
    | 2, _ => rfl
    | 3, _ => rfl
  have hlt : w.heap.size < (w.alloc (.cells #[.int .u8 x0.toNat, .int .u8 x1.toNat, .int .u8 x2.toNat, .int .u8 x3.toNat] 38)).heap.size := by simp
  go_enter Tryd.func5, Tryd.ntmps5
  go_upto_region 1 with fail
  generalize w.alloc (.cells #[.int .u8 x0.toNat, .int .u8 x1.toNat, .int .u8 x2.toNat, .int .u8 x3.toNat] 38) = W0 at hb0 hW hlt ⊢
  obtain ⟨gw, hgw⟩ : ∃ gw, gw = w.heap.size := ⟨_, rfl⟩
  rw [← hgw] at hW hlt ⊢
  have HB0 := Lib.hid hb0
  have HW := Lib.hid hW
  have HLT := Lib.hid hlt
  have cA := Lib.hid (fun (W : World) (hb : Below W0.heap.size W0 W) => awake_w W (HT.out.later (bt5 HB0.out hb)))
  have hww : Below W0.heap.size W0 W0 := Below.refl _ _
  have HGW := Lib.hid hgw
  clear hb0 hW hlt hgw
  by_cases h10 : (1000 : Int) < N
  · go_wp2_with fail
    refine (cA.out W0 hww).mono ?_
    rintro e w1 ⟨rfl, hb1⟩
    go_wp2_with fail
    refine (cA.out w1 hb1).mono ?_
    rintro e w2 ⟨rfl, hb2⟩
    go_wp2_with fail
    go_ret
    exact ⟨rfl, bt5 HB0.out (bt5 hb1 hb2)⟩
  have hN10 : N ≤ 1000 := by omega
  go_wp2_with fail
  refine (cA.out W0 hww).mono ?_
  rintro e w1 ⟨rfl, hb1⟩
  clear hww
  have cF := rFrame_w _ l w1 (HV.out.later (bt5 HB0.out hb1)) HN.out (by rw [← HNL.out]; omega)
  go_wp2_with fail
  refine cF.mono ?_
  rintro e w2 ⟨u, rfl, hB⟩
  clear cF
  have hb2 := bt5 hb1 hB.below
  obtain ⟨hfi, hfn⟩ := hB.in_
  have HFI := Lib.hid hfi
  have HFN := Lib.hid hfn
  obtain ⟨af, cf, rfl, hcf, hcf9, _⟩ := hfi
  have hfl := Cr.frame_length l
  obtain ⟨fl, hfr⟩ : ∃ fl, fl = Cr.frame l := ⟨_, rfl⟩
  have HFR := Lib.hid hfr
  rw [← hfr] at HFI HFN hcf hfl ⊢
  obtain ⟨M, hM⟩ : ∃ M, M = fl.length := ⟨_, rfl⟩
  have HM := Lib.hid hM
  rw [← hM] at HFI HFN hcf hfl ⊢
  rw [← HNL.out] at hfl
  have HFL := Lib.hid hfl
  obtain ⟨q, k, m1, m2, m3, m4, hk⟩ := modm_at a N (by omega) M hfl
  have hMi : (M : Int) ≤ 1004 := by omega
  have hM3 : (4 : Int) ≤ M := by omega
  clear hB hfn hfr hM hfl hb1
  go_upto_region 4 with fail
  go_upto_region 5 with fail
  clear m1 m2 m3 m4
  have hlen : ([] : List UInt8).length + fl.length ≤ 1000000000 := by rw [← HM.out]; simp; omega
  have hfi2 := HFI.out.later ((Below.refl _ w2).alloc (Nat.le_refl _) (.cells #[] 5))
  go_upto_region 6 with (at_builtin; refine appBs (Buf.none_ w2 w2 (Below.refl _ _)) hfi2 HFN.out hlen rfl _ _ rfl rfl rfl ?_; intro v3 w3 hB3 hne)
  have hne2 := hne (by intro e; cases e)
  rw [List.nil_append] at hB3
  obtain ⟨g, cc, rfl, hg2, hblk, hcc, hcc9⟩ := hB3.blk hne2
  have hb3 := hB3.below
  rw [← HM.out] at hcc ⊢
  clear hB3 hne hne2 hlen hfi2
  obtain ⟨xs, hxs⟩ : ∃ xs, xs = ([x0, x1, x2, x3] : List UInt8) := ⟨_, rfl⟩
  have HXS := Lib.hid hxs
  have HW2 : Hid (∀ j, j < 4 → W0.cell? ⟨gw, j, none⟩ = some (.int .u8 (xs.getD j 0).toNat)) := Lib.hid (by rw [hxs]; exact HW.out)
  rw [← Cr.part_zero fl k xs] at hblk
  clear hxs
  go_upto_region 7 with fail
  go_loopw [10] (fun i wr => ∃ j : Nat, j ≤ 4 ∧ i = .int .i64 j ∧ Blk wr g (Cr.part fl k xs j) ∧ Below w2.heap.size w2 wr) (fun i _ => 4 - (intOf i).toNat)
  case atStart => exact ⟨0, Nat.zero_le _, rfl, hblk, hb3⟩
  case round =>
    obtain ⟨j, hj, rfl, hB, hbr⟩ := hrel
    by_cases hlt : j < 4
    · have hji : (j : Int) < 4 := by omega
      have hkl : k + j < fl.length := by rw [← HM.out, HFL.out]; omega
      obtain ⟨fd, ff⟩ := hB.cell (k + j) (by rw [Cr.part_length]; exact hkl)
      have fw := cell_later (bt5 hb2 hbr) (HW2.out j hlt)
      have HSET := Lib.hid (fun (c : UInt8) (z : Int) (hz : z = c.toNat) => hB.set (k + j) c z hz)
      have HBW := Lib.hid (fun (c : Value) => set_below (k := k + j) (v := c) hbr hg2)
      have HFS := Lib.hid (Cr.part_succ fl k xs j hkl)
      generalize (Cr.part fl k xs j)[k + j]'(by rw [Cr.part_length]; exact hkl) = y at *
      generalize xs.getD j 0 = x at *
      obtain ⟨y1, hy1⟩ : ∃ y1, y ^^^ x = y1 := ⟨_, rfl⟩
      have t1 := xr8 y x y1.toNat (by rw [hy1])
      rw [hy1] at HFS
      have hkj : k + j < M := by rw [HM.out]; exact hkl
      have hkji : (k : Int) + j < M := by omega
      have hkj2 : k + j < cc := by omega
      clear hy1 hkl hB
      go_upto_region 9 with fail
      go_region
      have hB5 := HSET.out y1 (y1.toNat : Int) rfl
      rw [← HFS.out] at hB5
      have hb5 := HBW.out (.int .u8 (y1.toNat : Int))
      have hB6 : Blk (wr.setCell ⟨g, k + j, none⟩ (.int .u8 (y1.toNat : Int))).drew g (Cr.part fl k xs (j + 1)) := hB5
      have hb6 := hb5.drew
      generalize (wr.setCell ⟨g, k + j, none⟩ (.int .u8 (y1.toNat : Int))).drew = w6 at hB6 hb6 ⊢
      clear HSET HBW hB5 hb5 fd ff fw t1 hbr
      go_wp2_with fail
      go_roundw
      case rel => exact ⟨j + 1, by omega, by go_num, hB6, hb6⟩
      case measure => simp [intOf]; omega
    · have hji : ¬ (j : Int) < 4 := by omega
      obtain rfl : j = 4 := by omega
      have hPl : (Cr.part fl k xs 4).length = M := by rw [Cr.part_length, ← HM.out]
      have hin := hB.in_ hPl.symm hcc hcc9
      have hop : Cr.opn (Cr.part fl k xs 4) = if x0 = 0 ∧ x1 = 0 ∧ x2 = 0 ∧ x3 = 0 then (l, 0) else ([], 33) := by
        rw [HFR.out, HXS.out]
        exact Cr.opn_turned (n := N - k) (by rw [← HFR.out, ← HM.out, HFL.out]; omega)
      have cO := Open_w _ _ wr hin (by rw [hPl]; omega) (HT.out.later (bt5 HB0.out (bt5 hb2 hbr)))
      rw [hop] at cO
      have hbW := bt5 hb2 hbr
      have q0 := cell_later hbW (HW.out 0 (by decide))
      have q1 := cell_later hbW (HW.out 1 (by decide))
      have q2 := cell_later hbW (HW.out 2 (by decide))
      have q3 := cell_later hbW (HW.out 3 (by decide))
      have q0 : wr.cell? ⟨gw, 0, none⟩ = some (.int .u8 x0.toNat) := q0
      have q1 : wr.cell? ⟨gw, 1, none⟩ = some (.int .u8 x1.toNat) := q1
      have q2 : wr.cell? ⟨gw, 2, none⟩ = some (.int .u8 x2.toNat) := q2
      have q3 : wr.cell? ⟨gw, 3, none⟩ = some (.int .u8 x3.toNat) := q3
      clear hop hin hPl hB hblk hb3 hj hlt
      by_cases hz : x0 = 0 ∧ x1 = 0 ∧ x2 = 0 ∧ x3 = 0
      · rw [if_pos hz] at cO
        have hqq := fun W => eq_four x0 x1 x2 x3 W
        rw [decide_eq_true hz] at hqq
        clear hz
        go_wp2_with fail
        refine cO.mono ?_
        rintro e w5 ⟨u5, rfl, hB5⟩
        have hq := hqq w5
        clear hqq
        have hb5 := bt5 hbW hB5.below
        have s1 := hB5.string
        have s2 := (HV.out.later (bt5 HB0.out hb5)).all HN.out
        have p0 := cell_later hB5.below q0
        have p1 := cell_later hB5.below q1
        have p2 := cell_later hB5.below q2
        have p3 := cell_later hB5.below q3
        clear cO q0 q1 q2 q3 hB5
        go_wp2_with fail
        go_ret
        exact ⟨rfl, bt5 HB0.out hb5⟩
      · rw [if_neg hz] at cO
        have hqq := fun W => eq_four x0 x1 x2 x3 W
        rw [decide_eq_false hz] at hqq
        clear hz
        go_wp2_with fail
        refine cO.mono ?_
        rintro e w5 ⟨u5, rfl, hB5⟩
        have hq := hqq w5
        clear hqq
        have hb5 := bt5 hbW hB5.below
        have p0 := cell_later hB5.below q0
        have p1 := cell_later hB5.below q1
        have p2 := cell_later hB5.below q2
        have p3 := cell_later hB5.below q3
        obtain ⟨a5, c5, rfl, _⟩ := hB5.in_.1
        clear cO q0 q1 q2 q3 hB5
        go_wp2_with fail
        go_ret
        exact ⟨rfl, bt5 HB0.out hb5⟩
end Go.Proofs.YtkmefpeplpllhaaDoor
