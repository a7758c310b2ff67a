/- The document's map in memory: Pieces. -/
import Derived.Test.YtgfgafondiipoaaSpD5
namespace Go.Proofs.Ytgfgafondiipoaa
open Go.RowKit

theorem cut_le : ∀ (rs : List Sp.Run) (n : Nat), (Sp.cut n rs).length ≤ rs.length
  | [], _ => Nat.le_refl _
  | e :: t, n => by
    unfold Sp.cut
    split
    · simp
    · have := cut_le t (n - e.2); simp; omega
theorem cut_zero (rs : List Sp.Run) : Sp.cut 0 rs = [] := by cases rs <;> simp [Sp.cut]
theorem cut_step (rs : List Sp.Run) (k r : Nat) (hk : k < rs.length) (hr : 0 < r) : Sp.cut r (rs.drop k) = (rs[k].1, min rs[k].2 r) :: Sp.cut (r - rs[k].2) (rs.drop (k + 1)) := by
  rw [List.drop_eq_getElem_cons hk, Sp.cut, if_neg (by omega)]
theorem puts_snoc (f : Sp.Cell → Sp.Cell) (es : List Sp.Run) (m : Sp.M) (k : Nat) (hk : k < es.length) : Sp.puts f (es.take (k + 1)) m = Sp.put es[k].1 es[k].2 f (Sp.puts f (es.take k) m) := by
  rw [List.take_add_one, List.getElem?_eq_getElem hk]; unfold Sp.puts; rw [List.foldl_append]; rfl
set_option maxHeartbeats 6400000 in
set_option maxRecDepth 100000 in
theorem rPieces_w (w : World) (q bs bw : Nat) (m : Sp.M) (N most : Int) (h : RD w q bs bw m) :
    Calls Try.prog 14 #[.pointer (some ⟨q, 0, none⟩), .int .i64 N, .int .i64 most] w fun e w' => ∃ v, e = .returned (.tuple #[v, .bool (Sp.pieces N most m).2.2]) ∧ RD w' q bs bw (Sp.pieces N most m).1 ∧ Touch (RF q bs bw) w w' ∧ EsOut (RF q bs bw) w' v ((Sp.pieces N most m).2.1.map Sp.ie) := by
  have hlen := h.len
  have H := Lib.hid h
  have HLE := Lib.hid (runs_le m 0)
  have HGE := Lib.hid (Sp.runs_ge m 0)
  by_cases hN : N < 1
  · have HF : Hid (Sp.pieces N most m = (m, [], false)) := Lib.hid (by unfold Sp.pieces; rw [if_pos (Or.inl hN)])
    clear h
    go_enter Try.func14, Try.ntmps14
    go_wp2_with fail
    go_ret2
    rw [HF.out]
    exact ⟨_, rfl, H.out, Touch.refl _ _, EsOut.nil _ _⟩
  · have c0 := rFree_w w q bs bw m h
    obtain ⟨fr, hfr⟩ : ∃ fr, fr = Sp.free m := ⟨_, rfl⟩
    have HFR := Lib.hid hfr
    rw [← hfr] at c0
    clear h hfr
    by_cases hfew : (fr : Int) < N
    · have HF : Hid (Sp.pieces N most m = (m, [], false)) := Lib.hid (by unfold Sp.pieces; rw [if_pos (Or.inr (by rw [← HFR.out]; exact hfew))])
      go_enter Try.func14, Try.ntmps14
      go_wp2_with fail
      refine c0.mono ?_
      rintro e w1 ⟨rfl, hb1⟩
      have HB1 := Lib.hid hb1
      clear c0 hb1
      go_wp2_with fail
      go_ret2
      rw [HF.out]
      exact ⟨_, rfl, H.out.later HB1.out, Touch.of HB1.out, EsOut.nil _ _⟩
    · have HF : Hid (Sp.pieces N most m = if most < ((Sp.cut N.toNat (Sp.runs 0 m)).length : Int) then (m, [], false) else (Sp.puts Sp.anew (Sp.cut N.toNat (Sp.runs 0 m)) m, Sp.cut N.toNat (Sp.runs 0 m), true)) := Lib.hid (by
        unfold Sp.pieces; rw [if_neg (by rw [← HFR.out]; omega)])
      have hfl : fr ≤ 65536 := by rw [HFR.out]; exact Nat.le_trans List.countP_le_length hlen
      obtain ⟨n0, rfl⟩ : ∃ n0 : Nat, N = (n0 : Int) := ⟨N.toNat, by omega⟩
      have hn0 : n0 ≤ 65536 := by omega
      rw [Int.toNat_natCast] at HF
      go_enter Try.func14, Try.ntmps14
      go_wp2_with fail
      refine c0.mono ?_
      rintro e w1 ⟨rfl, hb1⟩
      have HB1 := Lib.hid hb1
      have c1 := rRuns_w w1 q bs bw m (H.out.later hb1)
      clear c0 hb1
      go_wp2_with fail
      refine c1.mono ?_
      rintro e w2 ⟨v, rfl, hb2, hE2⟩
      have E2 := Lib.hid hE2.out
      have HB2 := Lib.hid (bt5 HB1.out hb2)
      clear c1 hb2 hE2 HFR hfew hfl HB1
      generalize Sp.runs 0 m = rs at *
      obtain ⟨ao, cap, rfl, hc1, hc2, hg⟩ := E2.out
      have HG := Lib.hid hg
      rw [List.length_map] at hc1 ⊢
      obtain ⟨L, hL⟩ : ∃ L, L = rs.length := ⟨_, rfl⟩
      have HL := Lib.hid hL
      rw [← hL] at hc1 ⊢
      have hL9 : L ≤ 65536 := by rw [hL]; have := HLE.out; omega
      clear hg hL E2
      go_upto_region 6 with fail
      go_loopw [1, 9, 10] (fun vr vo vi wr => ∃ (k r : Nat) (out : List Sp.Run), k ≤ L ∧ r ≤ n0 ∧ out.length ≤ k ∧ vr = .int .i64 r ∧ vi = .int .i64 k ∧ Hid (out ++ Sp.cut r (rs.drop k) = Sp.cut n0 rs) ∧ Hid (Below w2.heap.size w2 wr) ∧ Hid (ERow w2.heap.size (RF q bs bw) wr vo (out.map Sp.ie))) (fun _ _ vi _ => L - (intOf vi).toNat)
      case atStart => exact ⟨0, n0, [], Nat.zero_le _, Nat.le_refl _, Nat.le_refl _, rfl, rfl, Lib.hid rfl, Lib.hid (Below.refl _ _), Lib.hid (ERow.empty _ _ _)⟩
      case round =>
        obtain ⟨k, r, out, hk, hr, hol, rfl, rfl, HC, HB, E⟩ := hrel
        by_cases hgo : k < L ∧ 0 < r
        · obtain ⟨hlt, hr0⟩ := hgo
          have hki : (k : Int) < L := by omega
          have hri : (0 : Int) < r := by omega
          have hkr : k < rs.length := by rw [← HL.out]; exact hlt
          obtain ⟨b1, o1, hx1, hl1, hnF, hcc⟩ := HG.out.resolve_left (fun x => by have := HL.out; have h9 := congrArg List.length x; rw [List.length_map] at h9; simp at h9; rw [h9] at this; simp at this; omega)
          subst hx1
          have f1 := cell_later HB.out (hcc k (by rw [List.length_map]; exact hkr)).1
          have f2 := cell_later HB.out (hcc k (by rw [List.length_map]; exact hkr)).2
          rw [List.getElem_map] at f1 f2
          have HS := Lib.hid (cut_step rs k r hkr hr0)
          have hge := HGE.out rs[k] (List.getElem_mem hkr)
          clear hcc
          generalize rs[k] = x at HS f1 f2 hge
          clear hkr
          obtain ⟨a, z⟩ := x
          simp only [Sp.ie] at f1 f2
          simp only at hge
          by_cases hzr : z > r
          · have hzi : (r : Int) < z := by omega
            have hltw := (H.out.later (bt5 HB2.out HB.out)).lt
            have hb5 : Below wr.heap.size wr (wr.alloc (.cells #[.int .i64 (a : Int), .int .i64 (r : Int)] 35)) := (Below.refl _ wr).alloc (Nat.le_refl _) _
            have E5 := Lib.hid (E.out.later hb5)
            have X5 := Lib.hid (es_one (F := RF q bs bw) wr (a : Int) (r : Int) hltw)
            have HLL : Hid ((out.map Sp.ie).length + [((a : Int), (r : Int))].length ≤ 1000000) := Lib.hid (by rw [List.length_map]; simp; omega)
            have HBB := Lib.hid (bt5 HB.out hb5)
            have HF5 := Lib.hid (fun (x : Nat) (hx : RF q bs bw x) => Nat.lt_of_lt_of_le (hltw x hx) hb5.size)
            have HNC : Hid ((out ++ [(a, r)]) ++ Sp.cut (r - z) (rs.drop (k + 1)) = Sp.cut n0 rs) := Lib.hid (by
              have h9 := HC.out
              rw [HS.out, show min z r = r from by omega] at h9
              rw [← h9, List.append_assoc]; rfl)
            have HNE : Hid ((out ++ [(a, r)]).map Sp.ie = out.map Sp.ie ++ [((a : Int), (r : Int))]) := Lib.hid (by rw [List.map_append]; rfl)
            clear hb5 hltw HC HS
            go_wp2_with (at_builtin; refine appEs E5.out X5.out rfl HLL.out HBB.out.size HF5.out rfl _ _ rfl rfl rfl ?_; intro v9 w9 hE9 ht9)
            have hb9 := Lib.hid (ht9.below (fun x hx => (E5.out.own x hx).1) HBB.out HBB.out.size)
            have HE9 := Lib.hid hE9
            clear hE9 ht9
            go_roundw
            case rel => exact ⟨k + 1, r - z, out ++ [(a, r)], by omega, by omega, by simp; omega, (congrArg (Value.int .i64) (by omega)), by go_num, HNC, hb9, Lib.hid (by rw [HNE.out]; exact HE9.out)⟩
            case measure => simp [intOf]; omega
          · have hzi : ¬ (r : Int) < z := by omega
            have hltw := (H.out.later (bt5 HB2.out HB.out)).lt
            have hb5 : Below wr.heap.size wr (wr.alloc (.cells #[.int .i64 (a : Int), .int .i64 (z : Int)] 35)) := (Below.refl _ wr).alloc (Nat.le_refl _) _
            have E5 := Lib.hid (E.out.later hb5)
            have X5 := Lib.hid (es_one (F := RF q bs bw) wr (a : Int) (z : Int) hltw)
            have HLL : Hid ((out.map Sp.ie).length + [((a : Int), (z : Int))].length ≤ 1000000) := Lib.hid (by rw [List.length_map]; simp; omega)
            have HBB := Lib.hid (bt5 HB.out hb5)
            have HF5 := Lib.hid (fun (x : Nat) (hx : RF q bs bw x) => Nat.lt_of_lt_of_le (hltw x hx) hb5.size)
            have HNC : Hid ((out ++ [(a, z)]) ++ Sp.cut (r - z) (rs.drop (k + 1)) = Sp.cut n0 rs) := Lib.hid (by
              have h9 := HC.out
              rw [HS.out, show min z r = z from by omega] at h9
              rw [← h9, List.append_assoc]; rfl)
            have HNE : Hid ((out ++ [(a, z)]).map Sp.ie = out.map Sp.ie ++ [((a : Int), (z : Int))]) := Lib.hid (by rw [List.map_append]; rfl)
            clear hb5 hltw HC HS
            go_wp2_with (at_builtin; refine appEs E5.out X5.out rfl HLL.out HBB.out.size HF5.out rfl _ _ rfl rfl rfl ?_; intro v9 w9 hE9 ht9)
            have hb9 := Lib.hid (ht9.below (fun x hx => (E5.out.own x hx).1) HBB.out HBB.out.size)
            have HE9 := Lib.hid hE9
            clear hE9 ht9
            go_roundw
            case rel => exact ⟨k + 1, r - z, out ++ [(a, z)], by omega, by omega, by simp; omega, (congrArg (Value.int .i64) (by omega)), by go_num, HNC, hb9, Lib.hid (by rw [HNE.out]; exact HE9.out)⟩
            case measure => simp [intOf]; omega
        · by_cases hlt : k < L
          · have hki : (k : Int) < L := by omega
            obtain rfl : r = 0 := by omega
            have HCZ : Hid (Sp.cut 0 (rs.drop k) = []) := Lib.hid (cut_zero _)
            clear hgo
            have HO : Hid (Sp.cut n0 rs = out) := Lib.hid (by have := HC.out; rw [HCZ.out, List.append_nil] at this; exact this.symm)
            have HIN : Hid (∀ e ∈ out, e.1 + e.2 ≤ m.length) := Lib.hid (fun e he => by
              rw [← HO.out] at he
              obtain ⟨x, hx, h1, h2, h3⟩ := Sp.cut_mem rs n0 (fun y hy => (HGE.out y hy).2.1) e he
              have := HGE.out x hx
              omega)
            rw [HO.out] at HF
            have T3 := Lib.hid (Touch.of (F := RF q bs bw) (bt5 HB2.out HB.out))
            have R3 := Lib.hid (H.out.later (bt5 HB2.out HB.out))
            obtain ⟨lo, hlo⟩ : ∃ lo, lo = out.length := ⟨_, rfl⟩
            have HLO := Lib.hid hlo
            obtain ⟨va, vc, rfl, hv1, hv2⟩ := own_shape E.out.row
            rw [List.length_map, ← hlo] at hv1 E ⊢
            have hol2 : lo ≤ k := by rw [hlo]; exact hol
            rw [← hlo] at HF
            clear hlo hol HC HCZ HO
            by_cases hm : most < (lo : Int)
            · rw [if_pos hm] at HF
              go_wp2_with fail
              go_ret2
              rw [HF.out]
              exact ⟨_, rfl, R3.out, T3.out, EsOut.nil _ _⟩
            · rw [if_neg hm] at HF
              clear HG HB H
              go_upto_region 16 with fail
              go_loopw [12] (fun vj wr => ∃ j : Nat, j ≤ lo ∧ vj = .int .i64 j ∧ Hid (RD wr q bs bw (Sp.puts Sp.anew (out.take j) m)) ∧ Hid (Touch (RF q bs bw) w wr) ∧ Hid (ERow w2.heap.size (RF q bs bw) wr (.slice va lo vc) (out.map Sp.ie))) (fun vj _ => lo - (intOf vj).toNat)
              case atStart => exact ⟨0, Nat.zero_le _, rfl, R3, T3, E⟩
              case round =>
                clear R3 T3 E
                obtain ⟨j, hj, rfl, R, T, E⟩ := hrel
                by_cases hlt : j < lo
                · have hji : (j : Int) < lo := by omega
                  have hjo : j < out.length := by rw [← HLO.out]; exact hlt
                  cases va with
                  | none =>
                    exfalso
                    rcases E.out.row.2 with ⟨_, h0⟩ | ⟨g, cap, cur, hv, _⟩
                    · rw [List.length_map] at h0; have := HLO.out; omega
                    · cases hv
                  | some ad =>
                    obtain ⟨g, rfl, c1, c2⟩ := E.out.cell j (by rw [List.length_map]; exact hjo)
                    rw [List.getElem_map] at c1 c2
                    have HS := Lib.hid (puts_snoc Sp.anew out m j hjo)
                    have hin := HIN.out out[j] (List.getElem_mem hjo)
                    generalize out[j] = x at HS c1 c2 hin
                    obtain ⟨a, z⟩ := x
                    simp only [Sp.ie] at c1 c2
                    simp only at hin
                    have c9 := rSet_w wr q bs bw _ a z 2 2 rfl R.out (by rw [Sp.puts_length]; exact hin)
                    unfold ext at c9
                    clear hjo hin
                    go_wp2_with fail
                    refine c9.mono ?_
                    rintro e w9 ⟨rfl, hR9, hT9⟩
                    have R9 : Hid (RD w9 q bs bw (Sp.puts Sp.anew (out.take (j + 1)) m)) := Lib.hid (by rw [HS.out]; exact hR9)
                    have E9 := Lib.hid (E.out.touch hT9 (fun _ h => .inl h))
                    have T9 := Lib.hid (T.out.trans hT9)
                    clear c9 hR9 hT9 c1 c2
                    go_wp2_with fail
                    go_roundw
                    case rel => exact ⟨j + 1, by omega, by go_num, R9, T9, E9⟩
                    case measure => simp [intOf]; omega
                · have hji : ¬ (j : Int) < lo := by omega
                  have HT : Hid (out.take j = out) := Lib.hid (List.take_of_length_le (by rw [← HLO.out]; omega))
                  rw [HT.out] at R
                  go_wp2_with fail
                  go_ret2
                  rw [HF.out]
                  exact ⟨_, rfl, R.out, T.out, E.out.out⟩
          · have hki : ¬ (k : Int) < L := by omega
            have HCZ : Hid (Sp.cut r (rs.drop k) = []) := Lib.hid (by rw [List.drop_eq_nil_of_le (by rw [← HL.out]; omega)]; rfl)
            clear hgo
            have HO : Hid (Sp.cut n0 rs = out) := Lib.hid (by have := HC.out; rw [HCZ.out, List.append_nil] at this; exact this.symm)
            have HIN : Hid (∀ e ∈ out, e.1 + e.2 ≤ m.length) := Lib.hid (fun e he => by
              rw [← HO.out] at he
              obtain ⟨x, hx, h1, h2, h3⟩ := Sp.cut_mem rs n0 (fun y hy => (HGE.out y hy).2.1) e he
              have := HGE.out x hx
              omega)
            rw [HO.out] at HF
            have T3 := Lib.hid (Touch.of (F := RF q bs bw) (bt5 HB2.out HB.out))
            have R3 := Lib.hid (H.out.later (bt5 HB2.out HB.out))
            obtain ⟨lo, hlo⟩ : ∃ lo, lo = out.length := ⟨_, rfl⟩
            have HLO := Lib.hid hlo
            obtain ⟨va, vc, rfl, hv1, hv2⟩ := own_shape E.out.row
            rw [List.length_map, ← hlo] at hv1 E ⊢
            have hol2 : lo ≤ k := by rw [hlo]; exact hol
            rw [← hlo] at HF
            clear hlo hol HC HCZ HO
            by_cases hm : most < (lo : Int)
            · rw [if_pos hm] at HF
              go_wp2_with fail
              go_ret2
              rw [HF.out]
              exact ⟨_, rfl, R3.out, T3.out, EsOut.nil _ _⟩
            · rw [if_neg hm] at HF
              clear HG HB H
              go_upto_region 16 with fail
              go_loopw [12] (fun vj wr => ∃ j : Nat, j ≤ lo ∧ vj = .int .i64 j ∧ Hid (RD wr q bs bw (Sp.puts Sp.anew (out.take j) m)) ∧ Hid (Touch (RF q bs bw) w wr) ∧ Hid (ERow w2.heap.size (RF q bs bw) wr (.slice va lo vc) (out.map Sp.ie))) (fun vj _ => lo - (intOf vj).toNat)
              case atStart => exact ⟨0, Nat.zero_le _, rfl, R3, T3, E⟩
              case round =>
                clear R3 T3 E
                obtain ⟨j, hj, rfl, R, T, E⟩ := hrel
                by_cases hlt : j < lo
                · have hji : (j : Int) < lo := by omega
                  have hjo : j < out.length := by rw [← HLO.out]; exact hlt
                  cases va with
                  | none =>
                    exfalso
                    rcases E.out.row.2 with ⟨_, h0⟩ | ⟨g, cap, cur, hv, _⟩
                    · rw [List.length_map] at h0; have := HLO.out; omega
                    · cases hv
                  | some ad =>
                    obtain ⟨g, rfl, c1, c2⟩ := E.out.cell j (by rw [List.length_map]; exact hjo)
                    rw [List.getElem_map] at c1 c2
                    have HS := Lib.hid (puts_snoc Sp.anew out m j hjo)
                    have hin := HIN.out out[j] (List.getElem_mem hjo)
                    generalize out[j] = x at HS c1 c2 hin
                    obtain ⟨a, z⟩ := x
                    simp only [Sp.ie] at c1 c2
                    simp only at hin
                    have c9 := rSet_w wr q bs bw _ a z 2 2 rfl R.out (by rw [Sp.puts_length]; exact hin)
                    unfold ext at c9
                    clear hjo hin
                    go_wp2_with fail
                    refine c9.mono ?_
                    rintro e w9 ⟨rfl, hR9, hT9⟩
                    have R9 : Hid (RD w9 q bs bw (Sp.puts Sp.anew (out.take (j + 1)) m)) := Lib.hid (by rw [HS.out]; exact hR9)
                    have E9 := Lib.hid (E.out.touch hT9 (fun _ h => .inl h))
                    have T9 := Lib.hid (T.out.trans hT9)
                    clear c9 hR9 hT9 c1 c2
                    go_wp2_with fail
                    go_roundw
                    case rel => exact ⟨j + 1, by omega, by go_num, R9, T9, E9⟩
                    case measure => simp [intOf]; omega
                · have hji : ¬ (j : Int) < lo := by omega
                  have HT : Hid (out.take j = out) := Lib.hid (List.take_of_length_le (by rw [← HLO.out]; omega))
                  rw [HT.out] at R
                  go_wp2_with fail
                  go_ret2
                  rw [HF.out]
                  exact ⟨_, rfl, R.out, T.out, E.out.out⟩
end Go.Proofs.Ytgfgafondiipoaa
