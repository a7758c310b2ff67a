/- The document's map in memory: Give. -/
import Derived.Test.YtgfgafondiipoaaSpD9
namespace Go.Proofs.Ytgfgafondiipoaa
open Go.RowKit
open Classical in
set_option maxHeartbeats 6400000 in
set_option maxRecDepth 100000 in
theorem rGive_w (w : World) (q bs bw : Nat) (m : Sp.M) (v : Value) (es : List Sp.Ext) (h : RD w q bs bw m) (hv : EsOut (RF q bs bw) w v es) (hi64 : ∀ e ∈ es, I64 e.1 ∧ I64 e.2) (hel : es.length ≤ 1000) :
    Calls Try.prog 19 #[.pointer (some ⟨q, 0, none⟩), v] w fun e w' => e = .returned (.bool (Sp.give es m).2) ∧ RD w' q bs bw (Sp.give es m).1 ∧ Touch (RF q bs bw) w w' := by
  have H := Lib.hid h
  have cA := rApart_w w q bs bw m v es h hv hi64 hel
  obtain ⟨n, hn⟩ : ∃ n, n = m.length := ⟨_, rfl⟩
  have HN := Lib.hid hn
  have hlen : n ≤ 65536 := by rw [hn]; exact h.len
  rw [← hn] at cA
  obtain ⟨ao, cap, rfl, hc1, hc2, hg⟩ := hv
  have HG := Lib.hid hg
  have HEO : Hid (EsOut (RF q bs bw) w (.slice ao es.length cap) es) := Lib.hid ⟨ao, cap, rfl, hc1, hc2, hg⟩
  obtain ⟨L, hL⟩ : ∃ L, L = es.length := ⟨_, rfl⟩
  have HL := Lib.hid hL
  rw [← hL] at hc1 hel cA HEO ⊢
  clear h hi64 hg hL hn
  by_cases hA : Sp.Apart n es
  · rw [decide_eq_true hA] at cA
    have HA := Lib.hid hA
    clear hA
    go_enter Try.func19, Try.ntmps19
    go_wp2_with fail
    refine cA.mono ?_
    rintro e w1 ⟨rfl, hb1⟩
    have HB1 := Lib.hid hb1
    clear cA hb1
    go_upto_region 4 with fail
    go_loopw [5] (fun vi wr => ∃ k : Nat, k ≤ L ∧ vi = .int .i64 k ∧ Hid (AllIn m (fun c => c.1 ≠ 0 ∧ c.2 = false) (es.take k)) ∧ Hid (Below w.heap.size w wr)) (fun vi _ => L - (intOf vi).toNat)
    case atStart => exact ⟨0, Nat.zero_le _, rfl, Lib.hid (fun e he => nomatch he), HB1⟩
    case round =>
      clear HB1
      obtain ⟨k, hk, rfl, HI, HB⟩ := hrel
      by_cases hlt : k < L
      · have hki : (k : Int) < L := by omega
        have hkm : k < es.length := by rw [← HL.out]; exact hlt
        obtain ⟨b1, o1, hx1, hl1, hnF, hcc⟩ := HG.out.resolve_left (fun x => by have := HL.out; rw [x] at this; simp at this; omega)
        subst hx1
        obtain ⟨x, hx⟩ : ∃ x, x = es[k] := ⟨_, rfl⟩
        have HC := Lib.hid (hcc k hkm)
        have HTK : Hid (es.take (k + 1) = es.take k ++ [es[k]]) := Lib.hid (by rw [List.take_add_one, List.getElem?_eq_getElem hkm]; rfl)
        have HR := HA.out.1 _ (List.getElem_mem hkm)
        have HEX := Lib.hid hx.symm
        rw [← hx] at HC HTK HR
        clear hcc hx
        obtain ⟨p, z⟩ := x
        obtain ⟨a, N, rfl, rfl, haN, hN1⟩ := right_nat HR
        clear HR
        have f1 := cell_later HB.out HC.out.1
        try simp only at f1
        go_upto_region 7 with fail
        clear f1
        go_loopw [6] (fun vj wr => ∃ j : Nat, j ≤ N ∧ vj = .int .i64 ((a + j : Nat) : Int) ∧ Hid (∀ i, a ≤ i → i < a + j → ∀ c, m[i]? = some c → c.1 ≠ 0 ∧ c.2 = false) ∧ Hid (Below w.heap.size w wr)) (fun vj _ => a + N - (intOf vj).toNat)
        case atStart => exact ⟨0, Nat.zero_le _, rfl, Lib.hid (fun i h1 h2 => by omega), HB⟩
        case round =>
          clear HB
          obtain ⟨j, hj, rfl, HX, HB⟩ := hrel
          obtain ⟨kk, hkk⟩ : ∃ kk, kk = a + j := ⟨_, rfl⟩
          have HKK := Lib.hid hkk
          rw [← hkk]
          clear hkk
          have f1 := cell_later HB.out HC.out.1
          have f2 := cell_later HB.out HC.out.2
          try simp only at f1 f2
          have hw : IntKind.i64.wrap ((a : Int) + N) = (a : Int) + N := by rw [IntKind.wrap_i64]; omega
          by_cases hjN : j < N
          · have hji : (kk : Int) < (a : Int) + N := by have := HKK.out; omega
            have hkn : kk < n := by have := HKK.out; omega
            have hkn' : (kk : Int) < n := by omega
            go_upto_region 7 with fail
            go_quiet (fail)
            have hbq : Below wr.heap.size wr (wr.drewN nq) := ⟨rfl, rfl, rfl, Nat.le_refl _, fun _ _ => rfl⟩
            have HB6 := Lib.hid (bt5 HB.out hbq)
            generalize wr.drewN nq = w6 at HB6 ⊢
            clear hbq f1 f2 hw HB
            have hkm2 : kk < m.length := by rw [← HN.out]; exact hkn
            obtain ⟨c, hc⟩ : ∃ c, c = m[kk] := ⟨_, rfl⟩
            have HK : Hid (m[kk]? = some c) := Lib.hid (by rw [hc]; exact List.getElem?_eq_getElem hkm2)
            have HCC := Lib.hid hc
            clear hc
            obtain ⟨s, b⟩ := c
            obtain ⟨i0, i1, i2, i3, i4, i5⟩ := (H.out.later HB6.out).facts HN.out.symm hkn HK.out
            by_cases hs : s = 0
            · subst hs
              have HF : Hid (Sp.give es m = (m, false)) := Lib.hid (by
                unfold Sp.give
                rw [if_neg]
                intro hcn
                have := hcn.2 es[k] (List.getElem_mem hkm) kk hkm2 (by rw [HEX.out]; unfold Sp.In; have := HKK.out; simp only; omega)
                rw [← HCC.out] at this
                exact this.1 rfl)
              go_wp2_with fail
              go_ret
              rw [HF.out]
              exact ⟨rfl, H.out.later HB6.out, Touch.of HB6.out⟩
            · have hsi : ¬ (s : Int) = 0 := by omega
              cases b with
              | true =>
                have HF : Hid (Sp.give es m = (m, false)) := Lib.hid (by
                  unfold Sp.give
                  rw [if_neg]
                  intro hcn
                  have := hcn.2 es[k] (List.getElem_mem hkm) kk hkm2 (by rw [HEX.out]; unfold Sp.In; have := HKK.out; simp only; omega)
                  rw [← HCC.out] at this
                  exact nomatch this.2)
                go_wp2_with fail
                go_ret
                rw [HF.out]
                exact ⟨rfl, H.out.later HB6.out, Touch.of HB6.out⟩
              | false =>
                have HX2 : Hid (∀ i, a ≤ i → i < a + (j + 1) → ∀ c, m[i]? = some c → c.1 ≠ 0 ∧ c.2 = false) := Lib.hid (fun i h1 h2 c hc => by
                  by_cases e : i = kk
                  · rw [e, HK.out] at hc; cases hc; exact ⟨hs, rfl⟩
                  · exact HX.out i h1 (by have := HKK.out; omega) c hc)
                go_wp2_with fail
                go_roundw
                case rel => exact ⟨j + 1, by omega, by rw [← Nat.add_assoc, ← HKK.out]; go_num, HX2, HB6⟩
                case measure => have := HKK.out; simp [intOf]; omega
          · have hji : ¬ (kk : Int) < (a : Int) + N := by have := HKK.out; omega
            obtain rfl : j = N := by omega
            have HI2 : Hid (AllIn m (fun c => c.1 ≠ 0 ∧ c.2 = false) (es.take (k + 1))) := Lib.hid (by rw [HTK.out]; exact HI.out.snoc HX.out)
            go_upto_region 7 with fail
            go_quiet (fail)
            have hbq : Below wr.heap.size wr (wr.drewN nq) := ⟨rfl, rfl, rfl, Nat.le_refl _, fun _ _ => rfl⟩
            have HB6 := Lib.hid (bt5 HB.out hbq)
            generalize wr.drewN nq = w6 at HB6 ⊢
            clear hbq f1 f2 hw HB
            go_wp2_with fail
            go_roundw
            case rel => exact ⟨k + 1, by omega, by go_num, HI2, HB6⟩
            case measure => simp [intOf]; omega
      · have hki : ¬ (k : Int) < L := by omega
        have HCN : Hid (Sp.give es m = (Sp.puts Sp.wait (es.map Sp.er) m, true)) := Lib.hid (by
          have h9 := HI.out
          rw [List.take_of_length_le (by rw [← HL.out]; omega)] at h9
          unfold Sp.give
          rw [if_pos ⟨by rw [← HN.out]; exact HA.out, h9⟩])
        have HRT : Hid (∀ e ∈ es, Sp.RightE n e) := Lib.hid HA.out.1
        have R3 := Lib.hid (H.out.later HB.out)
        have T3 := Lib.hid (Touch.of (F := RF q bs bw) HB.out)
        have E3 := Lib.hid (HEO.out.later HB.out)
        clear HI HB HG HEO H
        go_upto_region 12 with fail
        go_loopw [7] (fun vj wr => ∃ j : Nat, j ≤ L ∧ vj = .int .i64 j ∧ Hid (RD wr q bs bw (Sp.puts Sp.wait ((es.map Sp.er).take j) m)) ∧ Hid (Touch (RF q bs bw) w wr) ∧ Hid (EsOut (RF q bs bw) wr (.slice ao L cap) es)) (fun vj _ => L - (intOf vj).toNat)
        case atStart => exact ⟨0, Nat.zero_le _, rfl, R3, T3, E3⟩
        case round =>
          clear R3 T3 E3
          obtain ⟨j, hj, rfl, R, T, E⟩ := hrel
          by_cases hjL : j < L
          · have hji : (j : Int) < L := by omega
            have hjm : j < es.length := by rw [← HL.out]; exact hjL
            obtain ⟨ao2, cap2, hvv, _, _, hg⟩ := E.out
            injection hvv with ea el ec
            subst ea ec
            clear el
            obtain ⟨b1, o1, hx1, hl1, hnF, hcc⟩ := hg.resolve_left (fun x => by rw [x] at hjm; simp at hjm)
            subst hx1
            obtain ⟨c1, c2⟩ := hcc j hjm
            have HS : Hid (Sp.puts Sp.wait ((es.map Sp.er).take (j + 1)) m = Sp.put (Sp.er es[j]).1 (Sp.er es[j]).2 Sp.wait (Sp.puts Sp.wait ((es.map Sp.er).take j) m)) := Lib.hid (by
              have := puts_snoc Sp.wait (es.map Sp.er) m j (by rw [List.length_map]; exact hjm)
              rw [List.getElem_map] at this; exact this)
            have hr := HRT.out es[j] (List.getElem_mem hjm)
            clear hcc hg
            generalize es[j] = x at HS c1 c2 hr
            obtain ⟨p, z⟩ := x
            obtain ⟨a, N, rfl, rfl, haN, hN1⟩ := right_nat hr
            simp only at c1 c2
            obtain ⟨mk, hmk⟩ : ∃ mk, mk = Sp.puts Sp.wait ((es.map Sp.er).take j) m := ⟨_, rfl⟩
            have HML : Hid (mk.length = n) := Lib.hid (by rw [hmk, Sp.puts_length]; exact HN.out.symm)
            rw [← hmk] at R HS
            rw [show Sp.er ((a : Int), (N : Int)) = (a, N) from rfl] at HS
            have HCC := Lib.hid (And.intro c1 c2)
            clear hr hmk hjm
            go_upto_region 15 with fail
            clear c1 c2
            have R3 := Lib.hid (show RD wr q bs bw (Sp.put a 0 Sp.wait mk) from by rw [put_zero]; exact R.out)
            have T3 := T
            have E3 := E
            have HHC : Hid (∀ w', Touch (RF q bs bw) wr w' → w'.cell? ⟨b1, o1 + j * 2, none⟩ = some (.int .i64 (a : Int)) ∧ w'.cell? ⟨b1, o1 + j * 2 + 1, none⟩ = some (.int .i64 (N : Int))) := Lib.hid (fun w' ht => by
              have hb := ht.block b1 hl1 hnF
              exact ⟨(World.cell?_of_block (a := ⟨b1, o1 + j * 2, none⟩) hb).trans HCC.out.1, (World.cell?_of_block (a := ⟨b1, o1 + j * 2 + 1, none⟩) hb).trans HCC.out.2⟩)
            have U3 : Hid (Touch (RF q bs bw) wr wr) := Lib.hid (Touch.refl _ _)
            clear R T E
            obtain ⟨w0, hw0⟩ : ∃ w0, w0 = wr := ⟨_, rfl⟩
            rw [← hw0] at HHC U3
            go_loopw [8] (fun vi wq => ∃ i : Nat, i ≤ N ∧ vi = .int .i64 ((a + i : Nat) : Int) ∧ Hid (RD wq q bs bw (Sp.put a i Sp.wait mk)) ∧ Hid (Touch (RF q bs bw) w wq) ∧ Hid (EsOut (RF q bs bw) wq (.slice (some ⟨b1, o1, none⟩) L cap) es) ∧ Hid (Touch (RF q bs bw) w0 wq)) (fun vi _ => a + N - (intOf vi).toNat)
            case atStart => exact ⟨0, Nat.zero_le _, rfl, R3, T3, E3, by rw [← hw0]; exact U3⟩
            case round =>
              clear R3 T3 E3 U3 hw0
              obtain ⟨i, hi, rfl, R, T, E, U⟩ := hrel
              obtain ⟨kk, hkk⟩ : ∃ kk, kk = a + i := ⟨_, rfl⟩
              have HKK := Lib.hid hkk
              rw [← hkk]
              obtain ⟨f1, f2⟩ := HHC.out _ U.out
              have hw : IntKind.i64.wrap ((a : Int) + N) = (a : Int) + N := by rw [IntKind.wrap_i64]; omega
              by_cases hiN : i < N
              · have hii : (kk : Int) < (a : Int) + N := by have := HKK.out; omega
                have hkn : kk < n := by have := HKK.out; omega
                have hkn' : (kk : Int) < n := by omega
                have hkm2 : a + i < mk.length := by rw [HML.out]; omega
                obtain ⟨c, hc⟩ : ∃ c, c = mk[a + i] := ⟨_, rfl⟩
                have HS2 : Hid ((Sp.put a i Sp.wait mk).set kk (Sp.wait c) = Sp.put a (i + 1) Sp.wait mk) := Lib.hid (by rw [hkk, hc]; exact put_step Sp.wait a i mk hkm2)
                have HL2 : Hid ((Sp.put a i Sp.wait mk).length = n) := Lib.hid (by rw [Sp.put_length]; exact HML.out)
                have HK2 : Hid ((Sp.put a i Sp.wait mk)[kk]? = some c) := Lib.hid (by rw [hkk, Sp.put_get, if_neg (by omega), hc]; exact List.getElem?_eq_getElem hkm2)
                clear hc hkm2 hkk
                obtain ⟨s, x⟩ := c
                go_upto_region 17 with fail
                go_quiet (fail)
                have hbq : Below wr.heap.size wr (wr.drewN nq) := ⟨rfl, rfl, rfl, Nat.le_refl _, fun _ _ => rfl⟩
                have R6 := Lib.hid (R.out.later hbq)
                have T6 := Lib.hid (T.out.trans (Touch.of hbq))
                have U6 := Lib.hid (U.out.trans (Touch.of hbq))
                have E6 := Lib.hid (E.out.later hbq)
                generalize wr.drewN nq = w6 at R6 T6 U6 E6 ⊢
                clear hbq f1 f2 hw R T E U
                obtain ⟨i0, i1, i2, i3, i4, i5⟩ := R6.out.facts HL2.out hkn HK2.out
                have P1 := Lib.hid (R6.out.putW HL2.out hkn HK2.out true)
                have T7 := Lib.hid (T6.out.trans (tW (q := q) (bs := bs) (bw := bw) w6 kk (.bool true)))
                have U7 := Lib.hid (U6.out.trans (tW (q := q) (bs := bs) (bw := bw) w6 kk (.bool true)))
                have E7 := Lib.hid (E6.out.touch (tW (q := q) (bs := bs) (bw := bw) w6 kk (.bool true)) (fun _ h => .inl h))
                clear R6 T6 U6 E6
                go_wp2_with fail
                go_roundw
                case rel => exact ⟨i + 1, by omega, by rw [← Nat.add_assoc, ← HKK.out]; go_num, Lib.hid (by rw [← HS2.out]; exact P1.out.1), T7, E7, U7⟩
                case measure => have := HKK.out; simp [intOf]; omega
              · have hii : ¬ (kk : Int) < (a : Int) + N := by have := HKK.out; omega
                obtain rfl : i = N := by omega
                go_upto_region 17 with fail
                go_quiet (fail)
                have hbq : Below wr.heap.size wr (wr.drewN nq) := ⟨rfl, rfl, rfl, Nat.le_refl _, fun _ _ => rfl⟩
                have R6 := Lib.hid (show RD (wr.drewN nq) q bs bw (Sp.puts Sp.wait ((es.map Sp.er).take (j + 1)) m) from by rw [HS.out]; exact R.out.later hbq)
                have T6 := Lib.hid (T.out.trans (Touch.of hbq))
                have E6 := Lib.hid (E.out.later hbq)
                generalize wr.drewN nq = w6 at R6 T6 E6 ⊢
                clear hbq f1 f2 hw R T E U
                go_wp2_with fail
                go_roundw
                case rel => exact ⟨j + 1, by omega, by go_num, R6, T6, E6⟩
                case measure => simp [intOf]; omega
          · have hji : ¬ (j : Int) < L := by omega
            have HTT : Hid ((es.map Sp.er).take j = es.map Sp.er) := Lib.hid (List.take_of_length_le (by have := HL.out; rw [List.length_map]; omega))
            rw [HTT.out] at R
            clear E
            go_wp2_with fail
            go_ret
            rw [HCN.out]
            exact ⟨rfl, R.out, T.out⟩
  · rw [decide_eq_false hA] at cA
    have HF : Hid (Sp.give es m = (m, false)) := Lib.hid (by unfold Sp.give; rw [if_neg (fun hc => hA (by rw [HN.out]; exact hc.1))])
    clear hA
    go_enter Try.func19, Try.ntmps19
    go_wp2_with fail
    refine cA.mono ?_
    rintro e w1 ⟨rfl, hb1⟩
    have HB1 := Lib.hid hb1
    clear cA hb1
    go_wp2_with fail
    go_ret
    rw [HF.out]
    exact ⟨rfl, H.out.later HB1.out, Touch.of HB1.out⟩
end Go.Proofs.Ytgfgafondiipoaa
