/- The document's map in memory: Hold. -/
import Derived.Test.YtgfgafondiipoaaSpD8
namespace Go.Proofs.Ytgfgafondiipoaa
open Go.RowKit
theorem right_nat {n : Nat} {p z : Int} (h : Sp.RightE n (p, z)) : ∃ a N : Nat, p = a ∧ z = N ∧ a + N ≤ n ∧ 1 ≤ N := by
  obtain ⟨h1, h2, h3, h4⟩ := h
  simp only at h1 h2 h3 h4
  exact ⟨p.toNat, z.toNat, by omega, by omega, by omega, by omega⟩
/-- Of the first k extents, and of one more up to j, P holds at each sector. -/
def AllIn (m : Sp.M) (P : Sp.Cell → Prop) (es : List Sp.Ext) : Prop := ∀ e ∈ es, ∀ (i : Nat) (h : i < m.length), Sp.In e i → P m[i]
theorem AllIn.snoc {m : Sp.M} {P : Sp.Cell → Prop} {es : List Sp.Ext} {a N : Nat} (h : AllIn m P es) (h2 : ∀ i, a ≤ i → i < a + N → ∀ c, m[i]? = some c → P c) : AllIn m P (es ++ [((a : Int), (N : Int))]) := fun e he i hi hin => by
  rcases List.mem_append.1 he with he | he
  · exact h e he i hi hin
  · rw [List.mem_singleton.1 he] at hin
    unfold Sp.In at hin
    simp only at hin
    exact h2 i (by omega) (by omega) _ (List.getElem?_eq_getElem hi)
open Classical in
set_option maxHeartbeats 6400000 in
set_option maxRecDepth 100000 in
theorem rHold_w (w : World) (q bs bw : Nat) (m : Sp.M) (v : Value) (es : List Sp.Ext) (h : RD w q bs bw m) (hv : EsOut (RF q bs bw) w v es) (hi64 : ∀ e ∈ es, I64 e.1 ∧ I64 e.2) (hel : es.length ≤ 1000) :
    Calls Try.prog 17 #[.pointer (some ⟨q, 0, none⟩), v] w fun e w' => e = .returned (.bool (Sp.hold es m).2) ∧ RD w' q bs bw (Sp.hold es m).1 ∧ Touch (RF q bs bw) w w' := by
  have H := Lib.hid h
  have cA := rApart_w w q bs bw m v es h hv hi64 hel
  obtain ⟨n, hn⟩ : ∃ n, n = m.length := ⟨_, rfl⟩
  have HN := Lib.hid hn
  have hlen : n ≤ 65536 := by rw [hn]; exact h.len
  rw [← hn] at cA
  obtain ⟨ao, cap, rfl, hc1, hc2, hg⟩ := hv
  have HG := Lib.hid hg
  have HEO : Hid (EsOut (RF q bs bw) w (.slice ao es.length cap) es) := Lib.hid ⟨ao, cap, rfl, hc1, hc2, hg⟩
  obtain ⟨L, hL⟩ : ∃ L, L = es.length := ⟨_, rfl⟩
  have HL := Lib.hid hL
  rw [← hL] at hc1 hel cA HEO ⊢
  clear h hi64 hg hL hn
  by_cases hA : Sp.Apart n es
  · rw [decide_eq_true hA] at cA
    have HA := Lib.hid hA
    clear hA
    go_enter Try.func17, Try.ntmps17
    go_wp2_with fail
    refine cA.mono ?_
    rintro e w1 ⟨rfl, hb1⟩
    have HB1 := Lib.hid hb1
    clear cA hb1
    go_upto_region 4 with fail
    go_loopw [5] (fun vi wr => ∃ k : Nat, k ≤ L ∧ vi = .int .i64 k ∧ Hid (AllIn m (fun c => c.1 = 0) (es.take k)) ∧ Hid (Below w.heap.size w wr)) (fun vi _ => L - (intOf vi).toNat)
    case atStart => exact ⟨0, Nat.zero_le _, rfl, Lib.hid (fun e he => nomatch he), HB1⟩
    case round =>
      clear HB1
      obtain ⟨k, hk, rfl, HI, HB⟩ := hrel
      by_cases hlt : k < L
      · have hki : (k : Int) < L := by omega
        have hkm : k < es.length := by rw [← HL.out]; exact hlt
        obtain ⟨b1, o1, hx1, hl1, hnF, hcc⟩ := HG.out.resolve_left (fun x => by have := HL.out; rw [x] at this; simp at this; omega)
        subst hx1
        obtain ⟨x, hx⟩ : ∃ x, x = es[k] := ⟨_, rfl⟩
        have HC := Lib.hid (hcc k hkm)
        have HTK : Hid (es.take (k + 1) = es.take k ++ [es[k]]) := Lib.hid (by rw [List.take_add_one, List.getElem?_eq_getElem hkm]; rfl)
        have HR := HA.out.1 _ (List.getElem_mem hkm)
        have HEX := Lib.hid hx.symm
        rw [← hx] at HC HTK HR
        clear hcc hx
        obtain ⟨p, z⟩ := x
        obtain ⟨a, N, rfl, rfl, haN, hN1⟩ := right_nat HR
        clear HR
        have f1 := cell_later HB.out HC.out.1
        try simp only at f1
        go_upto_region 7 with fail
        clear f1
        go_loopw [6] (fun vj wr => ∃ j : Nat, j ≤ N ∧ vj = .int .i64 ((a + j : Nat) : Int) ∧ Hid (∀ i, a ≤ i → i < a + j → ∀ c, m[i]? = some c → c.1 = 0) ∧ Hid (Below w.heap.size w wr)) (fun vj _ => a + N - (intOf vj).toNat)
        case atStart => exact ⟨0, Nat.zero_le _, rfl, Lib.hid (fun i h1 h2 => by omega), HB⟩
        case round =>
          clear HB
          obtain ⟨j, hj, rfl, HX, HB⟩ := hrel
          obtain ⟨kk, hkk⟩ : ∃ kk, kk = a + j := ⟨_, rfl⟩
          have HKK := Lib.hid hkk
          rw [← hkk]
          clear hkk
          have f1 := cell_later HB.out HC.out.1
          have f2 := cell_later HB.out HC.out.2
          try simp only at f1 f2
          have hw : IntKind.i64.wrap ((a : Int) + N) = (a : Int) + N := by rw [IntKind.wrap_i64]; omega
          by_cases hjN : j < N
          · have hji : (kk : Int) < (a : Int) + N := by have := HKK.out; omega
            have hkn : kk < n := by have := HKK.out; omega
            have hkn' : (kk : Int) < n := by omega
            go_upto_region 7 with fail
            go_quiet (fail)
            have hbq : Below wr.heap.size wr (wr.drewN nq) := ⟨rfl, rfl, rfl, Nat.le_refl _, fun _ _ => rfl⟩
            have HB6 := Lib.hid (bt5 HB.out hbq)
            generalize wr.drewN nq = w6 at HB6 ⊢
            clear hbq f1 f2 hw HB
            have hkm2 : kk < m.length := by rw [← HN.out]; exact hkn
            obtain ⟨c, hc⟩ : ∃ c, c = m[kk] := ⟨_, rfl⟩
            have HK : Hid (m[kk]? = some c) := Lib.hid (by rw [hc]; exact List.getElem?_eq_getElem hkm2)
            have HCC := Lib.hid hc
            clear hc
            obtain ⟨s, b⟩ := c
            obtain ⟨i0, i1, i2, i3, i4, i5⟩ := (H.out.later HB6.out).facts HN.out.symm hkn HK.out
            by_cases hs : s = 0
            · subst hs
              have HX2 : Hid (∀ i, a ≤ i → i < a + (j + 1) → ∀ c, m[i]? = some c → c.1 = 0) := Lib.hid (fun i h1 h2 c hc => by
                by_cases e : i = kk
                · rw [e, HK.out] at hc; cases hc; rfl
                · exact HX.out i h1 (by have := HKK.out; omega) c hc)
              go_wp2_with fail
              go_roundw
              case rel => exact ⟨j + 1, by omega, by rw [← Nat.add_assoc, ← HKK.out]; go_num, HX2, HB6⟩
              case measure => have := HKK.out; simp [intOf]; omega
            · have hsi : ¬ (s : Int) = 0 := by omega
              have HF : Hid (Sp.hold es m = (m, false)) := Lib.hid (by
                unfold Sp.hold
                rw [if_neg]
                intro hcn
                have := hcn.2 es[k] (List.getElem_mem hkm) kk hkm2 (by rw [HEX.out]; unfold Sp.In; have := HKK.out; simp only; omega)
                rw [← HCC.out] at this
                exact hs this)
              go_wp2_with fail
              go_ret
              rw [HF.out]
              exact ⟨rfl, H.out.later HB6.out, Touch.of HB6.out⟩
          · have hji : ¬ (kk : Int) < (a : Int) + N := by have := HKK.out; omega
            obtain rfl : j = N := by omega
            have HI2 : Hid (AllIn m (fun c => c.1 = 0) (es.take (k + 1))) := Lib.hid (by rw [HTK.out]; exact HI.out.snoc HX.out)
            go_upto_region 7 with fail
            go_quiet (fail)
            have hbq : Below wr.heap.size wr (wr.drewN nq) := ⟨rfl, rfl, rfl, Nat.le_refl _, fun _ _ => rfl⟩
            have HB6 := Lib.hid (bt5 HB.out hbq)
            generalize wr.drewN nq = w6 at HB6 ⊢
            clear hbq f1 f2 hw HB
            go_wp2_with fail
            go_roundw
            case rel => exact ⟨k + 1, by omega, by go_num, HI2, HB6⟩
            case measure => simp [intOf]; omega
      · have hki : ¬ (k : Int) < L := by omega
        have HCN : Hid (Sp.hold es m = (Sp.puts Sp.held (es.map Sp.er) m, true)) := Lib.hid (by
          have h9 := HI.out
          rw [List.take_of_length_le (by rw [← HL.out]; omega)] at h9
          unfold Sp.hold
          rw [if_pos ⟨by rw [← HN.out]; exact HA.out, h9⟩])
        have HRT : Hid (∀ e ∈ es, Sp.RightE n e) := Lib.hid HA.out.1
        have R3 := Lib.hid (H.out.later HB.out)
        have T3 := Lib.hid (Touch.of (F := RF q bs bw) HB.out)
        have E3 := Lib.hid (HEO.out.later HB.out)
        clear HI HB HG HEO H
        go_upto_region 12 with fail
        go_loopw [7] (fun vj wr => ∃ j : Nat, j ≤ L ∧ vj = .int .i64 j ∧ Hid (RD wr q bs bw (Sp.puts Sp.held ((es.map Sp.er).take j) m)) ∧ Hid (Touch (RF q bs bw) w wr) ∧ Hid (EsOut (RF q bs bw) wr (.slice ao L cap) es)) (fun vj _ => L - (intOf vj).toNat)
        case atStart => exact ⟨0, Nat.zero_le _, rfl, R3, T3, E3⟩
        case round =>
          clear R3 T3 E3
          obtain ⟨j, hj, rfl, R, T, E⟩ := hrel
          by_cases hjL : j < L
          · have hji : (j : Int) < L := by omega
            have hjm : j < es.length := by rw [← HL.out]; exact hjL
            obtain ⟨ao2, cap2, hvv, _, _, hg⟩ := E.out
            injection hvv with ea el ec
            subst ea ec
            clear el
            obtain ⟨b1, o1, hx1, hl1, hnF, hcc⟩ := hg.resolve_left (fun x => by rw [x] at hjm; simp at hjm)
            subst hx1
            obtain ⟨c1, c2⟩ := hcc j hjm
            have HS : Hid (Sp.puts Sp.held ((es.map Sp.er).take (j + 1)) m = Sp.put (Sp.er es[j]).1 (Sp.er es[j]).2 Sp.held (Sp.puts Sp.held ((es.map Sp.er).take j) m)) := Lib.hid (by
              have := puts_snoc Sp.held (es.map Sp.er) m j (by rw [List.length_map]; exact hjm)
              rw [List.getElem_map] at this; exact this)
            have hr := HRT.out es[j] (List.getElem_mem hjm)
            clear hcc hg
            generalize es[j] = x at HS c1 c2 hr
            obtain ⟨p, z⟩ := x
            obtain ⟨a, N, rfl, rfl, haN, hN1⟩ := right_nat hr
            simp only at c1 c2
            have c9 := rSet_w wr q bs bw _ a N 1 1 rfl R.out (by rw [Sp.puts_length, ← HN.out]; exact haN)
            unfold ext at c9
            clear hr hjm
            go_wp2_with fail
            refine c9.mono ?_
            rintro e w9 ⟨rfl, hR9, hT9⟩
            have R9 : Hid (RD w9 q bs bw (Sp.puts Sp.held ((es.map Sp.er).take (j + 1)) m)) := Lib.hid (by rw [HS.out]; exact hR9)
            have E9 := Lib.hid (E.out.touch hT9 (fun _ h => .inl h))
            have T9 := Lib.hid (T.out.trans hT9)
            clear c9 hR9 hT9 c1 c2
            go_wp2_with fail
            go_roundw
            case rel => exact ⟨j + 1, by omega, by go_num, R9, T9, E9⟩
            case measure => simp [intOf]; omega
          · have hji : ¬ (j : Int) < L := by omega
            have HTT : Hid ((es.map Sp.er).take j = es.map Sp.er) := Lib.hid (List.take_of_length_le (by have := HL.out; rw [List.length_map]; omega))
            rw [HTT.out] at R
            clear E
            go_wp2_with fail
            go_ret
            rw [HCN.out]
            exact ⟨rfl, R.out, T.out⟩
  · rw [decide_eq_false hA] at cA
    have HF : Hid (Sp.hold es m = (m, false)) := Lib.hid (by unfold Sp.hold; rw [if_neg (fun hc => hA (by rw [HN.out]; exact hc.1))])
    clear hA
    go_enter Try.func17, Try.ntmps17
    go_wp2_with fail
    refine cA.mono ?_
    rintro e w1 ⟨rfl, hb1⟩
    have HB1 := Lib.hid hb1
    clear cA hb1
    go_wp2_with fail
    go_ret
    rw [HF.out]
    exact ⟨rfl, H.out.later HB1.out, Touch.of HB1.out⟩
end Go.Proofs.Ytgfgafondiipoaa
