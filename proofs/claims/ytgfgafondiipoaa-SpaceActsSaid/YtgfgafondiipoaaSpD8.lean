/- The document's map in memory: apart, walked. -/
import Derived.Test.YtgfgafondiipoaaSpD7
import Derived.BigQuiet
namespace Go.Proofs.Ytgfgafondiipoaa
open Go.RowKit
open Classical in
set_option maxHeartbeats 6400000 in
set_option maxRecDepth 100000 in
theorem rApart_w {F : Nat → Prop} (w : World) (q bs bw : Nat) (m : Sp.M) (v : Value) (es : List Sp.Ext) (h : RD w q bs bw m) (hv : EsOut F w v es) (hi64 : ∀ e ∈ es, I64 e.1 ∧ I64 e.2) (hel : es.length ≤ 1000) :
    Calls Try.prog 36 #[.pointer (some ⟨q, 0, none⟩), v] w fun e w' => e = .returned (.bool (decide (Sp.Apart m.length es))) ∧ Below w.heap.size w w' := by
  have H := Lib.hid h
  have HI := Lib.hid hi64
  obtain ⟨n, hn⟩ : ∃ n, n = m.length := ⟨_, rfl⟩
  have HN := Lib.hid hn
  have hlen : n ≤ 65536 := by rw [hn]; exact h.len
  have HR := Lib.hid (show ∀ wr, Below w.heap.size w wr → wr.cell? ⟨q, 0, none⟩ = some (.slice (some ⟨bs, 0, none⟩) n n) from fun wr hb => by rw [hn]; exact (h.later hb).c0)
  have c0 := HR.out w (Below.refl _ _)
  rw [← hn]
  obtain ⟨ao, cap, rfl, hc1, hc2, hg⟩ := hv
  have HG := Lib.hid hg
  obtain ⟨L, hL⟩ : ∃ L, L = es.length := ⟨_, rfl⟩
  have HL := Lib.hid hL
  rw [← hL] at hc1 hel ⊢
  have hm2 : ∀ W : World, (Instr.makeSlice 54 (.int .i64 (n : Int)) (.int .i64 (n : Int))).run Try.prog W = .ok (.slice (some ⟨W.heap.size, 0, none⟩) n n) (W.alloc (.cells (madeCells #[.bool false] n) 4)) := fun W => run_make_row' (P := Try.prog) 54 4 (.bool false) 1 Try.underlying54 bools_info rfl .i64 .i64 n (by omega) (by omega) W
  have HS0 : Hid (Seen (w.alloc (.cells (madeCells #[.bool false] n) 4)) w.heap.size (List.replicate n false)) := Lib.hid (by unfold Seen; rw [made_one, List.map_replicate]; exact heap_alloc_new w _)
  have HB0 : Hid (Below w.heap.size w (w.alloc (.cells (madeCells #[.bool false] n) 4))) := Lib.hid ((Below.refl _ w).alloc (Nat.le_refl _) _)
  clear h hi64 hg hL hn
  go_enter Try.func36, Try.ntmps36
  go_upto_region 2 with fail
  obtain ⟨sb, hsb⟩ : ∃ sb, sb = w.heap.size := ⟨_, rfl⟩
  have HSB : Hid (w.heap.size ≤ sb) := Lib.hid (by omega)
  rw [← hsb] at HS0 ⊢
  clear hsb hm2 c0
  generalize w.alloc _ = w1 at HS0 HB0 ⊢
  go_upto_region 3 with fail
  go_loopw [6] (fun vi wr => ∃ (k : Nat) (sn : List Bool) (b : Nat), k ≤ L ∧ vi = .int .i64 k ∧ Hid (Sp.Apart n (es.take k)) ∧ Hid (Mk n sn (es.take k) b 0) ∧ Hid (Seen wr sb sn) ∧ Hid (Below w.heap.size w wr)) (fun vi _ => L - (intOf vi).toNat)
  case atStart => exact ⟨0, _, 0, Nat.zero_le _, rfl, Lib.hid ⟨fun _ h => (nomatch h), List.Pairwise.nil⟩, Lib.hid (Mk.start n), HS0, HB0⟩
  case round =>
    clear HS0 HB0
    obtain ⟨k, sn, b, hk, rfl, HA, HM, HS, HB⟩ := hrel
    by_cases hlt : k < L
    · have hki : (k : Int) < L := by omega
      have hkm : k < es.length := by rw [← HL.out]; exact hlt
      obtain ⟨b1, o1, hx1, hl1, hnF, hcc⟩ := HG.out.resolve_left (fun x => by have := HL.out; rw [x] at this; simp at this; omega)
      subst hx1
      have f1 := cell_later HB.out (hcc k hkm).1
      have f2 := cell_later HB.out (hcc k hkm).2
      have hi := HI.out es[k] (List.getElem_mem hkm)
      have HTK : Hid (es.take (k + 1) = es.take k ++ [es[k]]) := Lib.hid (by rw [List.take_add_one, List.getElem?_eq_getElem hkm]; rfl)
      obtain ⟨x, hx⟩ : ∃ x, x = es[k] := ⟨_, rfl⟩
      have HEX := Lib.hid hx.symm
      rw [← hx] at f1 f2 hi HTK
      clear hcc hx
      obtain ⟨p, z⟩ := x
      obtain ⟨⟨hp1, hp2⟩, ⟨hz1, hz2⟩⟩ := hi
      simp only at f1 f2 hp1 hp2 hz1 hz2
      have hb5 : Below wr.heap.size wr (wr.alloc (.cells #[.int .i64 p, .int .i64 z] 35)) := (Below.refl _ wr).alloc (Nat.le_refl _) _
      have HB5 := Lib.hid (bt5 HB.out hb5)
      have HS5 := Lib.hid (HS.out.keep (hb5.block sb (lt_of_block HS.out)))
      have B5 := Lib.hid (Bx.made (F := fun k => k = sb) wr p z (fun k hk => by rw [hk]; exact lt_of_block HS.out))
      have g1 := B5.out.c0
      have g2 := B5.out.c1
      go_upto_region 6 with fail
      obtain ⟨ga, hga⟩ : ∃ ga, ga = wr.heap.size := ⟨_, rfl⟩
      rw [← hga] at B5 g1 g2 ⊢
      clear hga hb5 HS HB f1 f2
      generalize wr.alloc _ = w5 at HB5 HS5 B5 g1 g2 ⊢
      have c0 := HR.out w5 HB5.out
      by_cases q1 : p < 0
      · have HW := Lib.hid (decide_eq_false (apart_wrong (n := n) hkm (by rw [HEX.out]; unfold Sp.RightE; simp only; omega)))
        go_upto_region 6 with fail
        go_quiet (fail)
        have hbq : Below w5.heap.size w5 (w5.drewN nq) := ⟨rfl, rfl, rfl, Nat.le_refl _, fun _ _ => rfl⟩
        have HB6 := Lib.hid (bt5 HB5.out hbq)
        generalize w5.drewN nq = w6 at HB6 ⊢
        clear hbq g1 g2 c0
        go_wp2_with fail
        go_ret
        rw [HW.out]
        exact ⟨rfl, HB6.out⟩
      · by_cases q2 : z < 1
        · have HW := Lib.hid (decide_eq_false (apart_wrong (n := n) hkm (by rw [HEX.out]; unfold Sp.RightE; simp only; omega)))
          go_upto_region 6 with fail
          go_quiet (fail)
          have hbq : Below w5.heap.size w5 (w5.drewN nq) := ⟨rfl, rfl, rfl, Nat.le_refl _, fun _ _ => rfl⟩
          have HB6 := Lib.hid (bt5 HB5.out hbq)
          generalize w5.drewN nq = w6 at HB6 ⊢
          clear hbq g1 g2 c0
          go_wp2_with fail
          go_ret
          rw [HW.out]
          exact ⟨rfl, HB6.out⟩
        · by_cases q3 : (n : Int) ≤ p
          · have HW := Lib.hid (decide_eq_false (apart_wrong (n := n) hkm (by rw [HEX.out]; unfold Sp.RightE; simp only; omega)))
            go_upto_region 6 with fail
            go_quiet (fail)
            have hbq : Below w5.heap.size w5 (w5.drewN nq) := ⟨rfl, rfl, rfl, Nat.le_refl _, fun _ _ => rfl⟩
            have HB6 := Lib.hid (bt5 HB5.out hbq)
            generalize w5.drewN nq = w6 at HB6 ⊢
            clear hbq g1 g2 c0
            go_wp2_with fail
            go_ret
            rw [HW.out]
            exact ⟨rfl, HB6.out⟩
          · have hw : IntKind.i64.wrap ((n : Int) - p) = (n : Int) - p := by rw [IntKind.wrap_i64]; omega
            by_cases q4 : (n : Int) - p < z
            · have HW := Lib.hid (decide_eq_false (apart_wrong (n := n) hkm (by rw [HEX.out]; unfold Sp.RightE; simp only; omega)))
              go_upto_region 6 with fail
              go_quiet (fail)
              have hbq : Below w5.heap.size w5 (w5.drewN nq) := ⟨rfl, rfl, rfl, Nat.le_refl _, fun _ _ => rfl⟩
              have HB6 := Lib.hid (bt5 HB5.out hbq)
              generalize w5.drewN nq = w6 at HB6 ⊢
              clear hbq g1 g2 c0
              go_wp2_with fail
              go_ret
              rw [HW.out]
              exact ⟨rfl, HB6.out⟩
            · obtain ⟨a, rfl⟩ : ∃ a : Nat, p = (a : Int) := ⟨p.toNat, by omega⟩
              obtain ⟨N, rfl⟩ : ∃ N : Nat, z = (N : Int) := ⟨z.toNat, by omega⟩
              have HRT : Hid (Sp.RightE n ((a : Int), (N : Int))) := Lib.hid (by unfold Sp.RightE; simp only; omega)
              have haN : a + N ≤ n := by omega
              go_upto_region 6 with fail
              go_quiet (fail)
              have hbq : Below w5.heap.size w5 (w5.drewN nq) := ⟨rfl, rfl, rfl, Nat.le_refl _, fun _ _ => rfl⟩
              have HB6 := Lib.hid (bt5 HB5.out hbq)
              have HS6 := Lib.hid (HS5.out.keep (hbq.block sb (lt_of_block HS5.out)))
              have B6 := Lib.hid (B5.out.later hbq)
              generalize w5.drewN nq = w6 at HB6 HS6 B6 ⊢
              clear hbq g1 g2 c0 HB5 HS5 B5 hw q1 q2 q3 q4
              have g1 := B6.out.c0
              have g2 := B6.out.c1
              go_upto_region 9 with fail
              clear g1 g2
              go_loopw [8] (fun vj wr => ∃ (j : Nat) (sn' : List Bool), j ≤ N ∧ vj = .int .i64 ((a + j : Nat) : Int) ∧ Hid (Mk n sn' (es.take k) a j) ∧ Hid (∀ i, a ≤ i → i < a + j → ¬ ∃ f ∈ es.take k, Sp.In f i) ∧ Hid (Seen wr sb sn') ∧ Hid (Below w.heap.size w wr) ∧ Hid (Bx (fun k => k = sb) wr ga (a : Int) (N : Int))) (fun vj _ => a + N - (intOf vj).toNat)
              case atStart => exact ⟨0, sn, Nat.zero_le _, rfl, Lib.hid (HM.out.open_ a), Lib.hid (fun i h1 h2 => by omega), HS6, HB6, B6⟩
              case round =>
                clear HS6 HB6 B6
                obtain ⟨j, sn', hj, rfl, HMj, HX, HS, HB, B⟩ := hrel
                have g1 := B.out.c0
                have g2 := B.out.c1
                obtain ⟨kk, hkk⟩ : ∃ kk, kk = a + j := ⟨_, rfl⟩
                have HKK := Lib.hid hkk
                by_cases hjN : j < N
                · have hji : (kk : Int) < (a : Int) + N := by omega
                  have hkn : kk < n := by omega
                  have hkn' : (kk : Int) < n := by omega
                  have hks : kk < sn'.length := by rw [HMj.out.1]; exact hkn
                  rw [← hkk]
                  obtain ⟨t1, t2⟩ := HS.out.cell kk hks
                  have HMK := Lib.hid (HMj.out.2 kk hks)
                  clear hkk
                  generalize sn'[kk] = bb at t1 HMK
                  cases bb with
                  | true =>
                    have HW := Lib.hid (decide_eq_false (apart_meet (n := n) hkm (i := kk) (by rw [HEX.out]; unfold Sp.In; have := HKK.out; simp only; omega) ((HMK.out.1 rfl).resolve_right (fun h => by have := HKK.out; omega))))
                    clear hks
                    go_wp2_with fail
                    go_ret
                    rw [HW.out]
                    exact ⟨rfl, HB.out⟩
                  | false =>
                    have HNX : Hid (¬ ∃ f ∈ es.take k, Sp.In f kk) := Lib.hid (fun h => by have := HMK.out.2 (.inl h); cases this)
                    have HM2 : Hid (Mk n (sn'.set kk true) (es.take k) a (j + 1)) := Lib.hid (by rw [HKK.out]; exact HMj.out.set (by have := HKK.out; omega))
                    have HS2 := Lib.hid (HS.out.set kk true)
                    have HB2 := Lib.hid (set_below (k := kk) (v := .bool true) HB.out HSB.out)
                    have B2 := Lib.hid (B.out.touch (Touch.cell (F := fun k => k = sb) rfl kk (.bool true)) (fun _ h => .inl h))
                    have HX2 : Hid (∀ i, a ≤ i → i < a + (j + 1) → ¬ ∃ f ∈ es.take k, Sp.In f i) := Lib.hid (fun i h1 h2 => by
                      by_cases e : i = kk
                      · rw [e]; exact HNX.out
                      · exact HX.out i h1 (by have := HKK.out; omega))
                    clear hks HMj HX HNX HMK
                    go_wp2_with fail
                    go_roundw
                    case rel => exact ⟨j + 1, _, by omega, by rw [← Nat.add_assoc, ← HKK.out]; go_num, HM2, HX2, HS2, HB2, B2⟩
                    case measure => have := HKK.out; simp [intOf]; omega
                · have hji : ¬ (kk : Int) < (a : Int) + N := by omega
                  obtain rfl : j = N := by omega
                  rw [← hkk]
                  clear hkk
                  have HA2 : Hid (Sp.Apart n (es.take (k + 1))) := Lib.hid (by
                    rw [HTK.out]
                    exact apart_snoc HA.out HRT.out (fun i hi => HX.out i (by unfold Sp.In at hi; simp only at hi; omega) (by unfold Sp.In at hi; simp only at hi; omega)))
                  have HM2 : Hid (Mk n sn' (es.take (k + 1)) 0 0) := Lib.hid (by rw [HTK.out]; exact HMj.out.close 0)
                  clear HX HMj
                  go_wp2_with fail
                  go_roundw
                  case rel => exact ⟨k + 1, _, 0, by omega, by go_num, HA2, HM2, HS, HB⟩
                  case measure => simp [intOf]; omega
    · have hki : ¬ (k : Int) < L := by omega
      have HE : Hid (decide (Sp.Apart n es) = true) := Lib.hid (decide_eq_true (by have := HA.out; rw [List.take_of_length_le (by rw [← HL.out]; omega)] at this; exact this))
      go_wp2_with fail
      go_ret
      rw [HE.out]
      exact ⟨rfl, HB.out⟩
end Go.Proofs.Ytgfgafondiipoaa
