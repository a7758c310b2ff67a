/- The program's map in memory: turn. -/
import Derived.Test.YtgfgafondiipoaaSvD
import Derived.Test.YtgfgafondiipoaaSpD9
namespace Go.Proofs.Ytgfgafondiipoaa
open Go.RowKit

theorem er_nat (a N : Nat) : Sp.er ((a : Int), (N : Int)) = (a, N) := rfl
theorem puts_wait_fst : ∀ (es : List Sp.Run) (m : Sp.M) (i : Nat), ((Sp.puts Sp.wait es m)[i]?).map (·.1) = (m[i]?).map (·.1)
  | [], _, _ => rfl
  | e :: t, m, i => by
    show ((Sp.puts Sp.wait t (Sp.put e.1 e.2 Sp.wait m))[i]?).map (·.1) = _
    rw [puts_wait_fst t, Sp.put_get]
    split
    · cases m[i]? <;> rfl
    · rfl
theorem put3_at {w : World} {q b : Nat} {m : Sp.M} {n a i s : Nat} {x : Bool} (h : PD w q b m) (hn : m.length = n) (hk : a + i < n) (he : m[a + i]? = some (s, x)) :
    w.cell? ⟨b, a * 3 + i * 3, none⟩ = some (.bool (decide (s ≠ 0))) ∧ w.cell? ⟨b, a * 3 + i * 3 + 1, none⟩ = some (.bool (decide (s = 2))) ∧ w.cell? ⟨b, a * 3 + i * 3 + 2, none⟩ = some (.bool x) := by
  have := (h.facts hn hk he).2
  rw [show (a + i) * 3 = a * 3 + i * 3 from by omega] at this
  exact this
theorem PD.put4 {w : World} {q b : Nat} {m : Sp.M} (h : PD w q b m) (a i : Nat) (x : Sp.Cell) (hx : x.1 ≤ 2 ∧ (x.1 = 0 → x.2 = false)) {u0 u1 u2 : Bool} (hs : sc x = [.bool u0, .bool u1, .bool u2]) :
    PD (((w.setCell ⟨b, a * 3 + i * 3, none⟩ (.bool u0)).setCell ⟨b, a * 3 + i * 3 + 1, none⟩ (.bool u1)).setCell ⟨b, a * 3 + i * 3 + 2, none⟩ (.bool u2)) q b (m.set (a + i) x) ∧ Touch (PF q b) w (((w.setCell ⟨b, a * 3 + i * 3, none⟩ (.bool u0)).setCell ⟨b, a * 3 + i * 3 + 1, none⟩ (.bool u1)).setCell ⟨b, a * 3 + i * 3 + 2, none⟩ (.bool u2)) := by
  have := h.put3 (a + i) x hx hs
  rw [show (a + i) * 3 = a * 3 + i * 3 from by omega] at this
  exact this
set_option maxHeartbeats 6400000 in
set_option maxRecDepth 100000 in
theorem turnI_w (w : World) (q b : Nat) (m : Sp.M) (v : Value) (es : List Sp.Ext) (h : PD w q b m) (hv : EsOut (PF q b) w v es) (hR : ∀ e ∈ es, Sp.RightE m.length e) (g0 : Nat) (X : Sp.Cell) (y0 y1 y2 : Bool) (hX : sc X = [.bool y0, .bool y1, .bool y2]) (hXi : X.1 ≤ 2 ∧ (X.1 = 0 → X.2 = false)) (hg0 : w.heap[g0]? = some (.cells #[.bool y0, .bool y1, .bool y2] 62 (0, 0))) (hgF : ¬ PF q b g0) :
    Calls Try.prog 32 #[.pointer (some ⟨q, 0, none⟩), .func (.func 44) #[] #[.pointer (some ⟨g0, 0, none⟩)], v] w fun e w' => e = .returned (.tuple #[]) ∧ PD w' q b (Sp.puts (fun _ => X) (es.map Sp.er) m) ∧ Touch (PF q b) w w' := by
  have R3 := Lib.hid h
  obtain ⟨n, hn⟩ : ∃ n, n = m.length := ⟨_, rfl⟩
  have HN := Lib.hid hn
  have hlen : n ≤ 65536 := by rw [hn]; exact h.len
  rw [← hn] at hR
  have HRT := Lib.hid hR
  obtain ⟨ao, cap, rfl, hc1, hc2, hg⟩ := hv
  have E3 : Hid (EsOut (PF q b) w (.slice ao es.length cap) es) := Lib.hid ⟨ao, cap, rfl, hc1, hc2, hg⟩
  have T3 : Hid (Touch (PF q b) w w) := Lib.hid (Touch.refl _ _)
  obtain ⟨L, hL⟩ : ∃ L, L = es.length := ⟨_, rfl⟩
  have HL := Lib.hid hL
  rw [← hL] at hc1 E3 ⊢
  have HX := Lib.hid (And.intro hX hXi)
  have HG0 := Lib.hid (And.intro hg0 hgF)
  clear hX hXi hg0 hgF
  clear h hg hL hn hR
  go_enter Try.func32, Try.ntmps32
  go_wp2_with fail
  go_loopw [13] (fun vj wr => ∃ k : Nat, k ≤ L ∧ vj = .int .i64 k ∧ Hid (PD wr q b (Sp.puts (fun _ => X) ((es.map Sp.er).take k) m)) ∧ Hid (Touch (PF q b) w wr) ∧ Hid (EsOut (PF q b) wr (.slice ao L cap) es)) (fun vj _ => L - (intOf vj).toNat)
  case atStart => exact ⟨0, Nat.zero_le _, rfl, R3, T3, E3⟩
  case round =>
    clear R3 T3 E3
    obtain ⟨k, hk, rfl, R, T, E⟩ := hrel
    by_cases hlt : k < L
    · have hki : (k : Int) < L := by omega
      have hkm : k < es.length := by rw [← HL.out]; exact hlt
      obtain ⟨ao2, cap2, hvv, _, _, hg⟩ := E.out
      injection hvv with ea el ec
      subst ea ec
      clear el
      obtain ⟨b1, o1, hx1, hl1, hnF, hcc⟩ := hg.resolve_left (fun x => by rw [x] at hkm; simp at hkm)
      subst hx1
      obtain ⟨c1, c2⟩ := hcc k hkm
      have HS : Hid (Sp.puts (fun _ => X) ((es.map Sp.er).take (k + 1)) m = Sp.put (Sp.er es[k]).1 (Sp.er es[k]).2 (fun _ => X) (Sp.puts (fun _ => X) ((es.map Sp.er).take k) m)) := Lib.hid (by
        have := puts_snoc (fun _ => X) (es.map Sp.er) m k (by rw [List.length_map]; exact hkm)
        rw [List.getElem_map] at this; exact this)
      have hr := HRT.out es[k] (List.getElem_mem hkm)
      obtain ⟨X9, hX9⟩ : ∃ X9, X9 = es[k] := ⟨_, rfl⟩
      have HEX := Lib.hid hX9.symm
      rw [← hX9] at HS c1 c2 hr
      clear hcc hg hX9
      obtain ⟨p, z⟩ := X9
      obtain ⟨a, N, rfl, rfl, haN, hN1⟩ := right_nat hr
      simp only at c1 c2
      rw [er_nat] at HS
      obtain ⟨mk, hmk⟩ : ∃ mk, mk = Sp.puts (fun _ => X) ((es.map Sp.er).take k) m := ⟨_, rfl⟩
      have HMK := Lib.hid hmk
      have HML : Hid (mk.length = n) := Lib.hid (by rw [hmk, Sp.puts_length]; exact HN.out.symm)
      rw [← hmk] at R HS
      clear hr hmk
      have hb1 : Below wr.heap.size wr (wr.alloc (.cells #[.int .i64 (a : Int), .int .i64 (N : Int)] 35)) := (Below.refl _ wr).alloc (Nat.le_refl _) _
      have R4 := Lib.hid (R.out.later hb1)
      have T4 := Lib.hid (T.out.trans (Touch.of hb1))
      have E4 := Lib.hid (E.out.later hb1)
      have B4 := Lib.hid (Bx.made (F := PF q b) wr (a : Int) (N : Int) R.out.lt)
      clear hb1 R T E
      obtain ⟨gb, hgb⟩ : ∃ gb, gb = wr.heap.size := ⟨_, rfl⟩
      go_upto_region 3 with fail
      rw [← hgb] at B4 ⊢
      clear hgb c1 c2
      generalize wr.alloc _ = w4 at R4 T4 E4 B4 ⊢
      have c9 := of_w w4 q b mk a N R4.out (by rw [HML.out]; exact haN) hN1
      rw [HML.out] at c9
      have g1 := B4.out.c0
      have g2 := B4.out.c1
      unfold ext at c9
      go_wp2_with fail
      refine c9.mono ?_
      rintro e w6 ⟨rfl, hb6⟩
      have R6 := Lib.hid (show PD w6 q b (Sp.put a 0 (fun _ => X) mk) from by rw [put_zero]; exact R4.out.later hb6)
      have T6 := Lib.hid (T4.out.trans (Touch.of hb6))
      have E6 := Lib.hid (E4.out.later hb6)
      clear c9 g1 g2 hb6 R4 T4 E4 B4
      go_upto_region 5 with fail
      go_loopw [22] (fun vi wr => ∃ j : Nat, j ≤ N ∧ vi = .int .i64 j ∧ Hid (PD wr q b (Sp.put a j (fun _ => X) mk)) ∧ Hid (Touch (PF q b) w wr) ∧ Hid (EsOut (PF q b) wr (.slice (some ⟨b1, o1, none⟩) L cap) es)) (fun vi _ => N - (intOf vi).toNat)
      case atStart => exact ⟨0, Nat.zero_le _, rfl, R6, T6, E6⟩
      case round =>
        clear R6 T6 E6
        obtain ⟨j, hj, rfl, R, T, E⟩ := hrel
        by_cases hjN : j < N
        · have hji : (j : Int) < N := by omega
          have hkk : a + j < mk.length := by rw [HML.out]; omega
          obtain ⟨c, hc⟩ : ∃ c, c = mk[a + j] := ⟨_, rfl⟩
          have HS2 : Hid ((Sp.put a j (fun _ => X) mk).set (a + j) ((fun _ => X) c) = Sp.put a (j + 1) (fun _ => X) mk) := Lib.hid (by rw [hc]; exact put_step (fun _ => X) a j mk hkk)
          have HK' : Hid (mk[a + j]? = some c) := Lib.hid (by rw [hc]; exact List.getElem?_eq_getElem hkk)
          have HL2 : Hid ((Sp.put a j (fun _ => X) mk).length = n) := Lib.hid (by rw [Sp.put_length]; exact HML.out)
          have HK2 : Hid ((Sp.put a j (fun _ => X) mk)[a + j]? = some c) := Lib.hid (by rw [Sp.put_get, if_neg (by omega)]; exact HK'.out)
          have HK : Hid ((Sp.puts (fun _ => X) ((es.map Sp.er).take k) m)[a + j]? = some c) := Lib.hid (by rw [← HMK.out]; exact HK'.out)
          clear hc hkk
          obtain ⟨s, x⟩ := c
          obtain ⟨f1, f2, f3⟩ := put3_at R.out HL2.out (by omega) HK2.out
          obtain ⟨d0, hd0⟩ : ∃ d, d = decide (s ≠ 0) := ⟨_, rfl⟩
          obtain ⟨d1, hd1⟩ : ∃ d, d = decide (s = 2) := ⟨_, rfl⟩
          rw [← hd0] at f1
          rw [← hd1] at f2
          have HD0 := Lib.hid hd0
          have HD1 := Lib.hid hd1
          clear hd0 hd1
          have hb1 : Below wr.heap.size wr (wr.alloc (.cells #[.bool d0, .bool d1, .bool x] 62)) := (Below.refl _ wr).alloc (Nat.le_refl _) _
          have HP := Lib.hid (R.out.later hb1)
          have HT := Lib.hid (T.out.trans (Touch.of hb1))
          have HE := Lib.hid (E.out.later hb1)
          have HG := Lib.hid (heap_alloc_new wr (.cells #[.bool d0, .bool d1, .bool x] 62))
          clear hb1 R T E
          obtain ⟨g, hg⟩ : ∃ g, g = wr.heap.size := ⟨_, rfl⟩
          go_upto_region 7 with fail
          rw [← hg] at HG ⊢
          clear hg f1 f2 f3
          generalize wr.alloc _ = w5 at HP HT HE HG ⊢
          have yy0 := (blk_cell HG.out 0 _ rfl).1
          have yy1 := (blk_cell HG.out 1 _ rfl).1
          have yy2 := (blk_cell HG.out 2 _ rfl).1
          have c9 := box_c g0 y0 y1 y2 d0 d1 x w5 (by rw [HT.out.block g0 (lt_of_block HG0.out.1) HG0.out.2]; exact HG0.out.1)
          go_wp2_with fail
          refine c9.mono ?_
          rintro e w8 ⟨rfl, hb8⟩
          have P8 := Lib.hid (HP.out.later hb8)
          have T8 := Lib.hid (HT.out.trans (Touch.of hb8))
          have E8 := Lib.hid (HE.out.later hb8)
          clear c9 yy0 yy1 yy2 hb8 HP HT HE HG
          obtain ⟨f1, f2, f3⟩ := put3_at P8.out HL2.out (by omega) HK2.out
          have z1 := P8.out.fz (a * 3 + j * 3)
          have z2 := P8.out.fz (a * 3 + j * 3 + 1)
          have z3 := P8.out.fz (a * 3 + j * 3 + 2)
          have P9 := Lib.hid (P8.out.put4 a j X HX.out.2 HX.out.1)
          have T9 := Lib.hid (T8.out.trans P9.out.2)
          have E9 := Lib.hid (E8.out.touch P9.out.2 (fun _ h => .inl h))
          clear P8 T8 E8
          go_wp2_with fail
          go_roundw
          case rel => exact ⟨j + 1, by omega, by go_num, Lib.hid (by rw [← HS2.out]; exact P9.out.1), T9, E9⟩
          case measure => simp [intOf]; omega
        · have hji : ¬ (j : Int) < N := by omega
          obtain rfl : j = N := by omega
          go_wp2_with fail
          go_roundw
          case rel => exact ⟨k + 1, by omega, by go_num, Lib.hid (by rw [HS.out]; exact R.out), T, E⟩
          case measure => simp [intOf]; omega
    · have hki : ¬ (k : Int) < L := by omega
      have HTT : Hid ((es.map Sp.er).take k = es.map Sp.er) := Lib.hid (List.take_of_length_le (by have := HL.out; rw [List.length_map]; omega))
      rw [HTT.out] at R
      clear E
      go_wp2_with fail
      go_end0
      exact ⟨rfl, R.out, T.out⟩
set_option maxHeartbeats 6400000 in
set_option maxRecDepth 100000 in
theorem turnW_w (w : World) (q b : Nat) (m : Sp.M) (v : Value) (es : List Sp.Ext) (h : PD w q b m) (hv : EsOut (PF q b) w v es) (hR : ∀ e ∈ es, Sp.RightE m.length e) (hI : AllIn m (fun c => c.1 ≠ 0) es) :
    Calls Try.prog 32 #[.pointer (some ⟨q, 0, none⟩), .func (.func 38) #[] #[], v] w fun e w' => e = .returned (.tuple #[]) ∧ PD w' q b (Sp.puts Sp.wait (es.map Sp.er) m) ∧ Touch (PF q b) w w' := by
  have R3 := Lib.hid h
  obtain ⟨n, hn⟩ : ∃ n, n = m.length := ⟨_, rfl⟩
  have HN := Lib.hid hn
  have hlen : n ≤ 65536 := by rw [hn]; exact h.len
  rw [← hn] at hR
  have HRT := Lib.hid hR
  obtain ⟨ao, cap, rfl, hc1, hc2, hg⟩ := hv
  have E3 : Hid (EsOut (PF q b) w (.slice ao es.length cap) es) := Lib.hid ⟨ao, cap, rfl, hc1, hc2, hg⟩
  have T3 : Hid (Touch (PF q b) w w) := Lib.hid (Touch.refl _ _)
  obtain ⟨L, hL⟩ : ∃ L, L = es.length := ⟨_, rfl⟩
  have HL := Lib.hid hL
  rw [← hL] at hc1 E3 ⊢
  have HI := Lib.hid hI
  clear hI
  clear h hg hL hn hR
  go_enter Try.func32, Try.ntmps32
  go_wp2_with fail
  go_loopw [13] (fun vj wr => ∃ k : Nat, k ≤ L ∧ vj = .int .i64 k ∧ Hid (PD wr q b (Sp.puts Sp.wait ((es.map Sp.er).take k) m)) ∧ Hid (Touch (PF q b) w wr) ∧ Hid (EsOut (PF q b) wr (.slice ao L cap) es)) (fun vj _ => L - (intOf vj).toNat)
  case atStart => exact ⟨0, Nat.zero_le _, rfl, R3, T3, E3⟩
  case round =>
    clear R3 T3 E3
    obtain ⟨k, hk, rfl, R, T, E⟩ := hrel
    by_cases hlt : k < L
    · have hki : (k : Int) < L := by omega
      have hkm : k < es.length := by rw [← HL.out]; exact hlt
      obtain ⟨ao2, cap2, hvv, _, _, hg⟩ := E.out
      injection hvv with ea el ec
      subst ea ec
      clear el
      obtain ⟨b1, o1, hx1, hl1, hnF, hcc⟩ := hg.resolve_left (fun x => by rw [x] at hkm; simp at hkm)
      subst hx1
      obtain ⟨c1, c2⟩ := hcc k hkm
      have HS : Hid (Sp.puts Sp.wait ((es.map Sp.er).take (k + 1)) m = Sp.put (Sp.er es[k]).1 (Sp.er es[k]).2 Sp.wait (Sp.puts Sp.wait ((es.map Sp.er).take k) m)) := Lib.hid (by
        have := puts_snoc Sp.wait (es.map Sp.er) m k (by rw [List.length_map]; exact hkm)
        rw [List.getElem_map] at this; exact this)
      have hr := HRT.out es[k] (List.getElem_mem hkm)
      obtain ⟨X9, hX9⟩ : ∃ X9, X9 = es[k] := ⟨_, rfl⟩
      have HEX := Lib.hid hX9.symm
      rw [← hX9] at HS c1 c2 hr
      clear hcc hg hX9
      obtain ⟨p, z⟩ := X9
      obtain ⟨a, N, rfl, rfl, haN, hN1⟩ := right_nat hr
      simp only at c1 c2
      rw [er_nat] at HS
      obtain ⟨mk, hmk⟩ : ∃ mk, mk = Sp.puts Sp.wait ((es.map Sp.er).take k) m := ⟨_, rfl⟩
      have HMK := Lib.hid hmk
      have HML : Hid (mk.length = n) := Lib.hid (by rw [hmk, Sp.puts_length]; exact HN.out.symm)
      rw [← hmk] at R HS
      clear hr hmk
      have hb1 : Below wr.heap.size wr (wr.alloc (.cells #[.int .i64 (a : Int), .int .i64 (N : Int)] 35)) := (Below.refl _ wr).alloc (Nat.le_refl _) _
      have R4 := Lib.hid (R.out.later hb1)
      have T4 := Lib.hid (T.out.trans (Touch.of hb1))
      have E4 := Lib.hid (E.out.later hb1)
      have B4 := Lib.hid (Bx.made (F := PF q b) wr (a : Int) (N : Int) R.out.lt)
      clear hb1 R T E
      obtain ⟨gb, hgb⟩ : ∃ gb, gb = wr.heap.size := ⟨_, rfl⟩
      go_upto_region 3 with fail
      rw [← hgb] at B4 ⊢
      clear hgb c1 c2
      generalize wr.alloc _ = w4 at R4 T4 E4 B4 ⊢
      have c9 := of_w w4 q b mk a N R4.out (by rw [HML.out]; exact haN) hN1
      rw [HML.out] at c9
      have g1 := B4.out.c0
      have g2 := B4.out.c1
      unfold ext at c9
      go_wp2_with fail
      refine c9.mono ?_
      rintro e w6 ⟨rfl, hb6⟩
      have R6 := Lib.hid (show PD w6 q b (Sp.put a 0 Sp.wait mk) from by rw [put_zero]; exact R4.out.later hb6)
      have T6 := Lib.hid (T4.out.trans (Touch.of hb6))
      have E6 := Lib.hid (E4.out.later hb6)
      clear c9 g1 g2 hb6 R4 T4 E4 B4
      go_upto_region 5 with fail
      go_loopw [22] (fun vi wr => ∃ j : Nat, j ≤ N ∧ vi = .int .i64 j ∧ Hid (PD wr q b (Sp.put a j Sp.wait mk)) ∧ Hid (Touch (PF q b) w wr) ∧ Hid (EsOut (PF q b) wr (.slice (some ⟨b1, o1, none⟩) L cap) es)) (fun vi _ => N - (intOf vi).toNat)
      case atStart => exact ⟨0, Nat.zero_le _, rfl, R6, T6, E6⟩
      case round =>
        clear R6 T6 E6
        obtain ⟨j, hj, rfl, R, T, E⟩ := hrel
        by_cases hjN : j < N
        · have hji : (j : Int) < N := by omega
          have hkk : a + j < mk.length := by rw [HML.out]; omega
          obtain ⟨c, hc⟩ : ∃ c, c = mk[a + j] := ⟨_, rfl⟩
          have HS2 : Hid ((Sp.put a j Sp.wait mk).set (a + j) (Sp.wait c) = Sp.put a (j + 1) Sp.wait mk) := Lib.hid (by rw [hc]; exact put_step Sp.wait a j mk hkk)
          have HK' : Hid (mk[a + j]? = some c) := Lib.hid (by rw [hc]; exact List.getElem?_eq_getElem hkk)
          have HL2 : Hid ((Sp.put a j Sp.wait mk).length = n) := Lib.hid (by rw [Sp.put_length]; exact HML.out)
          have HK2 : Hid ((Sp.put a j Sp.wait mk)[a + j]? = some c) := Lib.hid (by rw [Sp.put_get, if_neg (by omega)]; exact HK'.out)
          have HK : Hid ((Sp.puts Sp.wait ((es.map Sp.er).take k) m)[a + j]? = some c) := Lib.hid (by rw [← HMK.out]; exact HK'.out)
          clear hc hkk
          obtain ⟨s, x⟩ := c
          obtain ⟨f1, f2, f3⟩ := put3_at R.out HL2.out (by omega) HK2.out
          obtain ⟨d0, hd0⟩ : ∃ d, d = decide (s ≠ 0) := ⟨_, rfl⟩
          obtain ⟨d1, hd1⟩ : ∃ d, d = decide (s = 2) := ⟨_, rfl⟩
          rw [← hd0] at f1
          rw [← hd1] at f2
          have HD0 := Lib.hid hd0
          have HD1 := Lib.hid hd1
          clear hd0 hd1
          have hb1 : Below wr.heap.size wr (wr.alloc (.cells #[.bool d0, .bool d1, .bool x] 62)) := (Below.refl _ wr).alloc (Nat.le_refl _) _
          have HXI : Hid ((s, true).1 ≤ 2 ∧ ((s, true).1 = 0 → (s, true).2 = false)) := Lib.hid (by
            have h1 := (R.out.inv _ (List.mem_of_getElem? HK2.out)).1
            refine ⟨h1, fun h0 => ?_⟩
            exfalso
            have h3 := puts_wait_fst ((es.map Sp.er).take k) m (a + j)
            rw [HK.out] at h3
            have h4 : a + j < m.length := by rw [← HN.out]; omega
            rw [List.getElem?_eq_getElem h4] at h3
            have h5 : s = m[a + j].1 := by simpa using h3
            exact HI.out _ (List.getElem_mem hkm) (a + j) h4 (by rw [HEX.out]; unfold Sp.In; simp only; omega) (by rw [← h5]; exact h0))
          have HXS : Hid (sc (s, true) = [.bool d0, .bool d1, .bool true]) := Lib.hid (by rw [HD0.out, HD1.out]; rfl)
          have HP := Lib.hid (R.out.later hb1)
          have HT := Lib.hid (T.out.trans (Touch.of hb1))
          have HE := Lib.hid (E.out.later hb1)
          have HG := Lib.hid (heap_alloc_new wr (.cells #[.bool d0, .bool d1, .bool x] 62))
          clear hb1 R T E
          obtain ⟨g, hg⟩ : ∃ g, g = wr.heap.size := ⟨_, rfl⟩
          go_upto_region 7 with fail
          rw [← hg] at HG ⊢
          clear hg f1 f2 f3
          generalize wr.alloc _ = w5 at HP HT HE HG ⊢
          have y0 := (blk_cell HG.out 0 _ rfl).1
          have y1 := (blk_cell HG.out 1 _ rfl).1
          have y2 := (blk_cell HG.out 2 _ rfl).1
          have c9 := wait_c d0 d1 x w5
          go_wp2_with fail
          refine c9.mono ?_
          rintro e w8 ⟨rfl, hb8⟩
          have P8 := Lib.hid (HP.out.later hb8)
          have T8 := Lib.hid (HT.out.trans (Touch.of hb8))
          have E8 := Lib.hid (HE.out.later hb8)
          clear c9 y0 y1 y2 hb8 HP HT HE HG
          obtain ⟨f1, f2, f3⟩ := put3_at P8.out HL2.out (by omega) HK2.out
          have z1 := P8.out.fz (a * 3 + j * 3)
          have z2 := P8.out.fz (a * 3 + j * 3 + 1)
          have z3 := P8.out.fz (a * 3 + j * 3 + 2)
          have P9 := Lib.hid (P8.out.put4 a j (s, true) HXI.out HXS.out)
          have T9 := Lib.hid (T8.out.trans P9.out.2)
          have E9 := Lib.hid (E8.out.touch P9.out.2 (fun _ h => .inl h))
          clear P8 T8 E8
          go_wp2_with fail
          go_roundw
          case rel => exact ⟨j + 1, by omega, by go_num, Lib.hid (by rw [← HS2.out]; exact P9.out.1), T9, E9⟩
          case measure => simp [intOf]; omega
        · have hji : ¬ (j : Int) < N := by omega
          obtain rfl : j = N := by omega
          go_wp2_with fail
          go_roundw
          case rel => exact ⟨k + 1, by omega, by go_num, Lib.hid (by rw [HS.out]; exact R.out), T, E⟩
          case measure => simp [intOf]; omega
    · have hki : ¬ (k : Int) < L := by omega
      have HTT : Hid ((es.map Sp.er).take k = es.map Sp.er) := Lib.hid (List.take_of_length_le (by have := HL.out; rw [List.length_map]; omega))
      rw [HTT.out] at R
      clear E
      go_wp2_with fail
      go_end0
      exact ⟨rfl, R.out, T.out⟩
end Go.Proofs.Ytgfgafondiipoaa
