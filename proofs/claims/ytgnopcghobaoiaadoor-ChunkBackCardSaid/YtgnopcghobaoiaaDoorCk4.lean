/- The document's own answer for package chunk: what is told of octets so far. -/
import Derived.Test.YtgnopcghobaoiaaDoorCk3
namespace Go.Proofs.YtgnopcghobaoiaaDoor
open Go.RowKit

theorem results_tmp4 {fn : Func} {t u v x : Tmp} (h : fn.results = #[.tmp t, .tmp u, .tmp v, .tmp x]) (tmps : Array Value) (P : Program) (w : World) :
    (results fn tmps).run P w = .ok (.tuple #[tmps.getD t undef, tmps.getD u undef, tmps.getD v undef, tmps.getD x undef]) w := by
  simp [results, h]
/-- Four things are handed back. -/
theorem ret_four {fn : Func} {t u v x : Tmp} (h : fn.results = #[.tmp t, .tmp u, .tmp v, .tmp x]) {R : Ending → World → Prop} {a : Act} {w : World} (hd : a.defers = [])
    (hR : R (.returned (.tuple #[a.tmps.getD t undef, a.tmps.getD u undef, a.tmps.getD v undef, a.tmps.getD x undef])) w) : bodyPost Tryd.prog fn R .ret a w :=
  bodyPost_ret (results_tmp4 h _ _ _) hd hR
theorem bin_nil (w : World) : BIn w (.slice none 0 0) [] ∧ NilOk (.slice none 0 0) :=
  ⟨⟨none, 0, rfl, Nat.le_refl _, by decide, .inl rfl⟩, fun c h => by injection h with _ _ h; exact h.symm⟩
theorem own_in {w : World} {B : Nat} {v : Value} {l : List UInt8} (h : w.ownsRow B 5 1 v l.length (Lib.byteCells l)) : BIn w v l ∧ NilOk v := by
  rcases h.2 with ⟨hv, h0⟩ | ⟨g, cap, cur, hv', hg, hh, h1, h2, h3, h4⟩
  · have : l = [] := by
      cases l with
      | nil => rfl
      | cons c t => simp at h0
    subst this hv
    exact bin_nil w
  · refine ⟨⟨_, cap, hv', h1, by unfold maxLen at h2; omega, .inr ⟨g, 0, rfl, lt_of_block hh, fun j hj => ?_⟩⟩, by rw [hv']; exact nil_ok g _ _⟩
    have h5 : cur.toList[j]? = some (.int .u8 (l[j].toNat : Int)) := by
      have h6 : (cur.toList.take (l.length * 1))[j]? = (Lib.byteCells l)[j]? := by rw [h4]
      rw [List.getElem?_take_of_lt (by omega)] at h6
      rw [h6]; simp [Lib.byteCells, hj]
    rw [Nat.zero_add]
    simp only [World.cell?, hh]
    simpa using h5
theorem Buf.in_ {W w : World} {v : Value} {l : List UInt8} (h : Buf W w v l) : BIn w v l ∧ NilOk v := own_in h.1
/-- It reads as it did where what lies behind W does. -/
theorem Buf.kept {W w w' : World} {v : Value} {l : List UInt8} (h : Buf W w v l) (hs : ∀ k, k < w.heap.size → W.heap.size ≤ k → w'.heap[k]? = w.heap[k]?) : BIn w' v l ∧ NilOk v := by
  refine own_in (B := W.heap.size) ⟨h.1.1, ?_⟩
  rcases h.1.2 with h0 | ⟨g, cap, cur, hv, hg, hh, rest⟩
  · exact .inl h0
  · exact .inr ⟨g, cap, cur, hv, hg, by rw [hs g (lt_of_block hh) hg]; exact hh, rest⟩
theorem lres_more {A : Nat} {x : List UInt8 × Int × Int} {e : Int} (h : x.2.2 = e) (he : e ≠ 0) : lres A x = .tuple #[.string (str x.1), .int .i64 0, .int .i64 e] := by
  unfold lres; rw [h, if_neg he]
theorem lres_ok {A : Nat} {x : List UInt8 × Int × Int} (h : x.2.2 = 0) {n : Nat} (hn : x.2.1.toNat = n) (h2 : 2 ≤ n) : lres A x = .tuple #[.string (str x.1), .int .i64 ((A + n : Nat) : Int), .int .i64 0] := by
  unfold lres
  rw [h, if_pos rfl]
  have : (A : Int) + x.2.1 = ((A + n : Nat) : Int) := by omega
  rw [this]

set_option maxHeartbeats 6400000 in
set_option maxRecDepth 100000 in
theorem rTold_w (v : Value) (l : List UInt8) (w : World) (hl : l.length ≤ 100000) (h : BIn w v l) :
    Calls Tryd.prog 10 #[v] w fun e w' => (∃ u, e = .returned (.tuple #[u, .int .i64 (Ck.told l).2.1, .bool (Ck.told l).2.2.1, .int .i64 (Ck.told l).2.2.2]) ∧ Buf w w' u (Ck.told l).1) ∧ Below w.heap.size w w' := by
  have HBI := Lib.hid h
  obtain ⟨ao, cap, rfl, hlc, hc9, hg⟩ := h
  obtain ⟨L, hL⟩ : ∃ L, L = l.length := ⟨_, rfl⟩
  have HL := Lib.hid hL
  have HG := Lib.hid hg
  have cL := fun (A : Nat) (hA : A ≤ L) (W : World) (hb : Below w.heap.size w W) => rline_w _ l A W (by omega) (by rw [← HL.out]; exact hA) (HBI.out.later hb)
  rw [← hL] at hl hlc cL ⊢
  have HCL := Lib.hid cL
  clear hL hg cL
  go_enter Tryd.func10, Tryd.ntmps10
  go_upto_block 0 with fail
  go_cut [6, 7, 8, 9, 10, 11, 12] from 20 to 92 (fun x6 x7 _ _ _ _ _ wx => ∃ (A : Nat) (acc : List UInt8), x7 = .int .i64 A ∧ Ck.At l A acc (.trail 0) ∧ Buf w wx x6 acc)
  case first =>
    go_wp2_with fail
    go_loopw [6, 7, 8, 9, 10, 11, 12] (fun x6 x7 x8 _ _ _ _ wr => ∃ (A : Nat) (acc : List UInt8) (t : Nat), x7 = .int .i64 A ∧ x8 = .int .i64 t ∧ t ≤ 1048576 ∧ Ck.At l A acc (.size t) ∧ Buf w wr x6 acc) (fun _ x7 _ _ _ _ _ _ => L - (intOf x7).toNat)
    case atStart => exact ⟨0, [], 0, rfl, rfl, by decide, Ck.At.start l, Buf.nil w⟩
    case round =>
      obtain ⟨A, acc, t, rfl, rfl, ht, hAt, hB⟩ := hrel
      have hA : A ≤ L := by rw [HL.out]; exact hAt.le
      have cA := HCL.out A hA wr hB.2
      have HB9 := Lib.hid hB
      have HAt := Lib.hid hAt
      clear hAt hB
      by_cases e11 : (Ck.lineAt (l.drop A)).2.2 = 11
      · have HT : Hid (Ck.told l = (acc, A, false, 0)) := Lib.hid (HAt.out.more (Ck.size_more e11))
        rw [lres_more e11 (by decide)] at cA
        clear e11
        go_wp2_with fail
        refine cA.mono ?_
        rintro e W1 ⟨rfl, rfl⟩
        go_wp2_with fail
        (try simp only [Exit.inBlock, Exit.then])
        refine ret_four rfl rfl ?_
        rw [HT.out]
        exact ⟨⟨_, rfl, HB9.out⟩, HB9.out.2⟩
      · by_cases e0 : (Ck.lineAt (l.drop A)).2.2 = 0
        · obtain ⟨n, hn⟩ : ∃ n, (Ck.lineAt (l.drop A)).2.1.toNat = n := ⟨_, rfl⟩
          have hlen := Ck.lineAt_len e0
          rw [hn, List.length_drop, ← HL.out] at hlen
          rw [lres_ok e0 hn (by omega)] at cA
          have HS1 := Lib.hid (fun h => Ck.size_form (t := t) e0 h)
          have HS2 := Lib.hid (fun h => Ck.size_last (t := t) e0 h)
          have HS3 := Lib.hid (fun h => Ck.size_long (t := t) e0 h)
          have HS4 := Lib.hid (fun h => Ck.size_next (t := t) e0 h)
          rw [hn] at HS2 HS4
          have cS := fun (W : World) => rsize_s (str (Ck.lineAt (l.drop A)).1) W (by rw [str_size]; omega)
          rw [str_list] at cS
          have hn2 : 2 ≤ n := hlen.1
          have hnL : A + n ≤ L := by omega
          clear e11 e0 hn hlen
          generalize Ck.sizeOf (Ck.lineAt (l.drop A)).1 = z at *
          generalize str (Ck.lineAt (l.drop A)).1 = X at *
          go_wp2_with fail
          refine cA.mono ?_
          rintro e W1 ⟨rfl, rfl⟩
          go_wp2_with fail
          refine (cS _).mono ?_
          rintro e W1 ⟨rfl, rfl⟩
          clear cA cS
          by_cases z0 : z < 0
          · have HT : Hid (Ck.told l = ([], 0, false, 10)) := Lib.hid (HAt.out.err (by decide) (HS1.out z0))
            clear HS1 HS2 HS3 HS4
            go_wp2_with fail
            (try simp only [Exit.inBlock, Exit.then])
            refine ret_four rfl rfl ?_
            rw [HT.out]
            exact ⟨⟨_, rfl, Buf.nil_of HB9.out.2⟩, HB9.out.2⟩
          · by_cases z1 : z = 0
            · have HN : Hid (Ck.At l (A + n) acc (.trail 0)) := Lib.hid (by have := HAt.out.next (HS2.out z1); rwa [List.append_nil] at this)
              subst z1
              clear HS1 HS2 HS3 HS4
              go_wp2_with fail
              go_meet
              case rel => exact ⟨A + n, acc, rfl, HN.out, HB9.out⟩
            · have bz1 : (z == 0) = false := beq_eq_false_iff_ne.2 z1
              by_cases z2 : z > 1048576 - (t : Int)
              · have HT : Hid (Ck.told l = ([], 0, false, 12)) := Lib.hid (HAt.out.err (by decide) (HS3.out (by omega) z2))
                have z3 : 1048576 - (t : Int) < z := z2
                clear HS1 HS2 HS3 HS4
                go_wp2_with fail
                (try simp only [Exit.inBlock, Exit.then])
                refine ret_four rfl rfl ?_
                rw [HT.out]
                exact ⟨⟨_, rfl, Buf.nil_of HB9.out.2⟩, HB9.out.2⟩
              · obtain ⟨N, hN⟩ : ∃ N : Nat, z.toNat = N := ⟨_, rfl⟩
                have HN : Hid (Ck.At l (A + n) acc (Ck.sD (t + N) N)) := Lib.hid (by
                  have := HAt.out.next (HS4.out (by omega) (by omega))
                  rw [List.append_nil, hN] at this
                  unfold Ck.sD; rw [if_neg (by omega)]; exact this)
                have z3 : ¬ 1048576 - (t : Int) < z := z2
                have htN : t + N ≤ 1048576 := by omega
                obtain rfl : z = N := by omega
                clear HS1 HS2 HS3 HS4 z2 bz1 hN
                go_wp2_with fail
                rename_i q1 q2 q3 q4 q5
                clear q1 q2 q3 z0 z1 z3
                go_loopw [6, 7, 12] (fun x6 x7 x12 wr => ∃ (A2 : Nat) (acc2 : List UInt8) (M : Nat), x7 = .int .i64 A2 ∧ x12 = .int .i64 M ∧ M ≤ N ∧ A + n ≤ A2 ∧ Ck.At l A2 acc2 (Ck.sD (t + N) M) ∧ Buf w wr x6 acc2) (fun _ x7 _ _ => L - (intOf x7).toNat)
                case atStart => exact ⟨A + n, acc, N, rfl, rfl, Nat.le_refl _, Nat.le_refl _, HN.out, HB9.out⟩
                case round =>
                  clear HB9 HAt HN
                  obtain ⟨A2, acc2, M, rfl, rfl, hMN, hAA, hAt, hB⟩ := hrel
                  have hA2 : A2 ≤ L := by rw [HL.out]; exact hAt.le
                  have hacc : acc2.length ≤ 100000000 := by have := hAt.had; omega
                  have HB9 := Lib.hid hB
                  have HAt := Lib.hid hAt
                  clear hAt
                  by_cases hM : M = 0
                  · subst hM
                    by_cases h2 : A2 + 2 ≤ L
                    · have h2i : ¬ (L : Int) < (A2 : Int) + 2 := by omega
                      obtain ⟨b, o, hao, hbl, hcell⟩ := HG.out.resolve_left (fun x => by have := HL.out; rw [x] at this; simp at this; omega)
                      subst hao
                      have k0 : A2 < l.length := by rw [← HL.out]; omega
                      have k1 : A2 + 1 < l.length := by rw [← HL.out]; omega
                      have c0 := (hB.2.cell (p := ⟨b, o + A2, none⟩) hbl).trans (hcell A2 k0)
                      have c1 := (hB.2.cell (p := ⟨b, o + (A2 + 1), none⟩) hbl).trans (hcell (A2 + 1) k1)
                      have HT1 := Lib.hid (fun h1 h2 => Ck.tail_next (t := t + N) k1 h1 h2)
                      have HT2 := Lib.hid (fun h => Ck.tail_form (t := t + N) k1 h)
                      clear hcell hB
                      have i0 : (A2 : Int) < L := by omega
                      have i1 : (A2 : Int) + 1 < L := by omega
                      generalize l[A2] = x0 at *
                      generalize l[A2 + 1] = x1 at *
                      by_cases h13 : x0 = 13
                      · by_cases h10 : x1 = 10
                        · subst h13 h10
                          have HN : Hid (Ck.At l (A2 + 2) acc2 (.size (t + N))) := Lib.hid (by have := HAt.out.next (HT1.out rfl rfl); rwa [List.append_nil] at this)
                          have c0' : wr.cell? ⟨b, o + A2, none⟩ = some (.int .u8 13) := c0
                          have c1' : wr.cell? ⟨b, o + (A2 + 1), none⟩ = some (.int .u8 10) := c1
                          clear c0 c1 HT1 HT2
                          go_wp2_with fail
                          go_round
                          case rel => exact ⟨A2 + 2, acc2, t + N, by go_num, by go_num, htN, HN.out, HB9.out⟩
                          case measure => simp [intOf]; omega
                        · have HT : Hid (Ck.told l = ([], 0, false, 10)) := Lib.hid (HAt.out.err (by decide) (HT2.out (.inr h10)))
                          subst h13
                          have c0' : wr.cell? ⟨b, o + A2, none⟩ = some (.int .u8 13) := c0
                          obtain ⟨b1, b2, b3⟩ := ne_oct x1 10 10 rfl h10
                          clear c0 HT1 HT2 h10
                          go_wp2_with fail
                          (try simp only [Exit.inBlock, Exit.then])
                          refine ret_four rfl rfl ?_
                          rw [HT.out]
                          exact ⟨⟨_, rfl, Buf.nil_of HB9.out.2⟩, HB9.out.2⟩
                      · have HT : Hid (Ck.told l = ([], 0, false, 10)) := Lib.hid (HAt.out.err (by decide) (HT2.out (.inl h13)))
                        obtain ⟨b1, b2, b3⟩ := ne_oct x0 13 13 rfl h13
                        clear HT1 HT2 h13
                        go_wp2_with fail
                        (try simp only [Exit.inBlock, Exit.then])
                        refine ret_four rfl rfl ?_
                        rw [HT.out]
                        exact ⟨⟨_, rfl, Buf.nil_of HB9.out.2⟩, HB9.out.2⟩
                    · have h2i : (L : Int) < (A2 : Int) + 2 := by omega
                      have HT : Hid (Ck.told l = (acc2, A2, false, 0)) := Lib.hid (by
                        have := HAt.out.more (Ck.tail_more (by rw [← HL.out]; omega))
                        rwa [Ck.isOver_sD] at this)
                      go_wp2_with fail
                      (try simp only [Exit.inBlock, Exit.then])
                      refine ret_four rfl rfl ?_
                      rw [HT.out]
                      exact ⟨⟨_, rfl, HB9.out⟩, HB9.out.2⟩
                  · have hMi : (0 : Int) < M := by omega
                    by_cases h2 : A2 < L
                    · have i0 : (A2 : Int) < L := by omega
                      obtain ⟨b, o, hao, hbl, hcell⟩ := HG.out.resolve_left (fun x => by have := HL.out; rw [x] at this; simp at this; omega)
                      subst hao
                      have k0 : A2 < l.length := by rw [← HL.out]; omega
                      have c0 := (hB.2.cell (p := ⟨b, o + A2, none⟩) hbl).trans (hcell A2 k0)
                      have HN := Lib.hid (HAt.out.next (Ck.data_next (t := t + N) k0 (by omega : 0 < M)))
                      clear hcell
                      generalize l[A2] = x0 at *
                      go_wp2_with (at_builtin; refine app1 hB x0 hacc rfl (.tmp 56) (.tmp 61) rfl _ rfl rfl rfl ?_; intro v' w' hB')
                      go_round
                      case rel => exact ⟨A2 + 1, acc2 ++ [x0], M - 1, by go_num, by first | (congr 1; omega) | (simp; omega), by omega, by omega, HN.out, hB'⟩
                      case measure => simp [intOf]; omega
                    · have i0 : ¬ (A2 : Int) < L := by omega
                      have HT : Hid (Ck.told l = (acc2, A2, false, 0)) := Lib.hid (by
                        have hAL : A2 = l.length := by rw [← HL.out]; omega
                        have := HAt.out.more (by rw [hAL]; exact Ck.data_more)
                        rwa [Ck.isOver_sD] at this)
                      go_wp2_with fail
                      (try simp only [Exit.inBlock, Exit.then])
                      refine ret_four rfl rfl ?_
                      rw [HT.out]
                      exact ⟨⟨_, rfl, HB9.out⟩, HB9.out.2⟩
        · have HT : Hid (Ck.told l = ([], 0, false, (Ck.lineAt (l.drop A)).2.2)) := Lib.hid (HAt.out.err e0 (Ck.size_err e11 e0))
          rw [lres_more rfl e0] at cA
          generalize (Ck.lineAt (l.drop A)).2.2 = er at *
          have b11 : (er == 11) = false := beq_eq_false_iff_ne.2 e11
          have b0 : (er != 0) = true := by rw [bne, beq_eq_false_iff_ne.2 e0]; rfl
          go_wp2_with fail
          refine cA.mono ?_
          rintro e W1 ⟨rfl, rfl⟩
          go_wp2_with fail
          (try simp only [Exit.inBlock, Exit.then])
          refine ret_four rfl rfl ?_
          rw [HT.out]
          exact ⟨⟨_, rfl, Buf.nil_of HB9.out.2⟩, HB9.out.2⟩
  case rest =>
    obtain ⟨A, acc, rfl, hAt, hB⟩ := hcut

    go_wp2_with fail
    go_loopw [7, 13, 14, 15, 16, 17, 18, 19] (fun x7 x13 _ _ _ _ _ _ wr => ∃ (A : Nat) (k : Nat), x7 = .int .i64 A ∧ x13 = .int .i64 k ∧ k ≤ 128 ∧ Ck.At l A acc (.trail k) ∧ Buf w wr u6 acc) (fun x7 _ _ _ _ _ _ _ _ => L - (intOf x7).toNat)
    case atStart => exact ⟨A, 0, rfl, rfl, by decide, hAt, hB⟩
    case round =>
      clear hAt hB
      obtain ⟨A, k, rfl, rfl, hk, hAt, hB⟩ := hrel
      have hA : A ≤ L := by rw [HL.out]; exact hAt.le
      have cA := HCL.out A hA wr hB.2
      have HB9 := Lib.hid hB
      have HAt := Lib.hid hAt
      clear hAt hB
      by_cases e11 : (Ck.lineAt (l.drop A)).2.2 = 11
      · have HT : Hid (Ck.told l = (acc, A, false, 0)) := Lib.hid (HAt.out.more (Ck.trail_more e11))
        rw [lres_more e11 (by decide)] at cA
        clear e11
        go_wp2_with fail
        refine cA.mono ?_
        rintro e W1 ⟨rfl, rfl⟩
        go_wp2_with fail
        (try simp only [Exit.inBlock, Exit.then])
        refine ret_four rfl rfl ?_
        rw [HT.out]
        exact ⟨⟨_, rfl, HB9.out⟩, HB9.out.2⟩
      · by_cases e0 : (Ck.lineAt (l.drop A)).2.2 = 0
        · obtain ⟨n, hn⟩ : ∃ n, (Ck.lineAt (l.drop A)).2.1.toNat = n := ⟨_, rfl⟩
          have hlen := Ck.lineAt_len e0
          rw [hn, List.length_drop, ← HL.out] at hlen
          rw [lres_ok e0 hn (by omega)] at cA
          have HS1 := Lib.hid (fun h => Ck.trail_over (k := k) e0 h)
          have HS2 := Lib.hid (fun h h2 => Ck.trail_form (k := k) e0 h h2)
          have HS3 := Lib.hid (fun h h2 h3 => Ck.trail_many (k := k) e0 h h2 h3)
          have HS4 := Lib.hid (fun h h2 h3 => Ck.trail_next (k := k) e0 h h2 h3)
          rw [hn] at HS1 HS4
          clear e11 e0 hn
          generalize (Ck.lineAt (l.drop A)).1 = s at *
          by_cases hs : s = []
          · have HT : Hid (Ck.told l = (acc, A + n, true, 0)) := Lib.hid (by
              have := HAt.out.next (HS1.out hs)
              rw [List.append_nil] at this
              exact this.more rfl)
            subst hs
            have cA' : Calls Tryd.prog 15 #[.slice ao L cap, .int .i64 A] wr fun e w' => e = .returned (.tuple #[.string ⟨#[]⟩, .int .i64 ((A + n : Nat) : Int), .int .i64 0]) ∧ wr = w' := cA
            clear HS1 HS2 HS3 HS4 cA
            go_wp2_with fail
            refine cA'.mono ?_
            rintro e W1 ⟨rfl, rfl⟩
            go_wp2_with fail
            (try simp only [Exit.inBlock, Exit.then])
            refine ret_four rfl rfl ?_
            rw [HT.out]
            exact ⟨⟨_, rfl, HB9.out⟩, HB9.out.2⟩
          · obtain ⟨X, hX⟩ : ∃ X, X = str s := ⟨_, rfl⟩
            rw [← hX] at cA
            have hne : ¬ X = ⟨#[]⟩ := fun e => hs (by have := congrArg (fun x : ByteArray => x.data.toList) (hX.symm.trans e); simpa [str_list] using this)
            obtain ⟨n1, n2, n3⟩ := nonempty hne
            have hXz : X.size ≤ 254 := by rw [hX, str_size]; omega
            obtain ⟨Y, hY⟩ : ∃ Y : ByteArray, X ++ ⟨#[13, 10, 13, 10]⟩ = Y := ⟨_, rfl⟩
            have hYz : Y.size ≤ 258 := by rw [← hY, ByteArray.size_append]; show _ + 4 ≤ _; omega
            have hYl : Y.data.toList = s ++ [13, 10, 13, 10] := by rw [← hY, app_two, hX, str_list]
            obtain ⟨cc, W2, hcv, hbin, hb2⟩ := octets_text Y wr (by omega)
            rw [hYl] at hbin
            have cP := rParse_w _ _ W2 (by rw [← hYl]; have := Oct.length_size Y; omega) hbin
            have hB2 := HB9.out.after hb2
            obtain ⟨f, hf⟩ : ∃ f, (Fld.parse (s ++ [13, 10, 13, 10])).2.2 = f := ⟨_, rfl⟩
            have hbad : Ck.fieldBad s = decide (f ≠ 0) := by unfold Ck.fieldBad; rw [hf]
            rw [hf] at cP
            generalize (Fld.parse (s ++ [13, 10, 13, 10])).2.1 = fn at *
            generalize (Fld.parse (s ++ [13, 10, 13, 10])).1 = fs at *
            rw [hbad] at HS2 HS3 HS4
            have HY := Lib.hid hYz
            have xs1 : ¬ 9223372036854775807 < X.size + 4 := by omega
            have xs2 : X.size + 4 ≤ 9223372036854775807 := by omega
            clear hX hne hYl hbin hf hbad HS1 hb2
            go_wp2_with fail
            refine cA.mono ?_
            rintro e W1 ⟨rfl, rfl⟩
            go_wp2_with fail
            refine cP.mono ?_
            rintro e W3 ⟨vf, rfl, hF⟩
            have HB9 := Lib.hid (hB2.after hF.2)
            clear cP cA hcv hB2 hF
            by_cases f0 : f = 0
            · subst f0
              by_cases h128 : 128 ≤ k
              · have HT : Hid (Ck.told l = ([], 0, false, 13)) := Lib.hid (HAt.out.err (by decide) (HS3.out hs rfl h128))
                have hki : (128 : Int) ≤ k := by omega
                clear HS2 HS3 HS4
                go_wp2_with fail
                (try simp only [Exit.inBlock, Exit.then])
                refine ret_four rfl rfl ?_
                rw [HT.out]
                exact ⟨⟨_, rfl, Buf.nil_of HB9.out.2⟩, HB9.out.2⟩
              · have HN : Hid (Ck.At l (A + n) acc (.trail (k + 1))) := Lib.hid (by have := HAt.out.next (HS4.out hs rfl h128); rwa [List.append_nil] at this)
                have hki : ¬ (128 : Int) ≤ k := by omega
                clear HS2 HS3 HS4
                go_wp2_with fail
                go_round
                case rel => exact ⟨A + n, k + 1, rfl, by go_num, by omega, HN.out, HB9.out⟩
                case measure => simp [intOf]; omega
            · have HT : Hid (Ck.told l = ([], 0, false, 10)) := Lib.hid (HAt.out.err (by decide) (HS2.out hs (by simpa using f0)))
              have bf : (f != 0) = true := by rw [bne, beq_eq_false_iff_ne.2 f0]; rfl
              clear HS2 HS3 HS4
              go_wp2_with fail
              (try simp only [Exit.inBlock, Exit.then])
              refine ret_four rfl rfl ?_
              rw [HT.out]
              exact ⟨⟨_, rfl, Buf.nil_of HB9.out.2⟩, HB9.out.2⟩
        · have HT : Hid (Ck.told l = ([], 0, false, (Ck.lineAt (l.drop A)).2.2)) := Lib.hid (HAt.out.err e0 (Ck.trail_err e11 e0))
          rw [lres_more rfl e0] at cA
          generalize (Ck.lineAt (l.drop A)).2.2 = er at *
          have b11 : (er == 11) = false := beq_eq_false_iff_ne.2 e11
          have b0 : (er != 0) = true := by rw [bne, beq_eq_false_iff_ne.2 e0]; rfl
          go_wp2_with fail
          refine cA.mono ?_
          rintro e W1 ⟨rfl, rfl⟩
          go_wp2_with fail
          (try simp only [Exit.inBlock, Exit.then])
          refine ret_four rfl rfl ?_
          rw [HT.out]
          exact ⟨⟨_, rfl, Buf.nil_of HB9.out.2⟩, HB9.out.2⟩
end Go.Proofs.YtgnopcghobaoiaaDoor
