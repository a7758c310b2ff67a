/- What lies below, out of the texts of the layers under this one: StP6. -/
import Derived.Test.YtlbjjeonchcgbaaGreatDoorStPa
namespace Go.Proofs.YtlbjjeonchcgbaaGreatDoor
open Go.RowKit

set_option maxHeartbeats 6400000 in
set_option maxRecDepth 100000 in
theorem first_q (v : Value) (l : List UInt8) (w : World) (hl : l.length ≤ 500000) (h : BIn w v l) (hm : MaxOk w) :
    Calls Tryz.prog 107 #[v, .int .i64 8201, .func (.func 109) #[] #[]] w fun e w' => e = .returned (sres (St.request l)) ∧ Below w.heap.size w w' := by
  have HV := Lib.hid h
  have HM := Lib.hid (fun (W : World) (hb : Below w.heap.size w W) => hm.later hb)
  obtain ⟨ao, cap, rfl, hlc, hc9, hg⟩ := h
  have h0 := SAt.start w (.string ⟨#[]⟩) (.string ⟨#[]⟩) (.int .i64 0) (.string ⟨#[]⟩) (.int .i64 0)
  obtain ⟨L, hL⟩ : ∃ L, L = l.length := ⟨_, rfl⟩
  obtain ⟨N, hN⟩ : ∃ N, N = (l.take 8201).length := ⟨_, rfl⟩
  have hNL : N = min 8201 L := by rw [hN, hL, List.length_take]
  have hNi : min (L : Int) 8201 = N := by omega
  have hNcap : (N : Int) ≤ cap := by omega
  have cB := fun (W : World) (hb : Below w.heap.size w W) => byte_w (.slice ao N cap) (l.take 8201) W (by
    have := HV.out.cut N (by rw [hN, List.length_take]; exact Nat.min_le_right _ _)
    rw [hN, List.length_take, ← List.take_eq_take_min] at this
    rw [hN, List.length_take]
    exact this.later hb)
  rw [St.index_upto] at cB
  have HQ : Hid (St.request l = St.whole (St.line 8200 l) St.reqOf) := Lib.hid rfl
  rw [← hL] at hlc ⊢
  by_cases hu : St.upto 10 (l.take 8201) = (l.take 8201).length
  · rw [if_pos hu] at cB
    have HF := Lib.hid (St.first_none hu)
    by_cases h9 : (L : Int) < 8201
    · have HR : Hid (St.request l = (St.zero, 0, 11)) := Lib.hid (by rw [HQ.out, HF.out, if_pos (by omega), St.whole_first (by decide)])
      clear hg hm HV HM hL hN hNL hu HF HQ hl
      go_enter Tryz.func107, Tryz.ntmps107
      go_upto_region 1 with fail
      generalize w.alloc (.cells #[.string ⟨#[]⟩, .string ⟨#[]⟩, .int .i64 0, .string ⟨#[]⟩, .int .i64 0] 25) = W0 at h0 ⊢
      go_wp2_with fail
      refine (cB _ h0.below).mono ?_
      rintro e W1 ⟨rfl, rfl⟩
      go_wp2_with (refine stS h0 rfl (.tmp 6) (.tmp 31) rfl _ _ _ _ _ rfl rfl ?_; intro W9 h9 _)
      (try simp only [Exit.inBlock, Exit.then])
      refine ret_start rfl w.heap.size _ _ _ _ _ rfl h9.cell rfl ?_
      exact ⟨by rw [HR.out]; rfl, h9.below⟩
    · have HR : Hid (St.request l = (St.zero, 0, 12)) := Lib.hid (by rw [HQ.out, HF.out, if_neg (by omega), St.whole_first (by decide)])
      clear hg hm HV HM hL hN hNL hu HF HQ hl
      go_enter Tryz.func107, Tryz.ntmps107
      go_upto_region 1 with fail
      generalize w.alloc (.cells #[.string ⟨#[]⟩, .string ⟨#[]⟩, .int .i64 0, .string ⟨#[]⟩, .int .i64 0] 25) = W0 at h0 ⊢
      go_wp2_with fail
      refine (cB _ h0.below).mono ?_
      rintro e W1 ⟨rfl, rfl⟩
      go_wp2_with (refine stS h0 rfl (.tmp 6) (.tmp 35) rfl _ _ _ _ _ rfl rfl ?_; intro W9 h9 _)
      (try simp only [Exit.inBlock, Exit.then])
      refine ret_start rfl w.heap.size _ _ _ _ _ rfl h9.cell rfl ?_
      exact ⟨by rw [HR.out]; rfl, h9.below⟩
  · rw [if_neg hu] at cB
    obtain ⟨f1, f2, f3, f4⟩ := St.first_some hu
    rw [f1] at cB
    rcases hg with rfl | ⟨b, o, rfl, hb, hc⟩
    · simp at f2
    have HC := Lib.hid (fun (W : World) (hb : Below w.heap.size w W) => BIn.text (w := W) (cap := cap) (l := l) (b := b) (o := o) (fun j hj => by rw [hb.cell (p := ⟨b, o + j, none⟩) ‹_›]; exact hc j hj) (St.upto 10 l + 1) f2)
    obtain ⟨u, hu0⟩ : ∃ u, u = St.upto 10 l := ⟨_, rfl⟩
    rw [← hu0] at cB f2 f3 f4 HC
    have hlen : (l.take (u + 1)).length ≤ 500000 := by rw [List.length_take]; omega
    obtain ⟨X, hX⟩ : ∃ X, X = str (l.take (u + 1)) := ⟨_, rfl⟩
    rw [← hX] at HC
    have hXz : X.size ≤ 500000 := by rw [hX, str_size]; exact hlen
    have cX := fun (W : World) => Cut_w X W (by omega)
    have hXl : X.data.toList = l.take (u + 1) := by rw [hX, str_list]
    rw [hXl] at cX
    have htr : (Lib.trimSuffix (l.take (u + 1)) [13, 10]).length ≤ 500000 := by
      unfold Lib.trimSuffix
      split
      · rw [List.length_take]; omega
      · exact hlen
    generalize Lib.trimSuffix (l.take (u + 1)) [13, 10] = tr at *
    obtain ⟨Y, hY⟩ : ∃ Y, Y = str tr := ⟨_, rfl⟩
    rw [← hY] at cX
    have hYz : Y.size ≤ 500000 := by rw [hY, str_size]; exact htr
    have hYl : Y.data.toList = tr := by rw [hY, str_list]
    have huL : (u : Int) + 1 ≤ L := by omega
    have hu1 : (0 : Int) ≤ (u : Int) + 1 := by omega
    have huz : ¬ ((u : Int) + 1 = 0) := by omega
    have hub : ((u : Int) + 1 == 0) = false := beq_eq_false_iff_ne.2 huz
    have huc : (u : Int) + 1 ≤ cap := by omega
    cases hs : Lib.hasSuffix (l.take (u + 1)) [13, 10] with
    | false =>
      have HR : Hid (St.request l = (St.zero, 0, 10)) := Lib.hid (by rw [HQ.out, f4, hs]; rfl)
      rw [hs] at cX
      obtain ⟨np, hnp⟩ : ∃ np, (St.cut3 tr).length = np := ⟨_, rfl⟩
      have cY := fun (W : World) (hm : MaxOk W) => SplitN_few Y W (by omega) hm np (by rw [hYl]; exact hnp)
      clear hc hb hm HV hL hN hNL hu HQ hl f1 f2 f3 f4 hu0 hlen hX hXl htr hY hYl hXz hYz hnp
      go_enter Tryz.func107, Tryz.ntmps107
      go_upto_region 1 with fail
      generalize w.alloc (.cells #[.string ⟨#[]⟩, .string ⟨#[]⟩, .int .i64 0, .string ⟨#[]⟩, .int .i64 0] 25) = W0 at h0 ⊢
      go_wp2_with fail
      refine (cB _ h0.below).mono ?_
      rintro e W1 ⟨rfl, rfl⟩
      have hcv := HC.out _ h0.below
      go_wp2_with fail
      refine (cX _).mono ?_
      rintro e W2 ⟨rfl, rfl⟩
      clear hcv
      go_wp2_with fail
      refine (cY _ (HM.out _ h0.below)).mono ?_
      rintro e W3 ⟨cc, rfl, hb3⟩
      have h3 := h0.later hb3
      go_wp2_with (refine stS h3 rfl (.tmp 6) (.tmp 53) rfl _ _ _ _ _ rfl rfl ?_; intro W9 h9 _)
      (try simp only [Exit.inBlock, Exit.then])
      refine ret_start rfl w.heap.size _ _ _ _ _ rfl h9.cell rfl ?_
      exact ⟨by rw [HR.out]; rfl, h9.below⟩
    | true =>
      rw [hs] at cX
      rw [hs, if_pos rfl] at f4
      rcases St.cut3_cases tr with hp | ⟨a, b, c, hp⟩
      · have HR : Hid (St.request l = (St.zero, 0, 10)) := Lib.hid (by
          rw [HQ.out, f4, St.whole_of (St.reqOf_pieces tr |>.trans (St.ofPieces_short hp)), if_pos (by decide)])
        obtain ⟨np, hnp⟩ : ∃ np, (St.cut3 tr).length = np := ⟨_, rfl⟩
        have hnp3 : (np : Int) < 3 := by omega
        have cY := fun (W : World) (hm : MaxOk W) => SplitN_few Y W (by omega) hm np (by rw [hYl]; exact hnp)
        clear hc hb hm HV hL hN hNL hu HQ hl f1 f2 f3 f4 hu0 hlen hX hXl htr hY hYl hXz hYz hnp hp hs
        go_enter Tryz.func107, Tryz.ntmps107
        go_upto_region 1 with fail
        generalize w.alloc (.cells #[.string ⟨#[]⟩, .string ⟨#[]⟩, .int .i64 0, .string ⟨#[]⟩, .int .i64 0] 25) = W0 at h0 ⊢
        go_wp2_with fail
        refine (cB _ h0.below).mono ?_
        rintro e W1 ⟨rfl, rfl⟩
        have hcv := HC.out _ h0.below
        go_wp2_with fail
        refine (cX _).mono ?_
        rintro e W2 ⟨rfl, rfl⟩
        clear hcv
        go_wp2_with fail
        refine (cY _ (HM.out _ h0.below)).mono ?_
        rintro e W3 ⟨cc, rfl, hb3⟩
        have h3 := h0.later hb3
        go_wp2_with (refine stS h3 rfl (.tmp 6) (.tmp 53) rfl _ _ _ _ _ rfl rfl ?_; intro W9 h9 _)
        (try simp only [Exit.inBlock, Exit.then])
        refine ret_start rfl w.heap.size _ _ _ _ _ rfl h9.cell rfl ?_
        exact ⟨by rw [HR.out]; rfl, h9.below⟩
      · have cY := fun (W : World) (hm : MaxOk W) => SplitN_3 Y a b c W (by omega) hm (by rw [hYl]; exact hp)
        have hbk := St.cut3_back hp
        have hbl : tr.length = a.length + (b.length + (c.length + 1) + 1) := by rw [hbk]; simp
        have za : (str a).size ≤ 1000000 := by rw [str_size]; omega
        have zb : (str b).size ≤ 1000000 := by rw [str_size]; omega
        have zc : (str c).size ≤ 1000000 := by rw [str_size]; omega
        have cR := fun (W : World) => asked_s (str a) (str b) (str c) W za zb
        rw [str_list, str_list, str_list] at cR
        have hlen3 := rdQ_len a b c 1000000 (by omega) (by omega) (by omega)
        obtain ⟨⟨⟨m, t, st, r, k⟩, ok⟩, hq⟩ : ∃ x, St.rdQ a b c = x := ⟨_, rfl⟩
        rw [hq] at cR hlen3
        have cF := fun (W : World) => formed_s ⟨m, t, st, r, k⟩ W hlen3.1 hlen3.2.1 hlen3.2.2
        have cG := fun (W : World) => long_s ⟨m, t, st, r, k⟩ W
        have HS : Hid (sres (St.request l) = if ok = false ∨ St.formed ⟨m, t, st, r, k⟩ = false then .tuple #[.agg #[.string ⟨#[]⟩, .string ⟨#[]⟩, .int .i64 0, .string ⟨#[]⟩, .int .i64 0], .int .i64 0, .int .i64 10]
            else if St.long ⟨m, t, st, r, k⟩ = true then .tuple #[.agg #[.string ⟨#[]⟩, .string ⟨#[]⟩, .int .i64 0, .string ⟨#[]⟩, .int .i64 0], .int .i64 0, .int .i64 12]
            else .tuple #[.agg #[.string (str m), .string (str t), .int .i64 st, .string (str r), .int .i64 k], .int .i64 ((u : Int) + 1), .int .i64 0]) := Lib.hid (by
          have e1 : St.reqOf tr = St.says (⟨m, t, st, r, k⟩, ok) := by rw [St.reqOf_pieces, hp]; show St.says (St.rdQ a b c) = _; rw [hq]
          rw [HQ.out, f4]
          by_cases g1 : ok = false ∨ St.formed ⟨m, t, st, r, k⟩ = false
          · rw [if_pos g1, St.whole_of (e1.trans (St.says_no g1))]; rfl
          · rw [if_neg g1]
            rw [not_or] at g1
            have g2 : ok = true := by simpa using g1.1
            have g3 : St.formed ⟨m, t, st, r, k⟩ = true := by simpa using g1.2
            by_cases g4 : St.long ⟨m, t, st, r, k⟩ = true
            · rw [if_pos g4, St.whole_of (e1.trans (St.says_long g2 g3 g4))]; rfl
            · rw [if_neg g4, St.whole_of (e1.trans (St.says_ok g2 g3 (by simpa using g4)))]
              show sres (⟨m, t, st, r, k⟩, ((u + 1 : Nat) : Int), 0) = _
              rw [sres_s]; rfl)
        unfold rval at cR
        simp only [sval_s] at cR cF cG
        generalize sres (St.request l) = Z at *
        generalize St.formed ⟨m, t, st, r, k⟩ = fm at *
        generalize St.long ⟨m, t, st, r, k⟩ = lg at *
        generalize str m = M at *
        generalize str t = T at *
        generalize str r = D at *
        generalize str a = PA at *
        generalize str b = PB at *
        generalize str c = PC at *
        clear hc hb hm HV hL hN hNL hu HQ hl f1 f2 f3 f4 hu0 hlen hX hXl htr hY hYl hXz hYz hp hs hbk hbl za zb zc hlen3 hq
        go_enter Tryz.func107, Tryz.ntmps107
        go_upto_region 1 with fail
        generalize w.alloc (.cells #[.string ⟨#[]⟩, .string ⟨#[]⟩, .int .i64 0, .string ⟨#[]⟩, .int .i64 0] 25) = W0 at h0 ⊢
        go_wp2_with fail
        refine (cB _ h0.below).mono ?_
        rintro e W1 ⟨rfl, rfl⟩
        have hcv := HC.out _ h0.below
        go_wp2_with fail
        refine (cX _).mono ?_
        rintro e W2 ⟨rfl, rfl⟩
        clear hcv
        go_wp2_with fail
        refine (cY _ (HM.out _ h0.below)).mono ?_
        rintro e W3 ⟨cc, rfl, hcc, hlt, k0, k1, k2, hb3⟩
        have hP3 : Pc w w.heap.size W0.heap.size PA PB PC W3 := ⟨h0.later hb3, hlt, k0, k1, k2⟩
        have hcci : (3 : Int) ≤ cc := by omega
        clear hlt k0 k1 k2 hb3 cX cY cB h0 HC HM
        generalize W0.heap.size = A at *
        go_upto_region 10 with fail
        go_cut [11, 13] (fun x11 x13 wx => ∃ g, x11 = .bool ok ∧ x13 = .pointer (some ⟨g, 0, none⟩) ∧ SAt w w.heap.size wx (.string ⟨#[]⟩) (.string ⟨#[]⟩) (.int .i64 0) (.string ⟨#[]⟩) (.int .i64 0) ∧ SAt w g wx (.string M) (.string T) (.int .i64 st) (.string D) (.int .i64 k))
        case first =>
          have HP := Lib.hid (hP3.later (Below.refl _ W3).drew)
          clear hP3
          have KEY := Lib.hid (fun (w' : World) (h : Pc w w.heap.size A PA PB PC w') => h.cells)
          go_region_held3 (fun w' => w'.cell? ⟨A, 0, none⟩ = some (.string PA) ∧ w'.cell? ⟨A, 1, none⟩ = some (.string PB) ∧ w'.cell? ⟨A, 2, none⟩ = some (.string PC))
            (first | exact KEY.out _ HP.out | exact KEY.out _ (HP.out.alloc _) | exact KEY.out _ HP6.out | exact KEY.out _ (HP6.out.alloc _) | exact KEY.out _ (HP6.out.other5 HN6.out.ge HNE.out HNA.out _ _ _ _ _))
            (first
              | (go_at_call 109; refine (cR _).mono ?_; rintro e w6 ⟨rfl, hb6⟩; have HP6 := Lib.hid (HP.out.later hb6); clear hb6)
              | (go_at_call 109; refine (cR _).mono ?_; rintro e w6 ⟨rfl, hb6⟩; have HP6 := Lib.hid ((HP.out.alloc _).later hb6); have HN6 : Hid (SAt w W3.heap.size w6 (.string ⟨#[]⟩) (.string ⟨#[]⟩) (.int .i64 0) (.string ⟨#[]⟩) (.int .i64 0)) := Lib.hid (SAt.freshly HP.out.st.below hb6); have HNE : Hid (w.heap.size ≠ W3.heap.size) := Lib.hid (Nat.ne_of_lt (lt_of_block HP.out.st.cell)); have HNA : Hid (A ≠ W3.heap.size) := Lib.hid (Nat.ne_of_lt HP.out.lt); clear hb6; obtain ⟨n0, n1, n2, n3, n4⟩ := HN6.out.cells; obtain ⟨m0, m1, m2, m3, m4⟩ := HN6.out.frees))
          all_goals go_wp2_with fail
          all_goals go_meet
          all_goals (case rel => first | exact ⟨_, rfl, rfl, HP6.out.st.alloc _, SAt.fresh HP6.out.st.below _ _ _ _ _⟩ | exact ⟨_, rfl, rfl, HP6.out.st.other5 HN6.out.ge HNE.out _ _ _ _ _, HN6.out.set _ _ _ _ _⟩)
        case rest =>
          obtain ⟨g, rfl, rfl, hZ, hX⟩ := hcut
          clear hP3 cR hcc hcci
          cases ok with
          | false =>
            have HR : Hid (Z = _) := Lib.hid (HS.out.trans (if_pos (.inl rfl)))
            clear HS hX cF cG
            go_wp2_with (refine stS hZ rfl (.tmp 6) (.tmp 76) rfl _ _ _ _ _ rfl rfl ?_; intro W9 h9 _)
            (try simp only [Exit.inBlock, Exit.then])
            refine ret_start rfl w.heap.size _ _ _ _ _ rfl h9.cell rfl ?_
            exact ⟨by rw [HR.out]; rfl, h9.below⟩
          | true =>
            obtain ⟨c0, c1, c2, c3, c4⟩ := hX.cells
            cases fm with
            | false =>
              have HR : Hid (Z = _) := Lib.hid (HS.out.trans (if_pos (.inr rfl)))
              clear HS cG
              go_wp2_with fail
              refine (cF _).mono ?_
              rintro e W5 ⟨rfl, hb5⟩
              have hZ5 := hZ.later hb5
              clear hb5 c0 c1 c2 c3 c4 hX hZ cF
              go_wp2_with (refine stS hZ5 rfl (.tmp 6) (.tmp 76) rfl _ _ _ _ _ rfl rfl ?_; intro W9 h9 _)
              (try simp only [Exit.inBlock, Exit.then])
              refine ret_start rfl w.heap.size _ _ _ _ _ rfl h9.cell rfl ?_
              exact ⟨by rw [HR.out]; rfl, h9.below⟩
            | true =>
              have HT : Hid (Z = _) := Lib.hid (HS.out.trans (if_neg (by simp)))
              clear HS
              go_wp2_with fail
              refine (cF _).mono ?_
              rintro e W5 ⟨rfl, hb5⟩
              have hZ5 := hZ.later hb5
              have hX5 := hX.later hb5
              clear hb5 c0 c1 c2 c3 c4 hX hZ cF
              go_wp2_with (refine ldS hX5.cell rfl (.tmp 13) rfl rfl ?_)
              refine (cG _).mono ?_
              rintro e W6 ⟨rfl, hb6⟩
              have hZ6 := hZ5.later hb6
              have hX6 := hX5.later hb6
              clear hb6 hX5 hZ5 cG
              cases lg with
              | true =>
                have HR : Hid (Z = _) := Lib.hid (HT.out.trans (if_pos rfl))
                clear HT
                go_wp2_with (refine stS hZ6 rfl (.tmp 6) (.tmp 80) rfl _ _ _ _ _ rfl rfl ?_; intro W9 h9 _)
                (try simp only [Exit.inBlock, Exit.then])
                refine ret_start rfl w.heap.size _ _ _ _ _ rfl h9.cell rfl ?_
                exact ⟨by rw [HR.out]; rfl, h9.below⟩
              | false =>
                have HR : Hid (Z = _) := Lib.hid (HT.out.trans (if_neg (by simp)))
                clear HT
                go_wp2_with (first | (refine ldS hX6.cell rfl (.tmp 13) rfl rfl ?_) | (refine stS hZ6 rfl (.tmp 6) (.tmp 81) rfl _ _ _ _ _ rfl rfl ?_; intro W9 h9 _))
                (try simp only [Exit.inBlock, Exit.then])
                refine ret_start rfl w.heap.size _ _ _ _ _ rfl h9.cell rfl ?_
                exact ⟨by rw [HR.out]; rfl, h9.below⟩
end Go.Proofs.YtlbjjeonchcgbaaGreatDoor
