/- The document's own answer for package start: requests' lines. -/
import Derived.Test.YtbpghbbcghlcaaaDoorSt3
namespace Go.Proofs.YtbpghbbcghlcaaaDoor
open Go.RowKit

theorem line_len (most : Nat) (l : List UInt8) : (St.line most l).1.length ≤ l.length := by
  unfold St.line
  split
  · split
    · show (l.take _).length ≤ _; rw [List.length_take]; omega
    · simp
  · split <;> simp
theorem ext_zero (s : ByteArray) (l : List UInt8) (h : s.data.toList = l) (k : Nat) : s.extract 0 k = str (l.take k) := str_eq (by rw [Lib.extract_data, h]; simp)
theorem ext_from (s : ByteArray) (l : List UInt8) (h : s.data.toList = l) (k : Nat) : s.extract k s.size = str (l.drop k) := by
  refine str_eq ?_
  rw [Lib.extract_data, h, List.take_of_length_le]
  rw [List.length_drop, ← h]; simp
theorem ext_mid (s : ByteArray) (l : List UInt8) (h : s.data.toList = l) (a b : Nat) : s.extract a b = str ((l.take b).drop a) := by
  refine str_eq ?_
  rw [Lib.extract_data, h, List.drop_take]
theorem SAt.drew {w : World} {g : Nat} {W : World} {a b c d e : Value} (h : SAt w g W a b c d e) : SAt w g W.drew a b c d e := h.later ((Below.refl _ _).drew)

set_option maxHeartbeats 6400000 in
set_option maxRecDepth 100000 in
theorem rRequest_w (v : Value) (l : List UInt8) (w : World) (hl : l.length ≤ 1000000) (h : BIn w v l) :
    Calls Tryd.prog 10 #[v] w fun e w' => e = .returned (sres (St.request l)) ∧ Below w.heap.size w w' := by
  have cL := fun (W : World) (hb : Below w.heap.size w W) => rline_w v l 8200 W hl (by decide) (h.later hb)
  have hlen := line_len 8200 l
  have h0 := SAt.start w (.string ⟨#[]⟩) (.string ⟨#[]⟩) (.int .i64 0) (.string ⟨#[]⟩) (.int .i64 0)
  have HQ : Hid (∀ x, St.line 8200 l = x → St.request l = St.whole x St.reqOf) := Lib.hid (by rintro x rfl; rfl)
  obtain ⟨⟨ln, n, er⟩, hx⟩ : ∃ x, St.line 8200 l = x := ⟨_, rfl⟩
  have HQ := Lib.hid (HQ.out _ hx)
  rw [hx] at cL hlen
  change ∀ (W : World), Below w.heap.size w W → Calls Tryd.prog 19 #[v, .int .i64 8200] W fun e w' => e = .returned (.tuple #[.string (str ln), .int .i64 n, .int .i64 er]) ∧ W = w' at cL
  simp only [] at hlen
  clear hx
  by_cases he : er = 0
  · subst he
    obtain ⟨s, hs⟩ : ∃ s, s = str ln := ⟨_, rfl⟩
    have hsd : s.data.toList = ln := by rw [hs, str_list]
    have hsz : s.size ≤ 1000000 := by rw [hs, str_size]; omega
    rw [← hs] at cL
    have cS := fun (W : World) => rspace_s s W hsz
    obtain ⟨I, hI, i1, g1, g2⟩ := upto_facts 32 s
    clear g1 g2
    rw [← hI] at cS
    have hIl : ln.length = s.size := by rw [hs, str_size]
    rw [hsd] at hI
    have hI0 : (0 : Int) ≤ I := by omega
    have hIs : (I : Int) ≤ s.size := by omega
    by_cases hIe : I = s.size
    · have HR : Hid (St.request l = (St.zero, 0, 10)) := by
        rw [HQ.out, St.whole_of (St.reqOf_none (by rw [← hI, hIl]; exact hIe))]; exact Lib.hid rfl
      have bI : ((I : Int) == (s.size : Int)) = true := by rw [hIe]; exact beq_self_eq_true _
      clear HQ hI hIl hsd hs hIe h hl hlen
      go_enter Tryd.func10, Tryd.ntmps10
      go_upto_region 1 with fail
      generalize w.alloc _ = W0 at h0 ⊢
      go_wp2_with fail
      refine (cL _ h0.below).mono ?_
      rintro e W1 ⟨rfl, rfl⟩
      go_wp2_with fail
      refine (cS _).mono ?_
      rintro e W2 ⟨rfl, rfl⟩
      go_wp2_with (refine stS h0 rfl (.tmp 2) (.tmp 28) rfl _ _ _ _ _ rfl rfl ?_; intro W9 h9 _)
      (try simp only [Exit.inBlock, Exit.then])
      refine ret_start rfl w.heap.size _ _ _ _ _ rfl h9.cell rfl ?_
      exact ⟨by rw [HR.out]; rfl, h9.below⟩
    · obtain ⟨T, hT⟩ : ∃ T, T = s.extract (I + 1) s.size := ⟨_, rfl⟩
      have hTs : T = str (ln.drop (I + 1)) := by rw [hT]; exact ext_from s ln hsd (I + 1)
      have hTd : T.data.toList = ln.drop (I + 1) := by rw [hTs, str_list]
      have hTz : T.size ≤ 1000000 := by rw [hTs, str_size, List.length_drop]; omega
      have hTl : (ln.drop (I + 1)).length = T.size := by rw [hTs, str_size]
      have cS2 := fun (W : World) => rspace_s T W hTz
      obtain ⟨J, hJ, j1, g1, g2⟩ := upto_facts 32 T
      clear g1 g2
      rw [← hJ] at cS2
      rw [hTd] at hJ
      have bI : ((I : Int) == (s.size : Int)) = false := beq_eq_false_iff_ne.2 (by omega)
      have hI1 : (I : Int) + 1 ≤ s.size := by omega
      have hwI : IntKind.i64.wrap ((I : Int) + 1) = (I : Int) + 1 := by rw [IntKind.wrap_i64]; omega
      have hJ0 : (0 : Int) ≤ J := by omega
      have hJs : (J : Int) ≤ T.size := by omega
      have eT := hT.symm
      by_cases hJe : J = T.size
      · have HR : Hid (St.request l = (St.zero, 0, 10)) := by
          rw [HQ.out, St.whole_of (St.reqOf_one (by rw [← hI, hIl]; exact hIe) (by rw [← hI, ← hJ, hTl]; exact hJe))]; exact Lib.hid rfl
        have bJ : ((J : Int) == (T.size : Int)) = true := by rw [hJe]; exact beq_self_eq_true _
        clear HQ hI hIl hsd hs hIe h hl hlen hT hTs hTd hTl hJ hJe
        go_enter Tryd.func10, Tryd.ntmps10
        go_upto_region 1 with fail
        generalize w.alloc _ = W0 at h0 ⊢
        go_wp2_with fail
        refine (cL _ h0.below).mono ?_
        rintro e W1 ⟨rfl, rfl⟩
        go_wp2_with fail
        refine (cS _).mono ?_
        rintro e W2 ⟨rfl, rfl⟩
        go_wp2_with fail
        refine (cS2 _).mono ?_
        rintro e W3 ⟨rfl, rfl⟩
        go_wp2_with (refine stS h0 rfl (.tmp 2) (.tmp 39) rfl _ _ _ _ _ rfl rfl ?_; intro W9 h9 _)
        (try simp only [Exit.inBlock, Exit.then])
        refine ret_start rfl w.heap.size _ _ _ _ _ rfl h9.cell rfl ?_
        exact ⟨by rw [HR.out]; rfl, h9.below⟩
      · have bJ : ((J : Int) == (T.size : Int)) = false := beq_eq_false_iff_ne.2 (by omega)
        have hJ1 : (J : Int) + 1 ≤ T.size := by omega
        have hwJ : IntKind.i64.wrap ((J : Int) + 1) = (J : Int) + 1 := by rw [IntKind.wrap_i64]; omega
        obtain ⟨M, hM⟩ : ∃ M, M = str (ln.take I) := ⟨_, rfl⟩
        obtain ⟨G, hG⟩ : ∃ G, G = str ((ln.drop (I + 1)).take J) := ⟨_, rfl⟩
        obtain ⟨V, hV⟩ : ∃ V, V = str ((ln.drop (I + 1)).drop (J + 1)) := ⟨_, rfl⟩
        have eM : s.extract 0 I = M := by rw [hM]; exact ext_zero s ln hsd I
        have eG : T.extract 0 J = G := by rw [hG]; exact ext_zero T _ hTd J
        have eV : T.extract (J + 1) T.size = V := by rw [hV]; exact ext_from T _ hTd (J + 1)
        have cM := fun (W : World) => rminor_s V W
        have mz : M.size = (ln.take I).length := by rw [hM, str_size]
        have gz : G.size = ((ln.drop (I + 1)).take J).length := by rw [hG, str_size]
        have cK := fun (W : World) => rToken_s M W (by rw [mz, List.length_take]; omega)
        have cX := fun (W : World) => rvisible_s G W (by rw [gz, List.length_take]; omega)
        rw [hV, str_list, ← hV] at cM
        rw [hM, str_list, ← hM] at cK
        rw [hG, str_list, ← hG] at cX
        have hq := St.reqOf_two (l := ln) (by rw [← hI, hIl]; exact hIe) (by rw [← hI, ← hJ, hTl]; exact hJe)
        rw [← hI, ← hJ] at hq
        have HB : Hid (∀ mn tk vs, St.minorOf ((ln.drop (I + 1)).drop (J + 1)) = mn → Oct.token (ln.take I) = tk → St.visible ((ln.drop (I + 1)).take J) = vs → ∀ x e, (if mn < 0 ∨ tk = false ∨ vs = false then (St.zero, 10) else if 32 < M.size ∨ 8000 < G.size then (St.zero, 12) else (⟨ln.take I, (ln.drop (I + 1)).take J, 0, [], mn⟩, 0) : St.S × Int) = (x, e) → St.request l = if e ≠ 0 then (St.zero, 0, e) else (x, n, 0)) := Lib.hid (by
          rintro mn tk vs rfl rfl rfl x e hxe
          rw [HQ.out]
          refine St.whole_of (hq.trans ?_)
          rw [mz, gz] at hxe
          exact hxe)
        have HU : Hid (∀ mn, sval ⟨ln.take I, (ln.drop (I + 1)).take J, 0, [], mn⟩ = .agg #[.string M, .string G, .int .i64 0, .string ⟨#[]⟩, .int .i64 mn]) := Lib.hid (by intro mn; rw [hM, hG]; rfl)
        obtain ⟨mn, hmn⟩ : ∃ mn, St.minorOf ((ln.drop (I + 1)).drop (J + 1)) = mn := ⟨_, rfl⟩
        obtain ⟨tk, htk⟩ : ∃ tk, Oct.token (ln.take I) = tk := ⟨_, rfl⟩
        obtain ⟨vs, hvs⟩ : ∃ vs, St.visible ((ln.drop (I + 1)).take J) = vs := ⟨_, rfl⟩
        have HC := Lib.hid (HB.out mn tk vs hmn htk hvs)
        clear HB hq
        rw [hmn] at cM
        rw [htk] at cK
        rw [hvs] at cX
        have HW := Lib.hid (HU.out mn)
        generalize (⟨ln.take I, (ln.drop (I + 1)).take J, 0, [], mn⟩ : St.S) = X at HC HW
        have hMz : M.size ≤ 1000000 := by rw [mz, List.length_take]; omega
        have hGz : G.size ≤ 1000000 := by rw [gz, List.length_take]; omega
        clear HQ HU hI hIl hsd hs hIe h hl hlen hT hTs hTd hTl hJ hJe hM hG hV mz gz hmn htk hvs
        go_enter Tryd.func10, Tryd.ntmps10
        go_upto_region 1 with fail
        generalize w.alloc _ = W0 at h0 ⊢
        go_wp2_with fail
        refine (cL _ h0.below).mono ?_
        rintro e W1 ⟨rfl, rfl⟩
        go_wp2_with fail
        refine (cS _).mono ?_
        rintro e W2 ⟨rfl, rfl⟩
        go_wp2_with fail
        refine (cS2 _).mono ?_
        rintro e W3 ⟨rfl, rfl⟩
        go_upto_region 11 with fail
        go_cut [11] from 40 to 51 (fun p wx => p = .pointer (some ⟨W0.heap.size, 0, none⟩) ∧ (W0.alloc (.cells #[.string M, .string G, .int .i64 0, .string ⟨#[]⟩, .int .i64 mn] 25)).drew = wx)
        case first =>
          go_region_with ((refine (cM _).mono ?_; rintro e W4 ⟨rfl, rfl⟩))
          all_goals (go_wp2_with fail)
          all_goals (go_meet; case rel => exact ⟨rfl, rfl⟩)
        case rest =>
          obtain ⟨rfl, rfl⟩ := hcut
          have hN := (SAt.fresh h0.below (.string M) (.string G) (.int .i64 0) (.string ⟨#[]⟩) (.int .i64 mn)).drew
          have hR := (h0.alloc (.cells #[.string M, .string G, .int .i64 0, .string ⟨#[]⟩, .int .i64 mn] 25)).drew
          generalize (W0.alloc (.cells #[.string M, .string G, .int .i64 0, .string ⟨#[]⟩, .int .i64 mn] 25)).drew = W5 at hN hR ⊢
          generalize W0.heap.size = gN at hN ⊢
          obtain ⟨c0, c1, c2, c3, c4⟩ := hN.cells
          clear h0 cL cS cS2 cM
          by_cases g0 : mn < 0
          · have HR : Hid (St.request l = (St.zero, 0, 10)) := Lib.hid (HC.out _ _ (if_pos (.inl g0)))
            clear HC
            go_wp2_with (refine stS hR rfl (.tmp 2) (.tmp 67) rfl _ _ _ _ _ rfl rfl ?_; intro W9 h9 _)
            (try simp only [Exit.inBlock, Exit.then])
            refine ret_start rfl w.heap.size _ _ _ _ _ rfl h9.cell rfl ?_
            exact ⟨by rw [HR.out]; rfl, h9.below⟩
          · cases tk with
            | false =>
              have HR : Hid (St.request l = (St.zero, 0, 10)) := Lib.hid (HC.out _ _ (if_pos (.inr (.inl rfl))))
              clear HC
              go_wp2_with fail
              refine (cK _).mono ?_
              rintro e W6 ⟨rfl, hb6⟩
              have hR6 := hR.later hb6
              go_wp2_with (refine stS hR6 rfl (.tmp 2) (.tmp 67) rfl _ _ _ _ _ rfl rfl ?_; intro W9 h9 _)
              (try simp only [Exit.inBlock, Exit.then])
              refine ret_start rfl w.heap.size _ _ _ _ _ rfl h9.cell rfl ?_
              exact ⟨by rw [HR.out]; rfl, h9.below⟩
            | true =>
              cases vs with
              | false =>
                have HR : Hid (St.request l = (St.zero, 0, 10)) := Lib.hid (HC.out _ _ (if_pos (.inr (.inr rfl))))
                clear HC
                go_wp2_with fail
                refine (cK _).mono ?_
                rintro e W6 ⟨rfl, hb6⟩
                have hR6 := hR.later hb6
                obtain ⟨d0, d1, d2, d3, d4⟩ := (hN.later hb6).cells
                clear c0 c1 c2 c3 c4
                go_wp2_with fail
                refine (cX _).mono ?_
                rintro e W7 ⟨rfl, rfl⟩
                go_wp2_with (refine stS hR6 rfl (.tmp 2) (.tmp 67) rfl _ _ _ _ _ rfl rfl ?_; intro W9 h9 _)
                (try simp only [Exit.inBlock, Exit.then])
                refine ret_start rfl w.heap.size _ _ _ _ _ rfl h9.cell rfl ?_
                exact ⟨by rw [HR.out]; rfl, h9.below⟩
              | true =>
                have HC := Lib.hid (fun x e hxe => HC.out x e ((if_neg (by simp; omega)).trans hxe))
                by_cases g1 : (32 : Int) < M.size
                · have HR : Hid (St.request l = (St.zero, 0, 12)) := Lib.hid (HC.out _ _ (if_pos (.inl (by omega))))
                  clear HC
                  go_wp2_with fail
                  refine (cK _).mono ?_
                  rintro e W6 ⟨rfl, hb6⟩
                  have hR6 := hR.later hb6
                  obtain ⟨d0, d1, d2, d3, d4⟩ := (hN.later hb6).cells
                  clear c0 c1 c2 c3 c4
                  go_wp2_with fail
                  refine (cX _).mono ?_
                  rintro e W7 ⟨rfl, rfl⟩
                  go_wp2_with (refine stS hR6 rfl (.tmp 2) (.tmp 78) rfl _ _ _ _ _ rfl rfl ?_; intro W9 h9 _)
                  (try simp only [Exit.inBlock, Exit.then])
                  refine ret_start rfl w.heap.size _ _ _ _ _ rfl h9.cell rfl ?_
                  exact ⟨by rw [HR.out]; rfl, h9.below⟩
                · by_cases g2 : (8000 : Int) < G.size
                  · have HR : Hid (St.request l = (St.zero, 0, 12)) := Lib.hid (HC.out _ _ (if_pos (.inr (by omega))))
                    clear HC
                    go_wp2_with fail
                    refine (cK _).mono ?_
                    rintro e W6 ⟨rfl, hb6⟩
                    have hR6 := hR.later hb6
                    obtain ⟨d0, d1, d2, d3, d4⟩ := (hN.later hb6).cells
                    clear c0 c1 c2 c3 c4
                    go_wp2_with fail
                    refine (cX _).mono ?_
                    rintro e W7 ⟨rfl, rfl⟩
                    go_wp2_with (refine stS hR6 rfl (.tmp 2) (.tmp 78) rfl _ _ _ _ _ rfl rfl ?_; intro W9 h9 _)
                    (try simp only [Exit.inBlock, Exit.then])
                    refine ret_start rfl w.heap.size _ _ _ _ _ rfl h9.cell rfl ?_
                    exact ⟨by rw [HR.out]; rfl, h9.below⟩
                  · have HR : Hid (sres (St.request l) = .tuple #[.agg #[.string M, .string G, .int .i64 0, .string ⟨#[]⟩, .int .i64 mn], .int .i64 n, .int .i64 0]) := by
                      rw [HC.out X 0 (if_neg (by omega)), if_neg (by decide)]
                      exact Lib.hid (by show Value.tuple #[sval X, _, _] = _; rw [HW.out])
                    clear HC HW
                    go_wp2_with fail
                    refine (cK _).mono ?_
                    rintro e W6 ⟨rfl, hb6⟩
                    have hR6 := hR.later hb6
                    have hN6 := hN.later hb6
                    obtain ⟨d0, d1, d2, d3, d4⟩ := hN6.cells
                    clear c0 c1 c2 c3 c4
                    go_wp2_with fail
                    refine (cX _).mono ?_
                    rintro e W7 ⟨rfl, rfl⟩
                    go_upto_region 16 with fail
                    clear d0 d1 d2 d3 d4
                    go_wp2_with (first | (refine ldS hN6.cell rfl (.tmp 11) rfl rfl ?_) | (refine stS hR6 rfl (.tmp 2) (.tmp 79) rfl _ _ _ _ _ rfl rfl ?_; intro W9 h9 _))
                    (try simp only [Exit.inBlock, Exit.then])
                    refine ret_start rfl w.heap.size _ _ _ _ _ rfl h9.cell rfl ?_
                    exact ⟨by rw [HR.out]; rfl, h9.below⟩
  · have HR : Hid (St.request l = (St.zero, 0, er)) := by rw [HQ.out, St.whole_first he]; exact Lib.hid rfl
    have be : (er != 0) = true := by rw [bne, beq_eq_false_iff_ne.2 he]; rfl
    generalize str ln = s at *
    clear HQ h hl hlen he
    go_enter Tryd.func10, Tryd.ntmps10
    go_upto_region 1 with fail
    generalize w.alloc _ = W0 at h0 ⊢
    go_wp2_with fail
    refine (cL _ h0.below).mono ?_
    rintro e W1 ⟨rfl, rfl⟩
    go_wp2_with (refine stS h0 rfl (.tmp 2) (.tmp 20) rfl _ _ _ _ _ rfl rfl ?_; intro W9 h9 _)
    (try simp only [Exit.inBlock, Exit.then])
    refine ret_start rfl w.heap.size _ _ _ _ _ rfl h9.cell rfl ?_
    exact ⟨by rw [HR.out]; rfl, h9.below⟩
end Go.Proofs.YtbpghbbcghlcaaaDoor
