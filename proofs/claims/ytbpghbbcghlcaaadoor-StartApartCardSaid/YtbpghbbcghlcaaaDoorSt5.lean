/- The document's own answer for package start: responses' lines. -/
import Derived.Test.YtbpghbbcghlcaaaDoorSt4
namespace St
theorem resOf_no {l : L} (h : l.length < 13 ∨ l[8]? ≠ some 32 ∨ l[12]? ≠ some 32) : resOf l = (zero, 10) := by unfold resOf; rw [if_pos h]
theorem resOf_at {l : L} (h : ¬ (l.length < 13 ∨ l[8]? ≠ some 32 ∨ l[12]? ≠ some 32)) : resOf l = resAt (l.take 8) ((l.take 12).drop 9) (l.drop 13) := by unfold resOf; rw [if_neg h]
end St
namespace Go.Proofs.YtbpghbbcghlcaaaDoor
open Go.RowKit

set_option maxHeartbeats 6400000 in
set_option maxRecDepth 100000 in
theorem rResponse_w (v : Value) (l : List UInt8) (w : World) (hl : l.length ≤ 1000000) (h : BIn w v l) :
    Calls Tryd.prog 12 #[v] w fun e w' => e = .returned (sres (St.response l)) ∧ Below w.heap.size w w' := by
  have cL := fun (W : World) (hb : Below w.heap.size w W) => rline_w v l 300 W hl (by decide) (h.later hb)
  have hlen := line_len 300 l
  have h0 := SAt.start w (.string ⟨#[]⟩) (.string ⟨#[]⟩) (.int .i64 0) (.string ⟨#[]⟩) (.int .i64 0)
  have HQ : Hid (∀ x, St.line 300 l = x → St.response l = St.whole x St.resOf) := Lib.hid (by rintro x rfl; rfl)
  obtain ⟨⟨ln, n, er⟩, hx⟩ : ∃ x, St.line 300 l = x := ⟨_, rfl⟩
  have HQ := Lib.hid (HQ.out _ hx)
  rw [hx] at cL hlen
  change ∀ (W : World), Below w.heap.size w W → Calls Tryd.prog 19 #[v, .int .i64 300] W fun e w' => e = .returned (.tuple #[.string (str ln), .int .i64 n, .int .i64 er]) ∧ W = w' at cL
  simp only [] at hlen
  clear hx
  by_cases he : er = 0
  · subst he
    obtain ⟨s, hs⟩ : ∃ s, s = str ln := ⟨_, rfl⟩
    have hsd : s.data.toList = ln := by rw [hs, str_list]
    have hsz : s.size ≤ 1000000 := by rw [hs, str_size]; omega
    rw [← hs] at cL
    have hIl : ln.length = s.size := by rw [hs, str_size]
    have HI8 : Hid (∀ h : 8 < s.size, ln[8]? = some s[8]) := Lib.hid (fun h => by rw [← hsd]; exact Lib.data_getElem? s 8 h)
    have HI12 : Hid (∀ h : 12 < s.size, ln[12]? = some s[12]) := Lib.hid (fun h => by rw [← hsd]; exact Lib.data_getElem? s 12 h)
    by_cases h13 : s.size < 13
    · have h13i : (s.size : Int) < 13 := by omega
      have HR : Hid (St.response l = (St.zero, 0, 10)) := by rw [HQ.out, St.whole_of (St.resOf_no (.inl (by rw [hIl]; exact h13)))]; exact Lib.hid rfl
      clear HQ HI8 HI12 hIl hsd hs h hl hlen h13
      go_enter Tryd.func12, Tryd.ntmps12
      go_upto_region 1 with fail
      generalize w.alloc _ = W0 at h0 ⊢
      go_wp2_with fail
      refine (cL _ h0.below).mono ?_
      rintro e W1 ⟨rfl, rfl⟩
      go_wp2_with (refine stS h0 rfl (.tmp 2) (.tmp 34) rfl _ _ _ _ _ rfl rfl ?_; intro W9 h9 _)
      (try simp only [Exit.inBlock, Exit.then])
      refine ret_start rfl w.heap.size _ _ _ _ _ rfl h9.cell rfl ?_
      exact ⟨by rw [HR.out]; rfl, h9.below⟩
    have h13i : ¬ (s.size : Int) < 13 := by omega
    have p8 : 8 < s.size := by omega
    have p12 : 12 < s.size := by omega
    have p8i : (8 : Int) < s.size := by omega
    have p12i : (12 : Int) < s.size := by omega
    by_cases h8 : s[8] = 32
    · by_cases h12 : s[12] = 32
      · have i8 : (s[8].toNat : Int) = 32 := by rw [h8]; rfl
        have i12 : (s[12].toNat : Int) = 32 := by rw [h12]; rfl
        have hq := St.resOf_at (l := ln) (by rw [HI8.out p8, HI12.out p12, h8, h12, hIl]; simp; omega)
        obtain ⟨R, hR⟩ : ∃ R, R = str (ln.drop 13) := ⟨_, rfl⟩
        obtain ⟨V, hV⟩ : ∃ V, V = str (ln.take 8) := ⟨_, rfl⟩
        obtain ⟨D, hD⟩ : ∃ D, D = str ((ln.take 12).drop 9) := ⟨_, rfl⟩
        have eR : s.extract 13 s.size = R := by rw [hR]; exact ext_from s ln hsd 13
        have eV : s.extract 0 8 = V := by rw [hV]; exact ext_zero s ln hsd 8
        have eD : s.extract 9 12 = D := by rw [hD]; exact ext_mid s ln hsd 9 12
        have cM := fun (W : World) => rminor_s V W
        have rz : R.size = (ln.drop 13).length := by rw [hR, str_size]
        have dz : D.size ≤ 100 := by rw [hD, str_size, List.length_drop, List.length_take]; omega
        obtain ⟨K, f, hkf⟩ : ∃ K f, Oct.number 10 999 ((ln.take 12).drop 9) = (K, f) := ⟨_, _, rfl⟩
        have cN := fun (W : World) => rNumber_is D 999 K f W (by omega) (by decide) (by decide) (by rw [hD, str_list]; exact hkf)
        have cX := fun (W : World) => rValue_s R W (by rw [rz, List.length_drop]; omega)
        rw [hV, str_list, ← hV] at cM
        rw [hR, str_list, ← hR] at cX
        have HB : Hid (∀ mn vl, St.minorOf (ln.take 8) = mn → Oct.value (ln.drop 13) = vl → ∀ x e, (if f ≠ 0 ∨ K < 100 ∨ mn < 0 ∨ vl = false then (St.zero, 10) else if 200 < R.size then (St.zero, 12) else (⟨[], [], K, ln.drop 13, mn⟩, 0) : St.S × Int) = (x, e) → St.response l = if e ≠ 0 then (St.zero, 0, e) else (x, n, 0)) := Lib.hid (by
          rintro mn vl rfl rfl x e hxe
          rw [HQ.out]
          refine St.whole_of (hq.trans ?_)
          unfold St.resAt
          rw [hkf]
          rw [rz] at hxe
          exact hxe)
        have HU : Hid (∀ mn, sval ⟨[], [], K, ln.drop 13, mn⟩ = .agg #[.string ⟨#[]⟩, .string ⟨#[]⟩, .int .i64 K, .string R, .int .i64 mn]) := Lib.hid (by intro mn; rw [hR]; rfl)
        obtain ⟨mn, hmn⟩ : ∃ mn, St.minorOf (ln.take 8) = mn := ⟨_, rfl⟩
        obtain ⟨vl, hvl⟩ : ∃ vl, Oct.value (ln.drop 13) = vl := ⟨_, rfl⟩
        have HC := Lib.hid (HB.out mn vl hmn hvl)
        rw [hmn] at cM
        rw [hvl] at cX
        have HW := Lib.hid (HU.out mn)
        generalize (⟨[], [], K, ln.drop 13, mn⟩ : St.S) = X at HC HW
        have hRz : R.size ≤ 1000000 := by rw [rz, List.length_drop]; omega
        clear HB HQ HU HI8 HI12 hIl hsd hs h hl hlen hq hR hV hD rz hkf hmn hvl h8 h12 h13
        go_enter Tryd.func12, Tryd.ntmps12
        go_upto_region 1 with fail
        generalize w.alloc _ = W0 at h0 ⊢
        go_wp2_with fail
        refine (cL _ h0.below).mono ?_
        rintro e W1 ⟨rfl, rfl⟩
        go_wp2_with fail
        refine (cN _).mono ?_
        rintro e W2 ⟨rfl, rfl⟩
        go_upto_region 7 with fail
        go_cut [10] from 41 to 47 (fun p wx => p = .pointer (some ⟨W0.heap.size, 0, none⟩) ∧ (W0.alloc (.cells #[.string ⟨#[]⟩, .string ⟨#[]⟩, .int .i64 K, .string R, .int .i64 mn] 25)).drew = wx)
        case first =>
          go_region_with ((refine (cM _).mono ?_; rintro e W4 ⟨rfl, rfl⟩))
          all_goals (go_wp2_with fail)
          all_goals (go_meet; case rel => exact ⟨rfl, rfl⟩)
        case rest =>
          obtain ⟨rfl, rfl⟩ := hcut
          have hN := (SAt.fresh h0.below (.string ⟨#[]⟩) (.string ⟨#[]⟩) (.int .i64 K) (.string R) (.int .i64 mn)).drew
          have hR := (h0.alloc (.cells #[.string ⟨#[]⟩, .string ⟨#[]⟩, .int .i64 K, .string R, .int .i64 mn] 25)).drew
          generalize (W0.alloc (.cells #[.string ⟨#[]⟩, .string ⟨#[]⟩, .int .i64 K, .string R, .int .i64 mn] 25)).drew = W5 at hN hR ⊢
          generalize W0.heap.size = gN at hN ⊢
          obtain ⟨c0, c1, c2, c3, c4⟩ := hN.cells
          clear h0 cL cN cM eR eV eD i8 i12
          by_cases g0 : f = 0
          · have b0 : (f != 0) = false := by rw [g0]; rfl
            by_cases g1 : K < 100
            · have HR : Hid (St.response l = (St.zero, 0, 10)) := Lib.hid (HC.out _ _ (if_pos (.inr (.inl g1))))
              clear HC
              go_wp2_with (refine stS hR rfl (.tmp 2) (.tmp 65) rfl _ _ _ _ _ rfl rfl ?_; intro W9 h9 _)
              (try simp only [Exit.inBlock, Exit.then])
              refine ret_start rfl w.heap.size _ _ _ _ _ rfl h9.cell rfl ?_
              exact ⟨by rw [HR.out]; rfl, h9.below⟩
            · by_cases g2 : mn < 0
              · have HR : Hid (St.response l = (St.zero, 0, 10)) := Lib.hid (HC.out _ _ (if_pos (.inr (.inr (.inl g2)))))
                clear HC
                go_wp2_with (refine stS hR rfl (.tmp 2) (.tmp 65) rfl _ _ _ _ _ rfl rfl ?_; intro W9 h9 _)
                (try simp only [Exit.inBlock, Exit.then])
                refine ret_start rfl w.heap.size _ _ _ _ _ rfl h9.cell rfl ?_
                exact ⟨by rw [HR.out]; rfl, h9.below⟩
              · cases vl with
                | false =>
                  have HR : Hid (St.response l = (St.zero, 0, 10)) := Lib.hid (HC.out _ _ (if_pos (.inr (.inr (.inr rfl)))))
                  clear HC
                  go_wp2_with fail
                  refine (cX _).mono ?_
                  rintro e W7 ⟨rfl, rfl⟩
                  go_wp2_with (refine stS hR rfl (.tmp 2) (.tmp 65) rfl _ _ _ _ _ rfl rfl ?_; intro W9 h9 _)
                  (try simp only [Exit.inBlock, Exit.then])
                  refine ret_start rfl w.heap.size _ _ _ _ _ rfl h9.cell rfl ?_
                  exact ⟨by rw [HR.out]; rfl, h9.below⟩
                | true =>
                  have HC := Lib.hid (fun x e hxe => HC.out x e ((if_neg (by simp [g0]; omega)).trans hxe))
                  by_cases g3 : (200 : Int) < R.size
                  · have HR : Hid (St.response l = (St.zero, 0, 12)) := Lib.hid (HC.out _ _ (if_pos (by omega)))
                    clear HC
                    go_wp2_with fail
                    refine (cX _).mono ?_
                    rintro e W7 ⟨rfl, rfl⟩
                    go_wp2_with (refine stS hR rfl (.tmp 2) (.tmp 70) rfl _ _ _ _ _ rfl rfl ?_; intro W9 h9 _)
                    (try simp only [Exit.inBlock, Exit.then])
                    refine ret_start rfl w.heap.size _ _ _ _ _ rfl h9.cell rfl ?_
                    exact ⟨by rw [HR.out]; rfl, h9.below⟩
                  · have HR : Hid (sres (St.response l) = .tuple #[.agg #[.string ⟨#[]⟩, .string ⟨#[]⟩, .int .i64 K, .string R, .int .i64 mn], .int .i64 n, .int .i64 0]) := by
                      rw [HC.out X 0 (if_neg (by omega)), if_neg (by decide)]
                      exact Lib.hid (by show Value.tuple #[sval X, _, _] = _; rw [HW.out])
                    clear HC HW
                    go_wp2_with fail
                    refine (cX _).mono ?_
                    rintro e W7 ⟨rfl, rfl⟩
                    go_upto_region 12 with fail
                    clear c0 c1 c2 c3 c4
                    go_wp2_with (first | (refine ldS hN.cell rfl (.tmp 10) rfl rfl ?_) | (refine stS hR rfl (.tmp 2) (.tmp 71) rfl _ _ _ _ _ rfl rfl ?_; intro W9 h9 _))
                    (try simp only [Exit.inBlock, Exit.then])
                    refine ret_start rfl w.heap.size _ _ _ _ _ rfl h9.cell rfl ?_
                    exact ⟨by rw [HR.out]; rfl, h9.below⟩
          · have b0 : (f != 0) = true := by rw [bne, beq_eq_false_iff_ne.2 g0]; rfl
            have HR : Hid (St.response l = (St.zero, 0, 10)) := Lib.hid (HC.out _ _ (if_pos (.inl g0)))
            clear HC
            go_wp2_with (refine stS hR rfl (.tmp 2) (.tmp 65) rfl _ _ _ _ _ rfl rfl ?_; intro W9 h9 _)
            (try simp only [Exit.inBlock, Exit.then])
            refine ret_start rfl w.heap.size _ _ _ _ _ rfl h9.cell rfl ?_
            exact ⟨by rw [HR.out]; rfl, h9.below⟩
      · obtain ⟨b1, b2, b3⟩ := ne_oct s[12] 32 32 rfl h12
        have i8 : (s[8].toNat : Int) = 32 := by rw [h8]; rfl
        have HR : Hid (St.response l = (St.zero, 0, 10)) := by rw [HQ.out, St.whole_of (St.resOf_no (.inr (.inr (by rw [HI12.out p12]; exact fun e => h12 (Option.some.inj e)))))]; exact Lib.hid rfl
        clear HQ HI8 HI12 hIl hsd hs h hl hlen h8 h12 h13
        go_enter Tryd.func12, Tryd.ntmps12
        go_upto_region 1 with fail
        generalize w.alloc _ = W0 at h0 ⊢
        go_wp2_with fail
        refine (cL _ h0.below).mono ?_
        rintro e W1 ⟨rfl, rfl⟩
        go_wp2_with (refine stS h0 rfl (.tmp 2) (.tmp 34) rfl _ _ _ _ _ rfl rfl ?_; intro W9 h9 _)
        (try simp only [Exit.inBlock, Exit.then])
        refine ret_start rfl w.heap.size _ _ _ _ _ rfl h9.cell rfl ?_
        exact ⟨by rw [HR.out]; rfl, h9.below⟩
    · obtain ⟨b1, b2, b3⟩ := ne_oct s[8] 32 32 rfl h8
      have HR : Hid (St.response l = (St.zero, 0, 10)) := by rw [HQ.out, St.whole_of (St.resOf_no (.inr (.inl (by rw [HI8.out p8]; exact fun e => h8 (Option.some.inj e)))))]; exact Lib.hid rfl
      clear HQ HI8 HI12 hIl hsd hs h hl hlen h8 h13
      go_enter Tryd.func12, Tryd.ntmps12
      go_upto_region 1 with fail
      generalize w.alloc _ = W0 at h0 ⊢
      go_wp2_with fail
      refine (cL _ h0.below).mono ?_
      rintro e W1 ⟨rfl, rfl⟩
      go_wp2_with (refine stS h0 rfl (.tmp 2) (.tmp 34) rfl _ _ _ _ _ rfl rfl ?_; intro W9 h9 _)
      (try simp only [Exit.inBlock, Exit.then])
      refine ret_start rfl w.heap.size _ _ _ _ _ rfl h9.cell rfl ?_
      exact ⟨by rw [HR.out]; rfl, h9.below⟩
  · have HR : Hid (St.response l = (St.zero, 0, er)) := by rw [HQ.out, St.whole_first he]; exact Lib.hid rfl
    have be : (er != 0) = true := by rw [bne, beq_eq_false_iff_ne.2 he]; rfl
    generalize str ln = s at *
    clear HQ h hl hlen he
    go_enter Tryd.func12, Tryd.ntmps12
    go_upto_region 1 with fail
    generalize w.alloc _ = W0 at h0 ⊢
    go_wp2_with fail
    refine (cL _ h0.below).mono ?_
    rintro e W1 ⟨rfl, rfl⟩
    go_wp2_with (refine stS h0 rfl (.tmp 2) (.tmp 19) rfl _ _ _ _ _ rfl rfl ?_; intro W9 h9 _)
    (try simp only [Exit.inBlock, Exit.then])
    refine ret_start rfl w.heap.size _ _ _ _ _ rfl h9.cell rfl ?_
    exact ⟨by rw [HR.out]; rfl, h9.below⟩
end Go.Proofs.YtbpghbbcghlcaaaDoor
