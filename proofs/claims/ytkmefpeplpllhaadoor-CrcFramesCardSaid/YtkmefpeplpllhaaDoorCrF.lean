/- The law CrcFrames. -/
import Derived.Test.YtkmefpeplpllhaaDoorCrP3
import Derived.Test.YtkmefpeplpllhaaDoorRel
namespace Go.Proofs.YtkmefpeplpllhaaDoor
open Go.RowKit

theorem str_no {a b : List UInt8} (h : a ≠ b) : ¬ (str a).toList = (str b).toList ∧ ((str a).toList == (str b).toList) = false ∧ ((str a).toList != (str b).toList) = true := by
  rw [str_toList, str_toList]
  have h2 : (a == b) = false := beq_eq_false_iff_ne.2 h
  exact ⟨h, h2, by rw [bne, h2]; rfl⟩

set_option maxHeartbeats 6400000 in
set_option maxRecDepth 100000 in
theorem frames_w (v : Value) (ls : List (List UInt8)) (v2 : Value) (lb : List UInt8) (w : World) (h : BsIn w v ls) (h2 : BIn w v2 lb) (hn2 : NilOk v2) (hT : CTab w) :
    Calls Tryd.prog 4 #[v, v2] w fun e w' => e = .returned (.bool true) ∧ Below w.heap.size w w' := by
  have cA := Lib.hid (fun (W : World) (hb : Below w.heap.size w W) => awake_w W (hT.later hb))
  have HV := Lib.hid h
  have HV2 := Lib.hid h2
  have HN2 := Lib.hid hn2
  have HT := Lib.hid hT
  have HJ := Lib.hid (joined_w v ls w h)
  obtain ⟨ab, cb, rfl, hcb, hcb9, hgb⟩ := h2
  have HGB := Lib.hid hgb
  obtain ⟨n, hn⟩ : ∃ n, n = lb.length := ⟨_, rfl⟩
  have HNL := Lib.hid hn
  rw [← hn] at hcb HV2 HN2 ⊢
  clear h hT hn2 hgb hn
  go_enter Tryd.func4, Tryd.ntmps4
  go_wp2_with fail
  refine HJ.out.mono ?_
  rintro e w1 ⟨u, b, rfl, hb1, hj⟩
  clear HJ
  cases b with
  | false =>
    clear hj
    go_wp2_with fail
    refine (cA.out w1 hb1).mono ?_
    rintro e w2 ⟨rfl, hb2⟩
    have hb2 := bt5 hb1 hb2
    go_wp2_with fail
    refine (cA.out w2 hb2).mono ?_
    rintro e w3 ⟨rfl, hb3⟩
    go_wp2_with fail
    go_ret
    exact ⟨rfl, bt5 hb2 hb3⟩
  | true =>
    obtain ⟨hB, hlen⟩ := hj rfl
    clear hj
    by_cases h30 : (3000 : Int) < n
    · clear hB hlen
      go_wp2_with fail
      refine (cA.out w1 hb1).mono ?_
      rintro e w2 ⟨rfl, hb2⟩
      have hb2 := bt5 hb1 hb2
      go_wp2_with fail
      refine (cA.out w2 hb2).mono ?_
      rintro e w3 ⟨rfl, hb3⟩
      go_wp2_with fail
      go_ret
      exact ⟨rfl, bt5 hb2 hb3⟩
    have hn30 : n ≤ 3000 := by omega
    obtain ⟨hin, hnil⟩ := hB.in_
    have HL := Lib.hid hlen
    obtain ⟨l, hl⟩ : ∃ l, ls.flatten = l := ⟨_, rfl⟩
    rw [hl] at hin HL
    have HFL := Lib.hid hl
    have HI := Lib.hid hin
    have HN := Lib.hid hnil
    obtain ⟨aa, ca, rfl, hca, hc9, _⟩ := hin
    obtain ⟨N, hN⟩ : ∃ N, N = l.length := ⟨_, rfl⟩
    have HNL1 := Lib.hid hN
    rw [← hN] at hca HI HN ⊢
    clear hl hN hB hlen hnil
    go_wp2_with fail
    refine (cA.out w1 hb1).mono ?_
    rintro e w2 ⟨rfl, hb12⟩
    have hb2 := bt5 hb1 hb12
    have cF := Frame_w v ls w2 (HV.out.later hb2) (by rw [HFL.out]; exact Nat.le_trans HL.out (by decide)) (HT.out.later hb2)
    rw [HFL.out] at cF
    go_wp2_with fail
    refine cF.mono ?_
    rintro e w3 ⟨uf, rfl, hBf⟩
    clear cF
    have hb3 := bt5 hb2 hBf.below
    have hb13 := bt5 hb12 hBf.below
    obtain ⟨hif, hnf⟩ := hBf.in_
    have HIF := Lib.hid hif
    have HNF := Lib.hid hnf
    have cO := Open_w uf _ w3 hif (by rw [Cr.frame_length]; exact Nat.le_trans (Nat.add_le_add_right HL.out 4) (by decide)) (HT.out.later hb3)
    rw [Cr.opn_frame] at cO
    clear hif hnf hBf hb12 hb2
    go_wp2_with fail
    refine cO.mono ?_
    rintro e w4 ⟨ux, rfl, hBx⟩
    clear cO
    have hb4 := bt5 hb3 hBx.below
    have hb14 := bt5 hb13 hBx.below
    have IF := Lib.hid (HIF.out.later hBx.below)
    have IX := Lib.hid hBx.in_
    have IL := Lib.hid (HI.out.later hb14)
    obtain ⟨fl, hfl⟩ : ∃ fl, fl = Cr.frame l := ⟨_, rfl⟩
    rw [← hfl] at IF
    have CR : Hid (∀ W, Below w4.heap.size w4 W → Calls Tryd.prog 15 #[.slice aa N ca] W fun e w' => ∃ u, e = .returned u ∧ Buf W w' u fl) := Lib.hid (fun W hb => by
      rw [hfl]
      exact rFrame_w _ l W (IL.out.later hb) HN.out (Nat.le_trans HL.out (by decide)))
    have HB4 := Lib.hid hb4
    clear hfl hBx hb13 hb14 hb1 HIF
    go_upto_region 6 with fail
    go_cut [52] (fun u52 wx => ∃ w5, w5 = wx ∧ u52 = .bool false ∧ Below w.heap.size w w5)
    case first =>
      refine Rel.region_of (by kernel_rfl) [some 36, some 37, some 38, some 39, some 40, some 41, some 42, some 43, some 44, some 45, some 46, some 47, some 48, some 49, some 50, some 51, some 52] (by kernel_rfl) (by kernel_rfl) [.eq (uf), .eq (.string (str fl)), .eq (.slice aa N ca), ⟨fun v w => BIn w v (fl) ∧ NilOk v, fun _ _ _ h hb => ⟨h.1.later hb, h.2⟩⟩, .eq (.string (str fl)), .eq (.bool false), .eq (.bool false), .eq (.int .i64 0), .eq (.bool false), .eq (.bool false), .eq (.bool false), .eq (ux), .eq (.string (str l)), .eq (.slice aa N ca), .eq (.string (str l)), .eq (.bool false), .eq (.bool false)] ⟨?_, ?_, ?_, ?_, ?_, ?_, ?_, ?_, ?_, ?_, ?_, ?_, ?_, ?_, ?_, ?_, ?_, trivial⟩ ?_
      · intro u w9 hb9 hd9
        clear hd9
        refine ⟨?_⟩
        simp only [Rel.canD, List.take_zero]
        go_wp2_with fail
        exact ⟨rfl, rfl, Below.refl _ _, rfl⟩
      · intro u w9 hb9 hd9
        have e0 : u 0 = uf := hd9 0 (by kernel_rfl)
        clear hd9
        have s9 := (IF.out.later hb9).all HNF.out
        refine ⟨?_⟩
        simp only [Rel.canD, List.take_succ_cons, List.take_zero, Nat.reduceAdd]
        go_wp2_with fail
        exact ⟨rfl, rfl, Below.refl _ _, rfl⟩
      · intro u w9 hb9 hd9
        clear hd9
        refine ⟨?_⟩
        simp only [Rel.canD, List.take_succ_cons, List.take_zero, Nat.reduceAdd]
        go_wp2_with fail
        exact ⟨rfl, rfl, Below.refl _ _, rfl⟩
      · intro u w9 hb9 hd9
        have e2 : u 2 = .slice aa N ca := hd9 2 (by kernel_rfl)
        clear hd9
        refine ⟨?_⟩
        simp only [Rel.canD, List.take_succ_cons, List.take_zero, Nat.reduceAdd]
        go_wp2_with fail
        refine (CR.out w9 hb9).mono ?_
        rintro e w8 ⟨u8, rfl, hB8⟩
        go_wp2_with fail
        exact ⟨rfl, rfl, hB8.below, hB8.in_⟩
      · intro u w9 hb9 hd9
        have e3 : BIn w9 (u 3) (fl) ∧ NilOk (u 3) := hd9 3 (by kernel_rfl)
        clear hd9
        have s9 := e3.1.all e3.2
        refine ⟨?_⟩
        simp only [Rel.canD, List.take_succ_cons, List.take_zero, Nat.reduceAdd]
        go_wp2_with fail
        exact ⟨rfl, rfl, Below.refl _ _, rfl⟩
      · intro u w9 hb9 hd9
        have e1 : u 1 = .string (str fl) := hd9 1 (by kernel_rfl)
        have e4 : u 4 = .string (str fl) := hd9 4 (by kernel_rfl)
        clear hd9
        refine ⟨?_⟩
        simp only [Rel.canD, List.take_succ_cons, List.take_zero, Nat.reduceAdd]
        go_wp2_with fail
        exact ⟨rfl, rfl, Below.refl _ _, rfl⟩
      · intro u w9 hb9 hd9
        have e5 : u 5 = .bool false := hd9 5 (by kernel_rfl)
        clear hd9
        refine ⟨?_⟩
        simp only [Rel.canD, List.take_succ_cons, List.take_zero, Nat.reduceAdd]
        go_wp2_with fail
        exact ⟨rfl, rfl, Below.refl _ _, rfl⟩
      · intro u w9 hb9 hd9
        have e6 : u 6 = .bool false := hd9 6 (by kernel_rfl)
        clear hd9
        refine ⟨?_⟩
        simp only [Rel.canD, List.take_succ_cons, List.take_zero, Nat.reduceAdd]
        go_wp2_with fail
        exact ⟨rfl, rfl, Below.refl _ _, rfl⟩
      · intro u w9 hb9 hd9
        have e6 : u 6 = .bool false := hd9 6 (by kernel_rfl)
        have e7 : u 7 = .int .i64 0 := hd9 7 (by kernel_rfl)
        clear hd9
        refine ⟨?_⟩
        simp only [Rel.canD, List.take_succ_cons, List.take_zero, Nat.reduceAdd]
        go_wp2_with fail
        exact ⟨rfl, rfl, Below.refl _ _, rfl⟩
      · intro u w9 hb9 hd9
        have e6 : u 6 = .bool false := hd9 6 (by kernel_rfl)
        have e8 : u 8 = .bool false := hd9 8 (by kernel_rfl)
        clear hd9
        refine ⟨?_⟩
        simp only [Rel.canD, List.take_succ_cons, List.take_zero, Nat.reduceAdd]
        go_wp2_with fail
        exact ⟨rfl, rfl, Below.refl _ _, rfl⟩
      · intro u w9 hb9 hd9
        have e9 : u 9 = .bool false := hd9 9 (by kernel_rfl)
        clear hd9
        refine ⟨?_⟩
        simp only [Rel.canD, List.take_succ_cons, List.take_zero, Nat.reduceAdd]
        go_wp2_with fail
        exact ⟨rfl, rfl, Below.refl _ _, rfl⟩
      · intro u w9 hb9 hd9
        have e10 : u 10 = .bool false := hd9 10 (by kernel_rfl)
        clear hd9
        refine ⟨?_⟩
        simp only [Rel.canD, List.take_succ_cons, List.take_zero, Nat.reduceAdd]
        go_wp2_with fail
        exact ⟨rfl, rfl, Below.refl _ _, rfl⟩
      · intro u w9 hb9 hd9
        have e10 : u 10 = .bool false := hd9 10 (by kernel_rfl)
        have e11 : u 11 = ux := hd9 11 (by kernel_rfl)
        clear hd9
        have s9 := (IX.out.1.later hb9).all IX.out.2
        refine ⟨?_⟩
        simp only [Rel.canD, List.take_succ_cons, List.take_zero, Nat.reduceAdd]
        go_wp2_with fail
        exact ⟨rfl, rfl, Below.refl _ _, rfl⟩
      · intro u w9 hb9 hd9
        have e10 : u 10 = .bool false := hd9 10 (by kernel_rfl)
        clear hd9
        refine ⟨?_⟩
        simp only [Rel.canD, List.take_succ_cons, List.take_zero, Nat.reduceAdd]
        go_wp2_with fail
        exact ⟨rfl, rfl, Below.refl _ _, rfl⟩
      · intro u w9 hb9 hd9
        have e10 : u 10 = .bool false := hd9 10 (by kernel_rfl)
        have e13 : u 13 = .slice aa N ca := hd9 13 (by kernel_rfl)
        clear hd9
        have s9 := (IL.out.later hb9).all HN.out
        refine ⟨?_⟩
        simp only [Rel.canD, List.take_succ_cons, List.take_zero, Nat.reduceAdd]
        go_wp2_with fail
        exact ⟨rfl, rfl, Below.refl _ _, rfl⟩
      · intro u w9 hb9 hd9
        have e10 : u 10 = .bool false := hd9 10 (by kernel_rfl)
        have e12 : u 12 = .string (str l) := hd9 12 (by kernel_rfl)
        have e14 : u 14 = .string (str l) := hd9 14 (by kernel_rfl)
        clear hd9
        refine ⟨?_⟩
        simp only [Rel.canD, List.take_succ_cons, List.take_zero, Nat.reduceAdd]
        go_wp2_with fail
        exact ⟨rfl, rfl, Below.refl _ _, rfl⟩
      · intro u w9 hb9 hd9
        have e10 : u 10 = .bool false := hd9 10 (by kernel_rfl)
        have e15 : u 15 = .bool false := hd9 15 (by kernel_rfl)
        clear hd9
        refine ⟨?_⟩
        simp only [Rel.canD, List.take_succ_cons, List.take_zero, Nat.reduceAdd]
        go_wp2_with fail
        exact ⟨rfl, rfl, Below.refl _ _, rfl⟩
      intro u w9 hb9 hR9
      have h16 : u 16 = .bool false := hR9 16 (by decide)
      simp only [Rel.canD, Nat.reduceAdd, h16]
      clear hR9
      have hbE := bt5 HB4.out hb9
      go_simp
      go_wp2_with fail
      go_meet
      case rel => exact ⟨_, rfl, rfl, hbE⟩
    case rest =>
      obtain ⟨w5, rfl, rfl, hb5⟩ := hcut
      clear hb4 HB4 IF IX IL CR
      have hfi2 := HV2.out.later (hb5.alloc hb5.size (.cells #[] 5))
      have hlen : ([] : List UInt8).length + lb.length ≤ 1000000000 := by rw [← HNL.out]; simp; omega
      go_wp2_with (at_builtin; refine appBs (Buf.none_ w5 w5 (Below.refl _ _)) hfi2 HN2.out hlen rfl _ _ rfl rfl rfl ?_; intro v3 w6 hB3 _)
      rw [List.nil_append] at hB3
      have hb6 := bt5 hb5 hB3.below
      have cO := Open_w v3 lb w6 hB3.in_.1 (by rw [← HNL.out]; omega) (HT.out.later hb6)
      clear hfi2 hlen hB3 hb5
      by_cases h4 : n < 4
      · have h4i : (n : Int) < 4 := by omega
        rw [Cr.opn_short (by rw [← HNL.out]; exact h4)] at cO
        go_wp2_with fail
        refine cO.mono ?_
        rintro e w7 ⟨u7, rfl, hB7⟩
        have hb7 := bt5 hb6 hB7.below
        obtain ⟨a5, c5, rfl, _⟩ := hB7.in_.1
        clear cO hB7 h4
        go_wp2_with fail
        go_ret
        exact ⟨rfl, hb7⟩
      have h4i : ¬ (n : Int) < 4 := by omega
      obtain ⟨ad, had⟩ : ∃ ad, ab = some ad := by
        rcases HGB.out with x | ⟨b, o, x, _⟩
        · exfalso
          have := HNL.out
          rw [x] at this
          simp at this; omega
        · exact ⟨_, x⟩
      subst had
      obtain ⟨t, ht⟩ : ∃ t, t = lb.take (n - 4) := ⟨_, rfl⟩
      have hIT := HV2.out.cut (n - 4) (by rw [← HNL.out]; omega)
      rw [← ht] at hIT
      have IT := Lib.hid hIT
      have htl : t.length ≤ 100000000 := by rw [ht, List.length_take]; omega
      have hop : Cr.opn lb = if lb = Cr.frame t then (t, 0) else ([], 33) := by
        unfold Cr.opn
        rw [← HNL.out, if_neg h4, ← ht]
      rw [hop] at cO
      have ON : Hid (NilOk (.slice (some ad) (n - 4) cb)) := Lib.hid (some_ok _ _ _)
      have CR2 : Hid (∀ W, Below w.heap.size w W → Calls Tryd.prog 15 #[.slice (some ad) (n - 4) cb] W fun e w' => ∃ u, e = .returned u ∧ Buf W w' u (Cr.frame t)) := Lib.hid (fun W hb => rFrame_w _ t W (IT.out.later hb) ON.out htl)
      clear ht hIT hop htl
      obtain ⟨k, hk⟩ : ∃ k, k = n - 4 := ⟨_, rfl⟩
      have hki : (n : Int) - 4 = (k : Int) := by omega
      have hkn : k ≤ n := by omega
      have hkc : k ≤ cb := by omega
      rw [← hk] at IT CR2 ON
      clear hk
      by_cases hfr : lb = Cr.frame t
      · rw [if_pos hfr] at cO
        rw [← hfr] at CR2
        clear hfr h4
        go_wp2_with fail
        refine cO.mono ?_
        rintro e w7 ⟨u7, rfl, hB7⟩
        have hb7 := bt5 hb6 hB7.below
        have HB7 := Lib.hid hb7
        have I7 := Lib.hid hB7.in_
        clear cO hB7 hb6
        go_upto_region 11 with fail
        go_cut [79] (fun u79 wx => ∃ w5, w5 = wx ∧ u79 = .bool false ∧ Below w7.heap.size w7 w5)
        case first =>
          refine Rel.region_of (by kernel_rfl) [some 70, some 71, some 72, some 73, some 74, some 75, some 76, some 77, some 78, some 79] (by kernel_rfl) (by kernel_rfl) [.eq (.slice (some ad) n cb), .eq (.slice (some ad) n cb), .eq (.int .i64 (n : Int)), .eq (.int .i64 (k : Int)), .eq (.slice (some ad) k cb), ⟨fun v w => BIn w v (lb) ∧ NilOk v, fun _ _ _ h hb => ⟨h.1.later hb, h.2⟩⟩, .eq (.string (str (lb))), .eq (.slice (some ad) n cb), .eq (.string (str lb)), .eq (.bool false)] ⟨?_, ?_, ?_, ?_, ?_, ?_, ?_, ?_, ?_, ?_, trivial⟩ ?_
          · intro u w9 hb9 hd9
            clear hd9
            refine ⟨?_⟩
            simp only [Rel.canD, List.take_zero]
            go_wp2_with fail
            exact ⟨rfl, rfl, Below.refl _ _, rfl⟩
          · intro u w9 hb9 hd9
            clear hd9
            refine ⟨?_⟩
            simp only [Rel.canD, List.take_succ_cons, List.take_zero, Nat.reduceAdd]
            go_wp2_with fail
            exact ⟨rfl, rfl, Below.refl _ _, rfl⟩
          · intro u w9 hb9 hd9
            have e1 : u 1 = .slice (some ad) n cb := hd9 1 (by kernel_rfl)
            clear hd9
            refine ⟨?_⟩
            simp only [Rel.canD, List.take_succ_cons, List.take_zero, Nat.reduceAdd]
            go_wp2_with fail
            exact ⟨rfl, rfl, Below.refl _ _, rfl⟩
          · intro u w9 hb9 hd9
            have e2 : u 2 = .int .i64 (n : Int) := hd9 2 (by kernel_rfl)
            clear hd9
            refine ⟨?_⟩
            simp only [Rel.canD, List.take_succ_cons, List.take_zero, Nat.reduceAdd]
            go_wp2_with fail
            exact ⟨rfl, rfl, Below.refl _ _, rfl⟩
          · intro u w9 hb9 hd9
            have e0 : u 0 = .slice (some ad) n cb := hd9 0 (by kernel_rfl)
            have e3 : u 3 = .int .i64 (k : Int) := hd9 3 (by kernel_rfl)
            clear hd9
            refine ⟨?_⟩
            simp only [Rel.canD, List.take_succ_cons, List.take_zero, Nat.reduceAdd]
            go_wp2_with fail
            exact ⟨rfl, rfl, Below.refl _ _, rfl⟩
          · intro u w9 hb9 hd9
            have e4 : u 4 = .slice (some ad) k cb := hd9 4 (by kernel_rfl)
            clear hd9
            refine ⟨?_⟩
            simp only [Rel.canD, List.take_succ_cons, List.take_zero, Nat.reduceAdd]
            go_wp2_with fail
            refine (CR2.out w9 (bt5 HB7.out hb9)).mono ?_
            rintro e w10 ⟨u10, rfl, hB10⟩
            go_wp2_with fail
            exact ⟨rfl, rfl, hB10.below, hB10.in_⟩
          · intro u w9 hb9 hd9
            have e5 : BIn w9 (u 5) (lb) ∧ NilOk (u 5) := hd9 5 (by kernel_rfl)
            clear hd9
            have s9 := e5.1.all e5.2
            refine ⟨?_⟩
            simp only [Rel.canD, List.take_succ_cons, List.take_zero, Nat.reduceAdd]
            go_wp2_with fail
            exact ⟨rfl, rfl, Below.refl _ _, rfl⟩
          · intro u w9 hb9 hd9
            clear hd9
            refine ⟨?_⟩
            simp only [Rel.canD, List.take_succ_cons, List.take_zero, Nat.reduceAdd]
            go_wp2_with fail
            exact ⟨rfl, rfl, Below.refl _ _, rfl⟩
          · intro u w9 hb9 hd9
            have e7 : u 7 = .slice (some ad) n cb := hd9 7 (by kernel_rfl)
            clear hd9
            have s9 := (HV2.out.later (bt5 HB7.out hb9)).all HN2.out
            refine ⟨?_⟩
            simp only [Rel.canD, List.take_succ_cons, List.take_zero, Nat.reduceAdd]
            go_wp2_with fail
            exact ⟨rfl, rfl, Below.refl _ _, rfl⟩
          · intro u w9 hb9 hd9
            have e6 : u 6 = .string (str (lb)) := hd9 6 (by kernel_rfl)
            have e8 : u 8 = .string (str lb) := hd9 8 (by kernel_rfl)
            clear hd9
            refine ⟨?_⟩
            simp only [Rel.canD, List.take_succ_cons, List.take_zero, Nat.reduceAdd]
            go_wp2_with fail
            exact ⟨rfl, rfl, Below.refl _ _, rfl⟩
          intro u w9 hb9 hR9
          have h9 : u 9 = .bool false := hR9 9 (by decide)
          simp only [Rel.canD, Nat.reduceAdd, h9]
          clear hR9
          go_simp
          go_wp2_with fail
          go_meet
          case rel => exact ⟨_, rfl, rfl, hb9⟩
        case rest =>
          obtain ⟨w8, rfl, rfl, hb8⟩ := hcut
          have hb9 := bt5 hb7 hb8
          have HB9 := Lib.hid hb9
          have I8 := Lib.hid (I7.out.1.later hb8)
          clear hb7 hb8 HB7
          go_upto_region 13 with fail
          refine Rel.region_of (by kernel_rfl) [some 87, some 88, some 89, some 90, some 91, some 92, some 93, some 94, some 95, some 96, some 97, some 98, some 99, some 4] (by kernel_rfl) (by kernel_rfl) [.eq (.int .i64 0), .eq (.bool true), .eq (.bool true), .eq (u7), .eq (.string (str t)), .eq (.slice (some ad) n cb), .eq (.slice (some ad) n cb), .eq (.int .i64 (n : Int)), .eq (.int .i64 (k : Int)), .eq (.slice (some ad) k cb), .eq (.string (str t)), .eq (.bool true), .eq (.bool true), .eq (.bool true)] ⟨?_, ?_, ?_, ?_, ?_, ?_, ?_, ?_, ?_, ?_, ?_, ?_, ?_, ?_, trivial⟩ ?_
          · intro u w9 hb9 hd9
            clear hd9
            refine ⟨?_⟩
            simp only [Rel.canD, List.take_zero]
            go_wp2_with fail
            exact ⟨rfl, rfl, Below.refl _ _, rfl⟩
          · intro u w9 hb9 hd9
            have e0 : u 0 = .int .i64 0 := hd9 0 (by kernel_rfl)
            clear hd9
            refine ⟨?_⟩
            simp only [Rel.canD, List.take_succ_cons, List.take_zero, Nat.reduceAdd]
            go_wp2_with fail
            exact ⟨rfl, rfl, Below.refl _ _, rfl⟩
          · intro u w9 hb9 hd9
            have e1 : u 1 = .bool true := hd9 1 (by kernel_rfl)
            clear hd9
            refine ⟨?_⟩
            simp only [Rel.canD, List.take_succ_cons, List.take_zero, Nat.reduceAdd]
            go_wp2_with fail
            exact ⟨rfl, rfl, Below.refl _ _, rfl⟩
          · intro u w9 hb9 hd9
            have e2 : u 2 = .bool true := hd9 2 (by kernel_rfl)
            clear hd9
            refine ⟨?_⟩
            simp only [Rel.canD, List.take_succ_cons, List.take_zero, Nat.reduceAdd]
            go_wp2_with fail
            exact ⟨rfl, rfl, Below.refl _ _, rfl⟩
          · intro u w9 hb9 hd9
            have e2 : u 2 = .bool true := hd9 2 (by kernel_rfl)
            have e3 : u 3 = u7 := hd9 3 (by kernel_rfl)
            clear hd9
            have s9 := (I8.out.later hb9).all I7.out.2
            refine ⟨?_⟩
            simp only [Rel.canD, List.take_succ_cons, List.take_zero, Nat.reduceAdd]
            go_wp2_with fail
            exact ⟨rfl, rfl, Below.refl _ _, rfl⟩
          · intro u w9 hb9 hd9
            have e2 : u 2 = .bool true := hd9 2 (by kernel_rfl)
            clear hd9
            refine ⟨?_⟩
            simp only [Rel.canD, List.take_succ_cons, List.take_zero, Nat.reduceAdd]
            go_wp2_with fail
            exact ⟨rfl, rfl, Below.refl _ _, rfl⟩
          · intro u w9 hb9 hd9
            have e2 : u 2 = .bool true := hd9 2 (by kernel_rfl)
            clear hd9
            refine ⟨?_⟩
            simp only [Rel.canD, List.take_succ_cons, List.take_zero, Nat.reduceAdd]
            go_wp2_with fail
            exact ⟨rfl, rfl, Below.refl _ _, rfl⟩
          · intro u w9 hb9 hd9
            have e2 : u 2 = .bool true := hd9 2 (by kernel_rfl)
            have e6 : u 6 = .slice (some ad) n cb := hd9 6 (by kernel_rfl)
            clear hd9
            refine ⟨?_⟩
            simp only [Rel.canD, List.take_succ_cons, List.take_zero, Nat.reduceAdd]
            go_wp2_with fail
            exact ⟨rfl, rfl, Below.refl _ _, rfl⟩
          · intro u w9 hb9 hd9
            have e2 : u 2 = .bool true := hd9 2 (by kernel_rfl)
            have e7 : u 7 = .int .i64 (n : Int) := hd9 7 (by kernel_rfl)
            clear hd9
            refine ⟨?_⟩
            simp only [Rel.canD, List.take_succ_cons, List.take_zero, Nat.reduceAdd]
            go_wp2_with fail
            exact ⟨rfl, rfl, Below.refl _ _, rfl⟩
          · intro u w9 hb9 hd9
            have e2 : u 2 = .bool true := hd9 2 (by kernel_rfl)
            have e5 : u 5 = .slice (some ad) n cb := hd9 5 (by kernel_rfl)
            have e8 : u 8 = .int .i64 (k : Int) := hd9 8 (by kernel_rfl)
            clear hd9
            refine ⟨?_⟩
            simp only [Rel.canD, List.take_succ_cons, List.take_zero, Nat.reduceAdd]
            go_wp2_with fail
            exact ⟨rfl, rfl, Below.refl _ _, rfl⟩
          · intro u w9 hb9 hd9
            have e2 : u 2 = .bool true := hd9 2 (by kernel_rfl)
            have e9 : u 9 = .slice (some ad) k cb := hd9 9 (by kernel_rfl)
            clear hd9
            have s9 := (IT.out.later (bt5 HB9.out hb9)).all ON.out
            refine ⟨?_⟩
            simp only [Rel.canD, List.take_succ_cons, List.take_zero, Nat.reduceAdd]
            go_wp2_with fail
            exact ⟨rfl, rfl, Below.refl _ _, rfl⟩
          · intro u w9 hb9 hd9
            have e2 : u 2 = .bool true := hd9 2 (by kernel_rfl)
            have e4 : u 4 = .string (str t) := hd9 4 (by kernel_rfl)
            have e10 : u 10 = .string (str t) := hd9 10 (by kernel_rfl)
            clear hd9
            refine ⟨?_⟩
            simp only [Rel.canD, List.take_succ_cons, List.take_zero, Nat.reduceAdd]
            go_wp2_with fail
            exact ⟨rfl, rfl, Below.refl _ _, rfl⟩
          · intro u w9 hb9 hd9
            have e2 : u 2 = .bool true := hd9 2 (by kernel_rfl)
            have e11 : u 11 = .bool true := hd9 11 (by kernel_rfl)
            clear hd9
            refine ⟨?_⟩
            simp only [Rel.canD, List.take_succ_cons, List.take_zero, Nat.reduceAdd]
            go_wp2_with fail
            exact ⟨rfl, rfl, Below.refl _ _, rfl⟩
          · intro u w9 hb9 hd9
            have e12 : u 12 = .bool true := hd9 12 (by kernel_rfl)
            clear hd9
            refine ⟨?_⟩
            simp only [Rel.canD, List.take_succ_cons, List.take_zero, Nat.reduceAdd]
            go_wp2_with fail
            exact ⟨rfl, rfl, Below.refl _ _, rfl⟩
          intro u w9 hb9 hR9
          have h13 : u 13 = .bool true := hR9 13 (by decide)
          simp only [Rel.canD, Nat.reduceAdd, h13]
          clear hR9
          have hbE := bt5 HB9.out hb9
          go_simp
          go_wp2_with fail
          go_ret
          exact ⟨rfl, hbE⟩
      · rw [if_neg hfr] at cO
        have HNE := Lib.hid (str_no (fun e : Cr.frame t = lb => hfr e.symm))
        clear hfr h4
        go_wp2_with fail
        refine cO.mono ?_
        rintro e w7 ⟨u7, rfl, hB7⟩
        have hb7 := bt5 hb6 hB7.below
        have HB7 := Lib.hid hb7
        obtain ⟨a5, c5, rfl, _⟩ := hB7.in_.1
        clear cO hB7 hb6
        go_upto_region 11 with fail
        go_cut [79] (fun u79 wx => ∃ w5, w5 = wx ∧ u79 = .bool true ∧ Below w7.heap.size w7 w5)
        case first =>
          refine Rel.region_of (by kernel_rfl) [some 70, some 71, some 72, some 73, some 74, some 75, some 76, some 77, some 78, some 79] (by kernel_rfl) (by kernel_rfl) [.eq (.slice (some ad) n cb), .eq (.slice (some ad) n cb), .eq (.int .i64 (n : Int)), .eq (.int .i64 (k : Int)), .eq (.slice (some ad) k cb), ⟨fun v w => BIn w v (Cr.frame t) ∧ NilOk v, fun _ _ _ h hb => ⟨h.1.later hb, h.2⟩⟩, .eq (.string (str (Cr.frame t))), .eq (.slice (some ad) n cb), .eq (.string (str lb)), .eq (.bool true)] ⟨?_, ?_, ?_, ?_, ?_, ?_, ?_, ?_, ?_, ?_, trivial⟩ ?_
          · intro u w9 hb9 hd9
            clear hd9
            refine ⟨?_⟩
            simp only [Rel.canD, List.take_zero]
            go_wp2_with fail
            exact ⟨rfl, rfl, Below.refl _ _, rfl⟩
          · intro u w9 hb9 hd9
            clear hd9
            refine ⟨?_⟩
            simp only [Rel.canD, List.take_succ_cons, List.take_zero, Nat.reduceAdd]
            go_wp2_with fail
            exact ⟨rfl, rfl, Below.refl _ _, rfl⟩
          · intro u w9 hb9 hd9
            have e1 : u 1 = .slice (some ad) n cb := hd9 1 (by kernel_rfl)
            clear hd9
            refine ⟨?_⟩
            simp only [Rel.canD, List.take_succ_cons, List.take_zero, Nat.reduceAdd]
            go_wp2_with fail
            exact ⟨rfl, rfl, Below.refl _ _, rfl⟩
          · intro u w9 hb9 hd9
            have e2 : u 2 = .int .i64 (n : Int) := hd9 2 (by kernel_rfl)
            clear hd9
            refine ⟨?_⟩
            simp only [Rel.canD, List.take_succ_cons, List.take_zero, Nat.reduceAdd]
            go_wp2_with fail
            exact ⟨rfl, rfl, Below.refl _ _, rfl⟩
          · intro u w9 hb9 hd9
            have e0 : u 0 = .slice (some ad) n cb := hd9 0 (by kernel_rfl)
            have e3 : u 3 = .int .i64 (k : Int) := hd9 3 (by kernel_rfl)
            clear hd9
            refine ⟨?_⟩
            simp only [Rel.canD, List.take_succ_cons, List.take_zero, Nat.reduceAdd]
            go_wp2_with fail
            exact ⟨rfl, rfl, Below.refl _ _, rfl⟩
          · intro u w9 hb9 hd9
            have e4 : u 4 = .slice (some ad) k cb := hd9 4 (by kernel_rfl)
            clear hd9
            refine ⟨?_⟩
            simp only [Rel.canD, List.take_succ_cons, List.take_zero, Nat.reduceAdd]
            go_wp2_with fail
            refine (CR2.out w9 (bt5 HB7.out hb9)).mono ?_
            rintro e w10 ⟨u10, rfl, hB10⟩
            go_wp2_with fail
            exact ⟨rfl, rfl, hB10.below, hB10.in_⟩
          · intro u w9 hb9 hd9
            have e5 : BIn w9 (u 5) (Cr.frame t) ∧ NilOk (u 5) := hd9 5 (by kernel_rfl)
            clear hd9
            have s9 := e5.1.all e5.2
            refine ⟨?_⟩
            simp only [Rel.canD, List.take_succ_cons, List.take_zero, Nat.reduceAdd]
            go_wp2_with fail
            exact ⟨rfl, rfl, Below.refl _ _, rfl⟩
          · intro u w9 hb9 hd9
            clear hd9
            refine ⟨?_⟩
            simp only [Rel.canD, List.take_succ_cons, List.take_zero, Nat.reduceAdd]
            go_wp2_with fail
            exact ⟨rfl, rfl, Below.refl _ _, rfl⟩
          · intro u w9 hb9 hd9
            have e7 : u 7 = .slice (some ad) n cb := hd9 7 (by kernel_rfl)
            clear hd9
            have s9 := (HV2.out.later (bt5 HB7.out hb9)).all HN2.out
            refine ⟨?_⟩
            simp only [Rel.canD, List.take_succ_cons, List.take_zero, Nat.reduceAdd]
            go_wp2_with fail
            exact ⟨rfl, rfl, Below.refl _ _, rfl⟩
          · intro u w9 hb9 hd9
            have e6 : u 6 = .string (str (Cr.frame t)) := hd9 6 (by kernel_rfl)
            have e8 : u 8 = .string (str lb) := hd9 8 (by kernel_rfl)
            clear hd9
            have m1 := HNE.out.1
            have m2 := HNE.out.2.1
            have m3 := HNE.out.2.2
            generalize str (Cr.frame t) = F1 at *
            generalize str lb = F2 at *
            refine ⟨?_⟩
            simp only [Rel.canD, List.take_succ_cons, List.take_zero, Nat.reduceAdd]
            go_wp2_with fail
            exact ⟨rfl, rfl, Below.refl _ _, rfl⟩
          intro u w9 hb9 hR9
          have h9 : u 9 = .bool true := hR9 9 (by decide)
          simp only [Rel.canD, Nat.reduceAdd, h9]
          clear hR9
          go_simp
          go_wp2_with fail
          go_meet
          case rel => exact ⟨_, rfl, rfl, hb9⟩
        case rest =>
          obtain ⟨w8, rfl, rfl, hb8⟩ := hcut
          have hb9 := bt5 hb7 hb8
          clear hb7 hb8 HB7
          go_wp2_with fail
          go_ret
          exact ⟨rfl, hb9⟩
end Go.Proofs.YtkmefpeplpllhaaDoor
