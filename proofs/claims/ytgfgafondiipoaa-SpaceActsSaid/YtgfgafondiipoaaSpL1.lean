/- The document's Same of extents; the law's example over the pack. -/
import Derived.Test.YtgfgafondiipoaaSpP
import Derived.BigQuiet
import Derived.LoopTactic
namespace Go.Proofs.Ytgfgafondiipoaa
open Go.RowKit

theorem etk_eq (a b : List Sp.Ext) (k : Nat) (h1 : k < a.length) (h2 : k < b.length) (h : a.take k = b.take k) (he : a[k] = b[k]) : a.take (k + 1) = b.take (k + 1) := by
  rw [List.take_add_one, List.take_add_one, h, List.getElem?_eq_getElem h1, List.getElem?_eq_getElem h2, he]
theorem ext_eq {a b : Sp.Ext} (h1 : a.1 = b.1) (h2 : a.2 = b.2) : a = b := Prod.ext h1 h2
set_option maxHeartbeats 1600000 in
set_option maxRecDepth 100000 in
theorem Same_w {F G : Nat → Prop} (va vb : Value) (la lb : List Sp.Ext) (w : World) (ha : EsOut F w va la) (hb : EsOut G w vb lb) :
    Calls Try.prog 15 #[va, vb] w fun e w' => e = .returned (.bool (decide (la = lb))) ∧ Below w.heap.size w w' := by
  obtain ⟨aa, ca, rfl, hca, hca9, hga⟩ := ha
  obtain ⟨ab, cb, rfl, hcb, hcb9, hgb⟩ := hb
  have GA := Lib.hid hga
  have GB := Lib.hid hgb
  obtain ⟨n, hn⟩ : ∃ n, n = la.length := ⟨_, rfl⟩
  obtain ⟨m, hm⟩ : ∃ m, m = lb.length := ⟨_, rfl⟩
  have HN := Lib.hid hn
  have HM := Lib.hid hm
  rw [← hn] at hca ⊢
  rw [← hm] at hcb ⊢
  clear hga hgb hn hm
  by_cases hnm : n = m
  · subst hnm
    go_enter Try.func15, Try.ntmps15
    go_wp2_with fail
    go_loopw [5] (fun i wr => ∃ k : Nat, k ≤ n ∧ i = .int .i64 k ∧ Hid (la.take k = lb.take k) ∧ Below w.heap.size w wr) (fun i _ => n - (intOf i).toNat)
    case atStart => exact ⟨0, Nat.zero_le _, rfl, Lib.hid rfl, Below.refl _ _⟩
    case round =>
      obtain ⟨k, hk, rfl, HE, hbr⟩ := hrel
      by_cases hlt : k < n
      · have hki : (k : Int) < n := by omega
        obtain ⟨b1, o1, hx1, hl1, _, hc1⟩ := GA.out.resolve_left (fun x => by have := HN.out; rw [x] at this; simp at this; omega)
        obtain ⟨b2, o2, hx2, hl2, _, hc2⟩ := GB.out.resolve_left (fun x => by have := HM.out; rw [x] at this; simp at this; omega)
        subst hx1 hx2
        have k1 : k < la.length := by rw [← HN.out]; exact hlt
        have k2 : k < lb.length := by rw [← HM.out]; exact hlt
        have f1 := cell_later hbr (hc1 k k1).1
        have f2 := cell_later hbr (hc1 k k1).2
        have f3 := cell_later hbr (hc2 k k2).1
        have f4 := cell_later hbr (hc2 k k2).2
        have HTK := Lib.hid (etk_eq la lb k k1 k2 HE.out)
        have HNQ := Lib.hid (fun (h : la[k] ≠ lb[k]) (e : la = lb) => h (by subst e; rfl))
        clear hc1 hc2
        generalize la[k] = x1 at *
        generalize lb[k] = x2 at *
        obtain ⟨p1, p2⟩ := x1
        obtain ⟨p3, p4⟩ := x2
        simp only at f1 f2 f3 f4
        by_cases h1 : p1 = p3
        · by_cases h2 : p2 = p4
          · subst h1 h2
            go_upto_region 6 with fail
            go_quiet (fail)
            have hbq : Below wr.heap.size wr (wr.drewN nq) := ⟨rfl, rfl, rfl, Nat.le_refl _, fun _ _ => rfl⟩
            have hb2 := bt5 hbr hbq
            generalize wr.drewN nq = w5 at hb2 ⊢
            clear f1 f2 f3 f4 hbq hbr HNQ
            go_wp2_with fail
            go_roundw
            case rel => exact ⟨k + 1, by omega, by go_num, Lib.hid (HTK.out rfl), hb2⟩
            case measure => simp [intOf]; omega
          · subst h1
            have HD := Lib.hid (decide_eq_false (HNQ.out (fun e => h2 (by injection e))))
            go_upto_region 6 with fail
            go_quiet (fail)
            have hbq : Below wr.heap.size wr (wr.drewN nq) := ⟨rfl, rfl, rfl, Nat.le_refl _, fun _ _ => rfl⟩
            have hb2 := bt5 hbr hbq
            generalize wr.drewN nq = w5 at hb2 ⊢
            clear f1 f2 f3 f4 hbq hbr HNQ
            go_wp2_with fail
            go_ret
            exact ⟨by rw [HD.out]; rfl, hb2⟩
        · have HD := Lib.hid (decide_eq_false (HNQ.out (fun e => h1 (by injection e))))
          go_upto_region 6 with fail
          go_quiet (fail)
          have hbq : Below wr.heap.size wr (wr.drewN nq) := ⟨rfl, rfl, rfl, Nat.le_refl _, fun _ _ => rfl⟩
          have hb2 := bt5 hbr hbq
          generalize wr.drewN nq = w5 at hb2 ⊢
          clear f1 f2 f3 f4 hbq hbr HNQ
          go_wp2_with fail
          go_ret
          exact ⟨by rw [HD.out]; rfl, hb2⟩
      · have hki : ¬ (k : Int) < n := by omega
        obtain rfl : k = n := by omega
        have hHE := HE.out
        rw [List.take_of_length_le (by rw [← HN.out]; exact Nat.le_refl _), List.take_of_length_le (by rw [← HM.out]; exact Nat.le_refl _)] at hHE
        clear GA GB
        go_wp2_with fail
        go_ret
        exact ⟨rfl, hbr⟩
  · have hnm' : ¬ (n : Int) = m := by omega
    have HD : Hid (decide (la = lb) = false) := Lib.hid (decide_eq_false (fun e => hnm (by rw [HN.out, HM.out, e])))
    clear GA GB
    go_enter Try.func15, Try.ntmps15
    go_wp2_with fail
    go_ret
    exact ⟨by rw [HD.out]; rfl, Below.refl _ _⟩

section
variable {Env : World → Prop} {MD : World → Nat → Sp.M → (Nat → Prop) → Prop}
theorem i64_of {x : Int} (h : -9223372036854775808 ≤ x := by decide) (h' : x ≤ 9223372036854775807 := by decide) : I64 x := ⟨h, h'⟩
set_option maxHeartbeats 6400000 in
set_option maxRecDepth 100000 in
theorem awake16 (P : Prog16 Env MD) (W : World) (hE : Env W) :
    Calls Try.prog 7 #[] W fun e w' => e = .returned (.bool true) ∧ Below W.heap.size W w' := by
  have HE := Lib.hid (fun (w : World) (hb : Below W.heap.size W w) => P.env hE hb)
  have HP := Lib.hid P
  have c0 := P.new 10 W (by decide) (by decide) hE
  clear hE P
  go_enter Try.func7, Try.ntmps7
  go_wp2_with fail
  refine c0.mono ?_
  rintro e w1 ⟨q, F1, rfl, hM1, hb1, hF1⟩
  have S1 := Lib.hid (show Side W w1 (fun w F => MD w q (Sp.new 10) F) F1 from ⟨hM1, hF1, hb1⟩)
  have c1 := HP.out.take q (Sp.new 10) F1 4 w1 hM1 (by decide) i64_of (HE.out w1 hb1)
  rw [show Sp.take 4 (Sp.new 10) = (Sp.firsts 10 4, (0, 4), true) from by decide] at c1
  clear c0 hM1 hb1 hF1
  go_wp2_with fail
  refine c1.mono ?_
  rintro e w2 ⟨F2, rfl, hM2, ht2, hm2⟩
  have S2 := Lib.hid (show Side W w2 (fun w F => MD w q (Sp.firsts 10 4) F) F2 from S1.out.step hM2 ht2 hm2)
  have hl2 := HP.out.lt S2.out.thing
  have hb3 : Below w2.heap.size w2 (w2.alloc (.cells #[.int .i64 0, .int .i64 4] 35)) := (Below.refl _ w2).alloc (Nat.le_refl _) _
  have S3 := Lib.hid (S2.out.later (fun h hs hk => HP.out.keep h hs hk) hl2 hb3)
  have B3 := Lib.hid (Bx.made (F := F2) w2 0 4 hl2)
  have c3 := HP.out.take q (Sp.firsts 10 4) F2 4 _ S3.out.thing (by decide) i64_of (HE.out _ S3.out.below)
  rw [show Sp.take 4 (Sp.firsts 10 4) = (Sp.firsts 10 8, (4, 4), true) from by decide] at c3
  clear c1 hM2 ht2 hm2 hl2 hb3 S1 S2
  unfold ext
  go_wp2_with fail
  obtain ⟨ga, hga⟩ : ∃ ga, ga = w2.heap.size := ⟨_, rfl⟩
  rw [← hga] at B3 ⊢
  clear hga
  generalize w2.alloc _ = w3 at c3 S3 B3 ⊢
  refine c3.mono ?_
  rintro e w4 ⟨F4, rfl, hM4, ht4, hm4⟩
  have S4 := Lib.hid (show Side W w4 (fun w F => MD w q (Sp.firsts 10 8) F) F4 from S3.out.step hM4 ht4 hm4)
  have B4 := Lib.hid (B3.out.touch ht4 hm4)
  have hl4 := HP.out.lt S4.out.thing
  have hb5 : Below w4.heap.size w4 (w4.alloc (.cells #[.int .i64 4, .int .i64 4] 35)) := (Below.refl _ w4).alloc (Nat.le_refl _) _
  have S5 := Lib.hid (S4.out.later (fun h hs hk => HP.out.keep h hs hk) hl4 hb5)
  have B5 := Lib.hid (B4.out.later hb5)
  have D5 := Lib.hid (Bx.made (F := F4) w4 4 4 hl4)
  have f1 := B5.out.c0
  have f2 := B5.out.c1
  have f3 := D5.out.c0
  have f4 := D5.out.c1
  clear c3 hM4 ht4 hm4 hl4 hb5 S3 S4 B3 B4
  unfold ext
  go_upto_region 6 with fail
  obtain ⟨gb, hgb⟩ : ∃ gb, gb = w4.heap.size := ⟨_, rfl⟩
  rw [← hgb] at D5 f3 f4 ⊢
  clear hgb
  generalize w4.alloc _ = w5 at S5 B5 D5 f1 f2 f3 f4 ⊢
  have hl5 := HP.out.lt S5.out.thing
  have hb6 : Below w5.heap.size w5 (w5.alloc (.cells #[.int .i64 0, .int .i64 4] 35)) := (Below.refl _ w5).alloc (Nat.le_refl _) _
  have S6 := Lib.hid (S5.out.later (fun h hs hk => HP.out.keep h hs hk) hl5 hb6)
  have c6 := HP.out.give q (Sp.firsts 10 8) F4 _ [(0, 4)] _ S6.out.thing (by decide) (es_one w5 0 4 hl5) (fun e he => by rw [List.mem_singleton.1 he]; exact ⟨i64_of, i64_of⟩) (by decide) (HE.out _ S6.out.below)
  rw [Sp.exam_give] at c6
  clear hl5 hb6 S5
  go_wp2_with fail
  refine c6.mono ?_
  rintro e w7 ⟨F7, rfl, hM7, ht7, hm7⟩
  have S7 := Lib.hid (show Side W w7 (fun w F => MD w q Sp.exam F) F7 from S6.out.step hM7 ht7 hm7)
  have c7 := HP.out.take q Sp.exam F7 3 w7 hM7 (by decide) i64_of (HE.out _ S7.out.below)
  rw [show Sp.take 3 Sp.exam = (Sp.exam, (0, 0), false) from by decide] at c7
  clear c6 hM7 ht7 hm7 S6 B5 D5 f1 f2 f3 f4
  go_wp2_with fail
  refine c7.mono ?_
  rintro e w8 ⟨F8, rfl, hM8, ht8, hm8⟩
  have S8 := Lib.hid (show Side W w8 (fun w F => MD w q Sp.exam F) F8 from S7.out.step hM8 ht8 hm8)
  have hb9 : Below w8.heap.size w8 (w8.alloc (.cells #[.int .i64 0, .int .i64 0] 35)) := (Below.refl _ w8).alloc (Nat.le_refl _) _
  have S9 := Lib.hid (S8.out.later (fun h hs hk => HP.out.keep h hs hk) (HP.out.lt S8.out.thing) hb9)
  have c9 := HP.out.commit q Sp.exam F8 _ S9.out.thing (by decide) (HE.out _ S9.out.below)
  clear c7 hM8 ht8 hm8 S7 S8 hb9
  unfold ext
  go_wp2_with fail
  refine c9.mono ?_
  rintro e w10 ⟨F10, x10, rfl, hM10, ht10, hm10⟩
  have S10 := Lib.hid (show Side W w10 (fun w F => MD w q (Sp.commit Sp.exam) F) F10 from S9.out.step hM10 ht10 hm10)
  have c10 := HP.out.pieces q (Sp.commit Sp.exam) F10 6 2 w10 hM10 (by decide) i64_of i64_of (HE.out _ S10.out.below)
  rw [show Sp.pieces 6 2 (Sp.commit Sp.exam) = ((Sp.pieces 6 2 (Sp.commit Sp.exam)).1, [(0, 4), (8, 2)], true) from by decide] at c10
  clear c9 hM10 ht10 hm10 S9
  go_wp2_with fail
  refine c10.mono ?_
  rintro e w11 ⟨F11, v11, rfl, hM11, ht11, hm11, hv11, -⟩
  have S11 := Lib.hid (show Side W w11 (fun w F => MD w q _ F) F11 from S10.out.step hM11 ht11 hm11)
  have hb12 : Below w11.heap.size w11 (w11.alloc (.cells #[.int .i64 0, .int .i64 4, .int .i64 8, .int .i64 2] 35)) := (Below.refl _ w11).alloc (Nat.le_refl _) _
  have hes := es_lit (F := F11) w11 #[.int .i64 0, .int .i64 4, .int .i64 8, .int .i64 2] 35 [(0, 4), (8, 2)] 2 rfl (by decide) (HP.out.lt S11.out.thing) (fun k hk => by
    match k, hk with
    | 0, _ => exact ⟨rfl, rfl⟩
    | 1, _ => exact ⟨rfl, rfl⟩)
  have cS := Same_w _ _ _ _ _ (hv11.later hb12) hes
  rw [decide_eq_true (by decide)] at cS
  have HB12 := Lib.hid (bt5 S11.out.below hb12)
  clear c10 hM11 ht11 hm11 S10 hb12 hes hv11
  go_wp2_with fail
  refine cS.mono ?_
  rintro e w13 ⟨rfl, hb13⟩
  have HB13 := Lib.hid (bt5 HB12.out hb13)
  clear cS hb13
  go_wp2_with fail
  go_ret
  exact ⟨rfl, HB13.out⟩
end
end Go.Proofs.Ytgfgafondiipoaa
