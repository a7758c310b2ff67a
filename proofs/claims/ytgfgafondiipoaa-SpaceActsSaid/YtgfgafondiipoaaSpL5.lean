/- The law SpaceActs over the pack. -/
import Derived.Test.YtgfgafondiipoaaSpL4
import Derived.Test.YtgfgafondiipoaaSpM
import Derived.Deep.RegionHeld3
namespace Go.Proofs.Ytgfgafondiipoaa
open Go.RowKit
theorem load_exts {w : World} {g k : Nat} {x : Option Addr} {l c : Nat} (h : w.cell? ⟨g, k, none⟩ = some (.slice x l c)) : (Instr.loadAt 31 (.pointer (some ⟨g, k, none⟩))).run Try.prog w = .ok (.slice x l c) w := by go_simp
section
variable {Env : World → Prop} {MD : World → Nat → Sp.M → (Nat → Prop) → Prop}
set_option maxHeartbeats 12800000 in
set_option maxRecDepth 100000 in
theorem acts16 (P : Prog16 Env MD) (sz : Int) (va : Value) (acts : List ActV) (W : World) (hsz : I64 sz) (hin : ActsIn W va acts) (hE : Env W) :
    Calls Try.prog 3 #[.int .i64 sz, va] W fun e w' => e = .returned (.bool true) ∧ Below W.heap.size W w' := by
  have HE := Lib.hid (fun (w : World) (hb : Below W.heap.size W w) => P.env hE hb)
  have HP := Lib.hid P
  have HA := Lib.hid (fun (w : World) (hb : Below W.heap.size W w) => awake16 P w (P.env hE hb))
  have hww : Below W.heap.size W W := Below.refl _ _
  obtain ⟨aa, ca, rfl, hla, hca, hga⟩ := hin
  obtain ⟨L, hL⟩ : ∃ L, L = acts.length := ⟨_, rfl⟩
  have HL := Lib.hid hL
  have HG := Lib.hid hga
  rw [← hL] at hla ⊢
  clear hE hL hga P
  have c0 := HA.out W hww
  by_cases h60 : (60 : Int) < L
  · clear hsz
    go_enter Try.func3, Try.ntmps3
    go_wp2_with fail
    refine c0.mono ?_
    rintro e w1 ⟨rfl, hb1⟩
    have c1 := HA.out w1 hb1
    have H1 := Lib.hid hb1
    clear c0 hb1
    go_wp2_with fail
    refine c1.mono ?_
    rintro e w2 ⟨rfl, hb2⟩
    have H2 := Lib.hid (bt5 H1.out hb2)
    clear c1 hb2
    go_wp2_with fail
    go_ret
    exact ⟨rfl, H2.out⟩
  by_cases hs : 1 ≤ sz ∧ sz ≤ 65536
  · obtain ⟨N, rfl⟩ : ∃ N : Nat, sz = N := ⟨sz.toNat, by omega⟩
    have n1 : ¬ (N : Int) < 1 := by omega
    have n2 : ¬ (65536 : Int) < N := by omega
    have hN2 : N ≤ 65536 := by omega
    go_enter Try.func3, Try.ntmps3
    go_wp2_with fail
    refine c0.mono ?_
    rintro e w1 ⟨rfl, hb1⟩
    have H1 := Lib.hid hb1
    have c1 := HP.out.new N w1 hs.1 hs.2 (HE.out w1 hb1)
    rw [Int.toNat_natCast] at c1
    clear c0 hb1 hsz hs
    go_wp2_with fail
    refine c1.mono ?_
    rintro e w2 ⟨q, F2, rfl, hM2, hb2, hF2⟩
    have S2 := Lib.hid (show Side W w2 (fun w F => MD w q (Sp.new N) F) F2 from ⟨hM2, fun k hk => Nat.le_trans H1.out.size (hF2 k hk), bt5 H1.out hb2⟩)
    have hnl : (Sp.new N).length = N := List.length_replicate ..
    have cF := HP.out.free q (Sp.new N) F2 w2 S2.out.thing (by rw [hnl]; exact hN2) (HE.out _ S2.out.below)
    rw [Sp.new_free] at cF
    clear c1 hM2 hb2 hF2 hww h60 H1
    go_wp2_with fail
    refine cF.mono ?_
    rintro e w3 ⟨F3, rfl, hM3, ht3, hm3⟩
    have S3 := Lib.hid (show Side W w3 (fun w F => MD w q (Sp.new N) F) F3 from S2.out.step hM3 ht3 hm3)
    clear cF hM3 ht3 hm3 S2
    by_cases h300 : (300 : Int) < N
    · have hbw := S3.out.below
      go_wp2_with fail
      go_ret
      exact ⟨rfl, hbw⟩
    have cR := rNew_w w3 N hN2
    go_wp2_with fail
    refine cR.mono ?_
    rintro e w4 ⟨q2, bs, bw, rfl, hR4, hb4, hF4⟩
    have HX0 : Hid (Both MD W w4 q q2 bs bw (Sp.new N) (Sp.new N) F3) := Lib.hid ⟨HP.out.keep S3.out.thing hb4.size (fun k hk => hb4.block k (HP.out.lt S3.out.thing k hk)), hR4, fun k hk hr => by have := HP.out.lt S3.out.thing k hk; have := hF4 k hr; omega, S3.out.high, fun k hk => Nat.le_trans S3.out.below.size (hF4 k hk), bt5 S3.out.below hb4⟩
    have HN : Hid (N ≤ 300) := Lib.hid (by omega)
    have HNL := Lib.hid hnl
    clear cR hR4 hb4 hF4 S3 hN2 hnl
    go_upto_region 12 with fail
    go_loopw [8] (fun vi wr => ∃ (i : Nat) (F : Nat → Prop) (m : Sp.M), i ≤ L ∧ vi = .int .i64 i ∧ Hid (m.length = N) ∧ Hid (Both MD W wr q q2 bs bw m m F)) (fun vi _ => L - (intOf vi).toNat)
    case atStart => exact ⟨0, F3, _, Nat.zero_le _, rfl, HNL, HX0⟩
    case round =>
      clear HX0 HNL
      obtain ⟨i, F, m, hi, rfl, HML, HX⟩ := hrel
      by_cases hlt : i < L
      · have hji : (i : Int) < L := by omega
        have hjl : i < acts.length := by rw [← HL.out]; exact hlt
        obtain ⟨b, o, hao, hbW, hin⟩ := HG.out.resolve_left (fun e => by rw [e] at hjl; cases hjl)
        subst hao
        have hI := hin i hjl
        obtain ⟨A, hA⟩ : ∃ A, A = acts[i] := ⟨_, rfl⟩
        rw [← hA] at hI
        clear hA hin
        obtain ⟨kd, an, mo, es, ve⟩ := A
        have hcame : EsCame W ve es := hI.came
        have HWORDS : Hid (I64 an ∧ I64 mo) := Lib.hid hI.words
        have HC := Lib.hid hcame
        have hbl := HX.out.below
        have c0 : wr.cell? ⟨b, o + i * 4, none⟩ = some (.int .i64 kd) := cell_later hbl hI.c0
        have c1 : wr.cell? ⟨b, o + i * 4 + 1, none⟩ = some (.int .i64 an) := cell_later hbl hI.c1
        have c2 : wr.cell? ⟨b, o + i * 4 + 2, none⟩ = some (.int .i64 mo) := cell_later hbl hI.c2
        have c3 : wr.cell? ⟨b, o + i * 4 + 3, none⟩ = some ve := cell_later hbl hI.c3
        obtain ⟨_, ae, ce, hve, hle, hce, -⟩ := hcame
        obtain ⟨le, hle9⟩ : ∃ le, le = es.length := ⟨_, rfl⟩
        rw [← hle9] at hve hle
        have HLE := Lib.hid hle9
        subst hve
        clear hI hbl hle9 hbW hjl
        go_upto_region 15 with fail
        have hb9 : Below wr.heap.size wr (wr.alloc (.cells #[.int .i64 kd, .int .i64 an, .int .i64 mo, .slice ae le ce] 33)) := (Below.refl _ wr).alloc (Nat.le_refl _) _
        have hr9 := heap_alloc_new wr (.cells #[.int .i64 kd, .int .i64 an, .int .i64 mo, .slice ae le ce] 33)
        generalize wr.alloc (.cells #[.int .i64 kd, .int .i64 an, .int .i64 mo, .slice ae le ce] 33) = wa at hb9 hr9 ⊢
        obtain ⟨t, ht⟩ : ∃ t, t = wr.heap.size := ⟨_, rfl⟩
        have HDU : Hid (Duo MD W wa q q2 bs bw t (Obj.cells #[.int .i64 kd, .int .i64 an, .int .i64 mo, .slice ae le ce] 33 (0, 0)) m m F) := Lib.hid ⟨HX.out.later HP.out hb9, by rw [ht]; exact hr9, fun hf => by have := HP.out.lt HX.out.pd t hf; omega, fun hf => by have := HX.out.rd.lt t hf; omega⟩
        rw [← ht] at ⊢
        clear c0 c1 c2 c3 hb9 hr9 ht HX
        have e0 : wa.cell? ⟨t, 0, none⟩ = some (.int .i64 kd) := (blk_cell HDU.out.blk 0 _ rfl).1
        have e1 : wa.cell? ⟨t, 1, none⟩ = some (.int .i64 an) := (blk_cell HDU.out.blk 1 _ rfl).1
        have e2 : wa.cell? ⟨t, 2, none⟩ = some (.int .i64 mo) := (blk_cell HDU.out.blk 2 _ rfl).1
        have e3 : wa.cell? ⟨t, 3, none⟩ = some (.slice ae le ce) := (blk_cell HDU.out.blk 3 _ rfl).1
        by_cases h20 : (20 : Int) < le
        · have hbw := HDU.out.both.below
          go_wp2_with fail
          go_ret
          exact ⟨rfl, hbw⟩
        have HES : Hid (es.length ≤ 1000) := Lib.hid (by rw [← HLE.out]; omega)
        have HLL : Hid (m.length ≤ 65536) := Lib.hid (by rw [HML.out]; have := HN.out; omega)
        go_upto_block 2 with fail
        go_cut [10, 11, 12, 13, 14, 15, 16, 17] (fun _ _ _ _ _ _ _ _ wx => ∃ m2 F2, Hid (m2.length = N) ∧ Hid (Both MD W wx q q2 bs bw m2 m2 F2))
        case rest =>
          obtain ⟨m2, F2, HM2, HXE⟩ := hcut
          have hl2 : m2.length ≤ 65536 := by rw [HM2.out]; have := HN.out; omega
          have c1 := HP.out.free q m2 F2 wc HXE.out.pd hl2 (HE.out _ HXE.out.below)
          clear HDU e0 e1 e2 e3
          go_wp2_with fail
          refine c1.mono ?_
          rintro e x1 ⟨Fa, rfl, hMa, hta, hma⟩
          have Xa := Lib.hid (HXE.out.left hMa hta hma)
          have c2 := rFree_w x1 q2 bs bw m2 Xa.out.rd
          clear c1 hMa hta hma HXE
          go_wp2_with fail
          refine c2.mono ?_
          rintro e x2 ⟨rfl, hb2⟩
          have Xb := Lib.hid (Xa.out.later HP.out hb2)
          have c3 := HP.out.waiting q m2 Fa x2 Xb.out.pd hl2 (HE.out _ Xb.out.below)
          clear c2 hb2 Xa
          go_wp2_with fail
          refine c3.mono ?_
          rintro e x3 ⟨Fb, rfl, hMb, htb, hmb⟩
          have Xc := Lib.hid (Xb.out.left hMb htb hmb)
          have c4 := rWaiting_w x3 q2 bs bw m2 Xc.out.rd
          clear c3 hMb htb hmb Xb
          go_wp2_with fail
          refine c4.mono ?_
          rintro e x4 ⟨rfl, hb4⟩
          have Xd := Lib.hid (Xc.out.later HP.out hb4)
          have c5 := HP.out.runs q m2 Fb x4 Xd.out.pd hl2 (HE.out _ Xd.out.below)
          clear c4 hb4 Xc
          go_wp2_with fail
          refine c5.mono ?_
          rintro e x5 ⟨Fc, v5, rfl, hMc, htc, hmc, hE5⟩
          have Xe := Lib.hid (Xd.out.left hMc htc hmc)
          have E5 := Lib.hid hE5
          have c6 := rRuns_w x5 q2 bs bw m2 Xe.out.rd
          clear c5 hMc htc hmc hE5 Xd
          go_wp2_with fail
          refine c6.mono ?_
          rintro e x6 ⟨v6, rfl, hb6, hE6⟩
          have cS := Same_w v5 v6 _ _ x6 (E5.out.later hb6) hE6.out
          rw [decide_eq_true rfl] at cS
          have Xf := Lib.hid (Xe.out.later HP.out hb6)
          clear c6 hb6 hE6 E5 Xe
          go_wp2_with fail
          refine cS.mono ?_
          rintro e x7 ⟨rfl, hb7⟩
          have Xg := Lib.hid (Xf.out.later HP.out hb7)
          clear cS hb7 Xf hl2
          go_wp2_with fail
          go_roundw
          case rel => exact ⟨i + 1, _, m2, by omega, by go_num, HM2, Xg⟩
          case measure => simp [intOf]; omega
        by_cases d0 : kd = 0
        · subst d0
          have cP := HP.out.take q m F an wa HDU.out.both.pd HLL.out HWORDS.out.1 (HE.out _ HDU.out.both.below)
          obtain ⟨M, hM⟩ : ∃ M, M = Sp.take an m := ⟨_, rfl⟩
          have hml : M.1.length = N := by rw [hM, Sp.take_length]; exact HML.out
          rw [← hM] at cP
          have HM := Lib.hid hM
          clear hM
          obtain ⟨m', ⟨xa, xn⟩, ok⟩ := M
          have HLM := Lib.hid hml
          clear hml e2 e3
          go_wp2_with fail
          refine cP.mono ?_
          rintro e w1 ⟨F1, rfl, hM1, ht1, hm1⟩
          have D1 := Lib.hid (HDU.out.left hM1 ht1 hm1)
          have hb2 : Below w1.heap.size w1 (w1.alloc (.cells #[.int .i64 xa, .int .i64 xn] 35)) := (Below.refl _ w1).alloc (Nat.le_refl _) _
          have B2 := Lib.hid (Bx.made (F := Own3 F1 q2 bs bw t) w1 xa xn (D1.out.lt3 HP.out))
          have D2 := Lib.hid (D1.out.later HP.out hb2)
          clear cP hM1 ht1 hm1 D1 hb2 HDU e1
          unfold ext
          obtain ⟨ga, hga⟩ : ∃ ga, ga = w1.heap.size := ⟨_, rfl⟩
          go_upto_region 20 with fail
          rw [← hga] at B2 ⊢
          clear hga
          generalize w1.alloc _ = w2 at B2 D2 ⊢
          have e1 : w2.cell? ⟨t, 1, none⟩ = some (.int .i64 an) := (blk_cell D2.out.blk 1 _ rfl).1
          have cR := rTake_w w2 q2 bs bw m an D2.out.both.rd
          rw [← HM.out] at cR
          go_wp2_with fail
          refine cR.mono ?_
          rintro e w3 ⟨rfl, hR3, ht3⟩
          have D3 := Lib.hid (D2.out.right HP.out hR3 ht3)
          have B3 := Lib.hid (B2.out.touch (ht3.mono (fun _ _ h => .inr (.inl h))) (fun _ h => .inl h))
          have hb4 : Below w3.heap.size w3 (w3.alloc (.cells #[.int .i64 xa, .int .i64 xn] 35)) := (Below.refl _ w3).alloc (Nat.le_refl _) _
          have C4 := Lib.hid (Bx.made (F := Own3 F1 q2 bs bw t) w3 xa xn (D3.out.lt3 HP.out))
          have D4 := Lib.hid (D3.out.later HP.out hb4)
          have B4 := Lib.hid (B3.out.later hb4)
          clear cR hR3 ht3 hb4 D2 D3 B2 B3 e1
          unfold ext
          obtain ⟨gb, hgb⟩ : ∃ gb, gb = w3.heap.size := ⟨_, rfl⟩
          go_upto_region 21 with fail
          rw [← hgb] at C4 ⊢
          clear hgb
          generalize w3.alloc _ = w4 at B4 C4 D4 ⊢
          have g1 := B4.out.c0
          have g2 := B4.out.c1
          have g3 := C4.out.c0
          have g4 := C4.out.c1
          have HXE := Lib.hid D4.out.both
          clear B4 C4 D4
          go_wp2_with fail
          go_meet
          case rel => exact ⟨_, _, HLM, HXE⟩
        by_cases d1 : kd = 1
        · subst d1
          have cP := HP.out.pieces q m F an mo wa HDU.out.both.pd HLL.out HWORDS.out.1 HWORDS.out.2 (HE.out _ HDU.out.both.below)
          obtain ⟨M, hM⟩ : ∃ M, M = Sp.pieces an mo m := ⟨_, rfl⟩
          have hml : M.1.length = N := by rw [hM, Sp.pieces_length]; exact HML.out
          rw [← hM] at cP
          have HM := Lib.hid hM
          clear hM
          obtain ⟨m', ls, ok⟩ := M
          have HLM := Lib.hid hml
          clear hml e3
          go_wp2_with fail
          refine cP.mono ?_
          rintro e w1 ⟨F1, v1, rfl, hM1, ht1, hm1, hE1, hnew⟩
          have D1 := Lib.hid (HDU.out.left hM1 ht1 hm1)
          have E1 := Lib.hid hE1
          have HNEW : Hid (∀ b, v1.ownBlock = some b → ¬ RF q2 bs bw b) := Lib.hid (fun b hb hr => by have := hnew b hb; have := HDU.out.both.rd.lt b hr; omega)
          have cR := rPieces_w w1 q2 bs bw m an mo D1.out.both.rd
          rw [← HM.out] at cR
          clear cP hM1 ht1 hm1 hE1 hnew HDU e1 e2
          have e1 : w1.cell? ⟨t, 1, none⟩ = some (.int .i64 an) := (blk_cell D1.out.blk 1 _ rfl).1
          have e2 : w1.cell? ⟨t, 2, none⟩ = some (.int .i64 mo) := (blk_cell D1.out.blk 2 _ rfl).1
          go_wp2_with fail
          refine cR.mono ?_
          rintro e w3 ⟨v3, rfl, hR3, ht3, hE3⟩
          have D3 := Lib.hid (D1.out.right HP.out hR3 ht3)
          have E3 := Lib.hid (E1.out.other ht3 HNEW.out)
          have cS := Same_w v1 v3 _ _ w3 E3.out hE3
          rw [decide_eq_true rfl] at cS
          clear cR hR3 ht3 hE3 D1 E1 E3 HNEW e1 e2
          go_wp2_with fail
          refine cS.mono ?_
          rintro e w5 ⟨rfl, hb5⟩
          have HXE := Lib.hid (D3.out.later HP.out hb5).both
          clear cS hb5 D3
          go_wp2_with fail
          go_meet
          case rel => exact ⟨_, _, HLM, HXE⟩
        by_cases d2 : kd = 2
        · subst d2
          obtain ⟨M, hM⟩ : ∃ M, M = Sp.hold es m := ⟨_, rfl⟩
          have hml : M.1.length = N := by rw [hM, Sp.hold_length]; exact HML.out
          have HM := Lib.hid hM
          clear hM
          obtain ⟨m', ok⟩ := M
          have HLM := Lib.hid hml
          clear hml e1 e2
          have HPH : Hid (∀ v w, MD w q m F → EsOut F w v es → Below W.heap.size W w → Calls Try.prog 16 #[.pointer (some ⟨q, 0, none⟩), v] w fun e w' => ∃ F', e = .returned (.bool ok) ∧ MD w' q m' F' ∧ Touch F w w' ∧ More F F' w) := Lib.hid (fun v w h1 h2 h3 => by
            have := HP.out.hold q m F v es w h1 HLL.out h2 HC.out.1 HES.out (HE.out _ h3)
            rw [← HM.out] at this
            exact this)
          have HRH : Hid (∀ w, RD w q2 bs bw m → (∀ k, RF q2 bs bw k → W.heap.size ≤ k) → Below W.heap.size W w → Calls Try.prog 17 #[.pointer (some ⟨q2, 0, none⟩), .slice ae le ce] w fun e w' => e = .returned (.bool ok) ∧ RD w' q2 bs bw m' ∧ Touch (RF q2 bs bw) w w') := Lib.hid (fun w h1 h2 h3 => by
            have := rHold_w w q2 bs bw m (.slice ae le ce) es h1 (HC.out.out h2 h3) HC.out.1 HES.out
            rw [← HM.out] at this
            exact this)
          go_upto_region 29 with fail
          go_cut [140] (fun u wx => u = .bool false ∧ ∃ m2 F2, Hid (m2.length = N) ∧ Hid (Both MD W wx q q2 bs bw m2 m2 F2))
          case first =>
            refine wp_region_noPanic ?_
            refine wp_region_held (S := fun W9 => W9.cell? ⟨t, 3, none⟩ = some (.slice ae le ce)) (by kernel_rfl) ?_
            change wpAnyH _ _ _ _ _ _ _ _ wa.drew
            have hb0 : Below wa.heap.size wa wa.drew := (Below.refl _ wa).drew
            have HT4 := Lib.hid (HDU.out.later HP.out hb0)
            generalize wa.drew = w4 at HT4 ⊢
            clear hb0 HDU e3
            have s0 : w4.cell? ⟨t, 3, none⟩ = some (.slice ae le ce) := (blk_cell HT4.out.blk 3 _ rfl).1
            refine held_of_takes (fuel := 5) (by kernel_rfl) (fun _ _ _ _ _ h => h) s0 [0, 2, 3, 6, 7, 8] _ _ (by kernel_rfl) ?_
            refine Takes.val (.pointer (some ⟨q, 0, none⟩)) rfl rfl (fun _ _ => by kernel_rfl) ?_
            refine Takes.val (.pointer (some ⟨t, 3, none⟩)) rfl rfl (fun _ _ => by kernel_rfl) ?_
            refine Takes.val (.slice ae le ce) rfl rfl (fun W9 h9 => exec_load (s := 132) rfl (by kernel_rfl) (load_exts h9)) ?_
            refine Takes.val (.pointer (some ⟨q2, 0, none⟩)) rfl rfl (fun _ _ => by kernel_rfl) ?_
            refine Takes.val (.pointer (some ⟨t, 3, none⟩)) rfl rfl (fun _ _ => by kernel_rfl) ?_
            refine Takes.val (.slice ae le ce) rfl rfl (fun W9 h9 => exec_load (s := 137) rfl (by kernel_rfl) (load_exts h9)) ?_
            clear s0
            refine wpAnyH_all (rs := [1]) (by kernel_rfl) (by simp) (fun i hi => ?_)
            obtain rfl := List.mem_singleton.1 hi
            have E5 := ERow.made (B := W.heap.size) (F := Own3 F q2 bs bw t) w4 HT4.out.both.below.size (HT4.out.lt3 HP.out)
            have T5 := HT4.out.later HP.out ((Below.refl _ w4).alloc (Nat.le_refl _) (.cells #[] 35))
            refine wpOp_make (v := .slice (some ⟨w4.heap.size, 0, none⟩) 0 0) (w' := w4.alloc (.cells #[] 35)) rfl rfl (by kernel_rfl) ⟨(blk_cell T5.blk 3 _ rfl).1, ?_⟩
            generalize w4.alloc (.cells #[] 35) = w5 at T5 E5 ⊢
            generalize w4.heap.size = gw5 at T5 E5 ⊢
            refine wpAnyH_all (rs := [4]) (by kernel_rfl) (by simp) (fun i hi => ?_)
            obtain rfl := List.mem_singleton.1 hi
            refine appEsO E5 HC.out T5.both.below HES.out T5.both.below.size (T5.lt3 HP.out) rfl rfl (.tmp 131) (.tmp 133) rfl (by kernel_rfl) (by kernel_rfl) ?_
            intro v6 w6 E6 ht
            have T6 := T5.row HP.out ht (E5.own gw5 rfl).2 (E5.own gw5 rfl).1
            refine ⟨(blk_cell T6.blk 3 _ rfl).1, ?_⟩
            clear ht
            refine wpAnyH_all (rs := [5]) (by kernel_rfl) (by simp) (fun i hi => ?_)
            obtain rfl := List.mem_singleton.1 hi
            refine wpOp_calls (f := 16) (args := #[.pointer (some ⟨q, 0, none⟩), v6]) rfl rfl (by kernel_rfl) ?_
            refine (HPH.out v6 w6 T6.both.pd (E6.out.anti (fun k hk => .inl hk)) T6.both.below).mono ?_
            rintro e w7 ⟨F7, rfl, hM7, ht7, hm7⟩
            have T7 := T6.left hM7 ht7 hm7
            refine ⟨_, rfl, (blk_cell T7.blk 3 _ rfl).1, ?_⟩
            clear hM7 ht7 hm7
            refine wpAnyH_all (rs := [9]) (by kernel_rfl) (by simp) (fun i hi => ?_)
            obtain rfl := List.mem_singleton.1 hi
            refine wpOp_calls (f := 17) (args := #[.pointer (some ⟨q2, 0, none⟩), .slice ae le ce]) rfl rfl (by kernel_rfl) ?_
            refine (HRH.out w7 T7.both.rd T7.both.rhigh T7.both.below).mono ?_
            rintro e w8 ⟨rfl, hR8, ht8⟩
            have T8 := T7.right HP.out hR8 ht8
            refine ⟨_, rfl, (blk_cell T8.blk 3 _ rfl).1, ?_⟩
            clear hR8 ht8
            refine held_of_takes (fuel := 0) (by kernel_rfl) (fun _ _ _ _ _ h => h) (blk_cell T8.blk 3 _ rfl).1 [10] _ _ (by kernel_rfl) ?_
            refine Takes.val (.bool false) rfl rfl (fun W9 _ => by go_simp) ?_
            refine wpAnyH_done (P := Try.prog) (S := fun W9 => W9.cell? ⟨t, 3, none⟩ = some (.slice ae le ce)) (by kernel_rfl) ?_ 0
            refine NoPanic.normal ?_
            have HXE := Lib.hid T8.both
            clear T8
            go_simp
            go_wp2_with fail
            go_meet
            exact ⟨rfl, _, _, HLM, HXE⟩
          case rest =>
            obtain ⟨rfl, m2, F2, HLM2, HXE⟩ := hcut
            clear HDU HPH HRH HLM e3
            go_wp2_with fail
            go_meet
            case rel => exact ⟨_, _, HLM2, HXE⟩
        by_cases d3 : kd = 3
        · subst d3
          obtain ⟨M, hM⟩ : ∃ M, M = Sp.give es m := ⟨_, rfl⟩
          have hml : M.1.length = N := by rw [hM, Sp.give_length]; exact HML.out
          have HM := Lib.hid hM
          clear hM
          obtain ⟨m', ok⟩ := M
          have HLM := Lib.hid hml
          clear hml e1 e2
          have HPH : Hid (∀ v w, MD w q m F → EsOut F w v es → Below W.heap.size W w → Calls Try.prog 18 #[.pointer (some ⟨q, 0, none⟩), v] w fun e w' => ∃ F', e = .returned (.bool ok) ∧ MD w' q m' F' ∧ Touch F w w' ∧ More F F' w) := Lib.hid (fun v w h1 h2 h3 => by
            have := HP.out.give q m F v es w h1 HLL.out h2 HC.out.1 HES.out (HE.out _ h3)
            rw [← HM.out] at this
            exact this)
          have HRH : Hid (∀ w, RD w q2 bs bw m → (∀ k, RF q2 bs bw k → W.heap.size ≤ k) → Below W.heap.size W w → Calls Try.prog 19 #[.pointer (some ⟨q2, 0, none⟩), .slice ae le ce] w fun e w' => e = .returned (.bool ok) ∧ RD w' q2 bs bw m' ∧ Touch (RF q2 bs bw) w w') := Lib.hid (fun w h1 h2 h3 => by
            have := rGive_w w q2 bs bw m (.slice ae le ce) es h1 (HC.out.out h2 h3) HC.out.1 HES.out
            rw [← HM.out] at this
            exact this)
          go_upto_region 32 with fail
          go_cut [153] (fun u wx => u = .bool false ∧ ∃ m2 F2, Hid (m2.length = N) ∧ Hid (Both MD W wx q q2 bs bw m2 m2 F2))
          case first =>
            refine wp_region_noPanic ?_
            refine wp_region_held (S := fun W9 => W9.cell? ⟨t, 3, none⟩ = some (.slice ae le ce)) (by kernel_rfl) ?_
            change wpAnyH _ _ _ _ _ _ _ _ wa.drew
            have hb0 : Below wa.heap.size wa wa.drew := (Below.refl _ wa).drew
            have HT4 := Lib.hid (HDU.out.later HP.out hb0)
            generalize wa.drew = w4 at HT4 ⊢
            clear hb0 HDU e3
            have s0 : w4.cell? ⟨t, 3, none⟩ = some (.slice ae le ce) := (blk_cell HT4.out.blk 3 _ rfl).1
            refine held_of_takes (fuel := 5) (by kernel_rfl) (fun _ _ _ _ _ h => h) s0 [0, 2, 3, 6, 7, 8] _ _ (by kernel_rfl) ?_
            refine Takes.val (.pointer (some ⟨q, 0, none⟩)) rfl rfl (fun _ _ => by kernel_rfl) ?_
            refine Takes.val (.pointer (some ⟨t, 3, none⟩)) rfl rfl (fun _ _ => by kernel_rfl) ?_
            refine Takes.val (.slice ae le ce) rfl rfl (fun W9 h9 => exec_load (s := 145) rfl (by kernel_rfl) (load_exts h9)) ?_
            refine Takes.val (.pointer (some ⟨q2, 0, none⟩)) rfl rfl (fun _ _ => by kernel_rfl) ?_
            refine Takes.val (.pointer (some ⟨t, 3, none⟩)) rfl rfl (fun _ _ => by kernel_rfl) ?_
            refine Takes.val (.slice ae le ce) rfl rfl (fun W9 h9 => exec_load (s := 150) rfl (by kernel_rfl) (load_exts h9)) ?_
            clear s0
            refine wpAnyH_all (rs := [1]) (by kernel_rfl) (by simp) (fun i hi => ?_)
            obtain rfl := List.mem_singleton.1 hi
            have E5 := ERow.made (B := W.heap.size) (F := Own3 F q2 bs bw t) w4 HT4.out.both.below.size (HT4.out.lt3 HP.out)
            have T5 := HT4.out.later HP.out ((Below.refl _ w4).alloc (Nat.le_refl _) (.cells #[] 35))
            refine wpOp_make (v := .slice (some ⟨w4.heap.size, 0, none⟩) 0 0) (w' := w4.alloc (.cells #[] 35)) rfl rfl (by kernel_rfl) ⟨(blk_cell T5.blk 3 _ rfl).1, ?_⟩
            generalize w4.alloc (.cells #[] 35) = w5 at T5 E5 ⊢
            generalize w4.heap.size = gw5 at T5 E5 ⊢
            refine wpAnyH_all (rs := [4]) (by kernel_rfl) (by simp) (fun i hi => ?_)
            obtain rfl := List.mem_singleton.1 hi
            refine appEsO E5 HC.out T5.both.below HES.out T5.both.below.size (T5.lt3 HP.out) rfl rfl (.tmp 144) (.tmp 146) rfl (by kernel_rfl) (by kernel_rfl) ?_
            intro v6 w6 E6 ht
            have T6 := T5.row HP.out ht (E5.own gw5 rfl).2 (E5.own gw5 rfl).1
            refine ⟨(blk_cell T6.blk 3 _ rfl).1, ?_⟩
            clear ht
            refine wpAnyH_all (rs := [5]) (by kernel_rfl) (by simp) (fun i hi => ?_)
            obtain rfl := List.mem_singleton.1 hi
            refine wpOp_calls (f := 18) (args := #[.pointer (some ⟨q, 0, none⟩), v6]) rfl rfl (by kernel_rfl) ?_
            refine (HPH.out v6 w6 T6.both.pd (E6.out.anti (fun k hk => .inl hk)) T6.both.below).mono ?_
            rintro e w7 ⟨F7, rfl, hM7, ht7, hm7⟩
            have T7 := T6.left hM7 ht7 hm7
            refine ⟨_, rfl, (blk_cell T7.blk 3 _ rfl).1, ?_⟩
            clear hM7 ht7 hm7
            refine wpAnyH_all (rs := [9]) (by kernel_rfl) (by simp) (fun i hi => ?_)
            obtain rfl := List.mem_singleton.1 hi
            refine wpOp_calls (f := 19) (args := #[.pointer (some ⟨q2, 0, none⟩), .slice ae le ce]) rfl rfl (by kernel_rfl) ?_
            refine (HRH.out w7 T7.both.rd T7.both.rhigh T7.both.below).mono ?_
            rintro e w8 ⟨rfl, hR8, ht8⟩
            have T8 := T7.right HP.out hR8 ht8
            refine ⟨_, rfl, (blk_cell T8.blk 3 _ rfl).1, ?_⟩
            clear hR8 ht8
            refine held_of_takes (fuel := 0) (by kernel_rfl) (fun _ _ _ _ _ h => h) (blk_cell T8.blk 3 _ rfl).1 [10] _ _ (by kernel_rfl) ?_
            refine Takes.val (.bool false) rfl rfl (fun W9 _ => by go_simp) ?_
            refine wpAnyH_done (P := Try.prog) (S := fun W9 => W9.cell? ⟨t, 3, none⟩ = some (.slice ae le ce)) (by kernel_rfl) ?_ 0
            refine NoPanic.normal ?_
            have HXE := Lib.hid T8.both
            clear T8
            go_simp
            go_wp2_with fail
            go_meet
            exact ⟨rfl, _, _, HLM, HXE⟩
          case rest =>
            obtain ⟨rfl, m2, F2, HLM2, HXE⟩ := hcut
            clear HDU HPH HRH HLM e3
            go_wp2_with fail
            go_meet
            case rel => exact ⟨_, _, HLM2, HXE⟩
        by_cases d4 : kd = 4
        · subst d4
          have cP := HP.out.commit q m F wa HDU.out.both.pd HLL.out (HE.out _ HDU.out.both.below)
          have HLM : Hid ((Sp.commit m).length = N) := Lib.hid (by rw [Sp.commit_length]; exact HML.out)
          clear e1 e2 e3
          go_wp2_with fail
          refine cP.mono ?_
          rintro e w1 ⟨F1, x1, rfl, hM1, ht1, hm1⟩
          have D1 := Lib.hid (HDU.out.left hM1 ht1 hm1)
          have cR := rCommit_w w1 q2 bs bw m D1.out.both.rd
          clear cP hM1 ht1 hm1 HDU
          go_wp2_with fail
          refine cR.mono ?_
          rintro e w3 ⟨rfl, hR3, ht3⟩
          have HXE := Lib.hid (D1.out.right HP.out hR3 ht3).both
          clear cR hR3 ht3 D1
          go_wp2_with fail
          go_meet
          case rel => exact ⟨_, _, HLM, HXE⟩
        by_cases d5 : kd = 5
        · subst d5
          have cP := HP.out.abort q m F wa HDU.out.both.pd HLL.out (HE.out _ HDU.out.both.below)
          have HLM : Hid ((Sp.abort m).length = N) := Lib.hid (by rw [Sp.abort_length]; exact HML.out)
          clear e1 e2 e3
          go_wp2_with fail
          refine cP.mono ?_
          rintro e w1 ⟨F1, x1, rfl, hM1, ht1, hm1⟩
          have D1 := Lib.hid (HDU.out.left hM1 ht1 hm1)
          have cR := rAbort_w w1 q2 bs bw m D1.out.both.rd
          clear cP hM1 ht1 hm1 HDU
          go_wp2_with fail
          refine cR.mono ?_
          rintro e w3 ⟨rfl, hR3, ht3⟩
          have HXE := Lib.hid (D1.out.right HP.out hR3 ht3).both
          clear cR hR3 ht3 D1
          go_wp2_with fail
          go_meet
          case rel => exact ⟨_, _, HLM, HXE⟩
        have HXE := Lib.hid HDU.out.both
        have HLM := HML
        clear HDU e1 e2 e3
        go_wp2_with fail
        go_meet
        case rel => exact ⟨_, _, HLM, HXE⟩
      · have hji : ¬ (i : Int) < L := by omega
        have hbw := HX.out.below
        go_wp2_with fail
        go_ret
        exact ⟨rfl, hbw⟩
  · have hno := HP.out.new_no sz
    have HNO := Lib.hid (fun w (hb : Below W.heap.size W w) => hno w hs hsz (HE.out w hb))
    clear hno hsz
    go_enter Try.func3, Try.ntmps3
    go_wp2_with fail
    refine c0.mono ?_
    rintro e w1 ⟨rfl, hb1⟩
    have H1 := Lib.hid hb1
    have c1 := HNO.out w1 hb1
    clear c0 hb1
    by_cases n1 : sz < 1
    · clear hs
      go_wp2_with fail
      refine c1.mono ?_
      rintro e w2 ⟨rfl, hb2⟩
      have H2 := Lib.hid (bt5 H1.out hb2)
      clear c1 hb2
      go_wp2_with fail
      go_ret
      exact ⟨rfl, H2.out⟩
    · have n2 : (65536 : Int) < sz := by omega
      clear hs
      go_wp2_with fail
      refine c1.mono ?_
      rintro e w2 ⟨rfl, hb2⟩
      have H2 := Lib.hid (bt5 H1.out hb2)
      clear c1 hb2
      go_wp2_with fail
      go_ret
      exact ⟨rfl, H2.out⟩
end
end Go.Proofs.Ytgfgafondiipoaa
