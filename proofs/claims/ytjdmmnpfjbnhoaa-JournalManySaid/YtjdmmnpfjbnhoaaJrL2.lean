/- The law JournalMany over the pack. -/
import Derived.Test.YtjdmmnpfjbnhoaaJrL1
import Derived.Test.YtjdmmnpfjbnhoaaRel
import Derived.Deep.CutBlock
import Derived.Deep.DeepCutAuto
namespace Go.Proofs.Ytjdmmnpfjbnhoaa
open Go.RowKit
section
variable {Env : World → Prop} {Dev : World → Nat → Dv.S → (Nat → Prop) → Prop} {JD : World → Nat → Nat → Jr.J → Dv.S → (Nat → Prop) → Prop}

theorem mod20 (x : Int) : ∃ (q : Int) (n : Nat), x.tmod 20 = q ∧ -20 < q ∧ q < 20 ∧ (q + 20).tmod 20 = (n : Int) ∧ n < 20 := by
  have h1 : -20 < x.tmod 20 ∧ x.tmod 20 < 20 := by
    constructor
    · have := Int.lt_tmod_of_pos x (b := 20) (by decide); omega
    · exact Int.tmod_lt_of_pos x (by decide)
  refine ⟨_, (x.tmod 20 + 20).tmod 20 |>.toNat, rfl, h1.1, h1.2, ?_, ?_⟩
  · have : 0 ≤ (x.tmod 20 + 20).tmod 20 := Int.tmod_nonneg _ (by omega)
    omega
  · have := Int.tmod_lt_of_pos (x.tmod 20 + 20) (b := 20) (by decide)
    omega
/-- What is wanted of the eight sectors, in a block of the law's own. -/
def WB (w : World) (b : Nat) (want : List UInt8) : Prop := w.heap[b]? = some (.cells (Lib.byteCells want).toArray 32 (0, 0)) ∧ want.length = 8
theorem WB.cell {w : World} {b : Nat} {want : List UInt8} (h : WB w b want) (k : Nat) (hk : k < 8) : w.cell? ⟨b, k, none⟩ = some (.int .u8 ((want.getD k 0).toNat : Int)) ∧ w.frozen? ⟨b, k, none⟩ = false := by
  have hk' : k < want.length := by rw [h.2]; exact hk
  have := blk_cell h.1 k (.int .u8 ((want.getD k 0).toNat : Int)) (by simp [Lib.byteCells, hk'])
  exact this
theorem WB.keep {w w' : World} {b : Nat} {want : List UInt8} (h : WB w b want) (hk : w'.heap[b]? = w.heap[b]?) : WB w' b want := ⟨by rw [hk]; exact h.1, h.2⟩
theorem WB.lt {w : World} {b : Nat} {want : List UInt8} (h : WB w b want) : b < w.heap.size := lt_of_block h.1
theorem WB.later {w w' : World} {b : Nat} {want : List UInt8} (h : WB w b want) (hb : Below w.heap.size w w') : WB w' b want := h.keep (hb.block b h.lt)
theorem WB.set {w : World} {b : Nat} {want : List UInt8} (h : WB w b want) (k : Nat) (_hk : k < 8) (x : UInt8) : WB (w.setCell ⟨b, k, none⟩ (.int .u8 (x.toNat : Int))) b (want.set k x) := by
  refine ⟨?_, by rw [List.length_set]; exact h.2⟩
  have hlt := h.lt
  obtain ⟨hl, hk9⟩ := Array.getElem?_eq_some_iff.1 h.1
  show (w.heap.modify b _)[b]? = _
  rw [Array.getElem?_eq_getElem (by rw [Array.size_modify]; exact hl), Array.getElem_modify_self, hk9]
  show some (Obj.cells ((Lib.byteCells want).toArray.setIfInBounds k (.int .u8 (x.toNat : Int))) 32 (0, 0)) = _
  simp [Lib.byteCells, List.map_set]
/-- The journal, the device and the block, behind i transactions. -/
structure Runs (JD : World → Nat → Nat → Jr.J → Dv.S → (Nat → Prop) → Prop) (W w : World) (q g b N i : Nat) (j : Jr.J) (d : Dv.S) (F : Nat → Prop) (want : List UInt8) : Prop where
  side : Side W w (fun w F => JD w q g j d F) F
  many : Jr.Many d j N i want
  wb : WB w b want
  nF : ¬ F b
  hb : W.heap.size ≤ b
set_option maxHeartbeats 12800000 in
set_option maxRecDepth 100000 in
theorem many15 (P : Prog15 Env Dev JD) (Q : Prog13 Env Dev) (size : Int) (va : Value) (xs : List UInt8) (W : World) (hin : BIn W va xs) (hE : Env W) :
    Calls Try.prog 3 #[.int .i64 size, va] W fun e w' => e = .returned (.bool true) ∧ Below W.heap.size W w' := by
  have HE := Lib.hid (fun (w : World) (hb : Below W.heap.size W w) => Q.env hE hb)
  have HP := Lib.hid P
  have HQ := Lib.hid Q
  have HA := Lib.hid (fun (w : World) (hb : Below W.heap.size W w) => awake15 P Q w (Q.env hE hb))
  have hww : Below W.heap.size W W := Below.refl _ _
  obtain ⟨aa, ca, rfl, hla, hca, hga⟩ := hin
  obtain ⟨L, hL⟩ : ∃ L, L = xs.length := ⟨_, rfl⟩
  have HL := Lib.hid hL
  have HG := Lib.hid hga
  rw [← hL] at hla ⊢
  clear hE hL hga P Q
  by_cases h60 : (60 : Int) < L
  · go_enter Try.func3, Try.ntmps3
    go_wp2_with fail
    refine (HA.out W hww).mono ?_
    rintro e w1 ⟨rfl, hb1⟩
    go_wp2_with fail
    refine (HA.out w1 hb1).mono ?_
    rintro e w2 ⟨rfl, hb2⟩
    go_wp2_with fail
    go_ret
    exact ⟨rfl, bt5 hb1 hb2⟩
  have hL60 : L ≤ 60 := by omega
  obtain ⟨q, n, m1, m2, m3, m4, hn20⟩ := mod20 size
  obtain ⟨N, hN⟩ : ∃ N : Nat, N = 5 + n := ⟨_, rfl⟩
  have en : (5 : Int) + (n : Int) = (N : Int) := by omega
  have hN5 : 5 ≤ N := by omega
  have hN25 : N < 25 := by omega
  go_enter Try.func3, Try.ntmps3
  go_wp2_with fail
  refine (HA.out W hww).mono ?_
  rintro e w1 ⟨rfl, hb1⟩
  have HB1 := Lib.hid hb1
  have c1 := HQ.out.new (N + 8) w1 (by omega) (by omega) (HE.out w1 hb1)
  have en8 : ((N + 8 : Nat) : Int) = (N : Int) + 8 := by omega
  rw [en8] at c1
  clear hb1 hww hN
  go_wp2_with fail
  refine c1.mono ?_
  rintro e w2 ⟨g, F2, rfl, hD2, hb2, hF2⟩
  have S2 := Lib.hid (show Side W w2 (fun w F => Dev w g (Dv.init (N + 8)) F) F2 from ⟨hD2, fun k hk => Nat.le_trans HB1.out.size (hF2 k hk), bt5 HB1.out hb2⟩)
  have hlen : (Dv.init (N + 8)).safe.length = N + 8 := List.length_replicate
  obtain ⟨d1, d2, j, k1, k2, k3, k4, k5, k6, k7, k8⟩ := Jr.many_first (fl_init (N + 8)) hlen hN5 (by omega) (fun i => by
    by_cases hi : i < N + 8
    · left
      show (List.replicate (N + 8) (List.replicate 64 (0 : UInt8))).getD i [] = _
      rw [List.getD_eq_getElem?_getD, List.getElem?_replicate, if_pos hi]
      rfl
    · right; omega) (Nat.zero_le _)
  have hn0 : (Dv.init (N + 8)).n = 0 := rfl
  have KF := Lib.hid (And.intro k2 (And.intro k3 (And.intro k4 (And.intro k5 (And.intro k6 (And.intro k7 k8))))))
  have c2 := HP.out.format g (Dv.init (N + 8)) F2 N N w2 hD2 ⟨fl_init _, by omega, by omega⟩ hN5 (by omega) rfl (HE.out w2 S2.out.below)
  rw [k1] at c2
  clear c1 hD2 hb2 hF2 k1 k2 k3 k4 k5 k6 k7 k8 hlen
  go_wp2_with fail
  refine c2.mono ?_
  rintro e w3 ⟨F3, rfl, hD3, ht3, hm3⟩
  have S3 := Lib.hid (show Side W w3 (fun w F => Dev w g d1 F) F3 from S2.out.step hD3 ht3 hm3)
  have c3 := HP.out.open_ g d1 F3 (j0 N) N w3 hD3 ⟨KF.out.1, by rw [KF.out.2.2.2.2.2.2]; omega, by rw [KF.out.2.2.2.2.2.1]; omega⟩ KF.out.2.1 rfl rfl (by show ([] : List Jr.Put).length ≤ 1000; decide) (HE.out w3 S3.out.below)
  rw [show Jr.openS (Jr.sure d1 d1.safe 1) (Jr.opened (j0 N).from_ (j0 N).n (j0 N).mark (j0 N).next (j0 N).at_ (j0 N).owed (j0 N).cnt) = (d2, j) from KF.out.2.2.1] at c3
  clear c2 hD3 ht3 hm3 S2
  go_wp2_with fail
  refine c3.mono ?_
  rintro e w4 ⟨qj, F4, rfl, hJ4, ht4, hm4⟩
  have S4 := Lib.hid (show Side W w4 (fun w F => JD w qj g j d2 F) F4 from S3.out.step hJ4 ht4 hm4)
  have HM := Lib.hid KF.out.2.2.2.1
  clear c3 hJ4 ht4 hm4 S3 KF
  go_upto_region 11 with fail
  have hbw : Below w4.heap.size w4 (w4.alloc (.cells #[.int .u8 0, .int .u8 0, .int .u8 0, .int .u8 0, .int .u8 0, .int .u8 0, .int .u8 0, .int .u8 0] 32)) := (Below.refl _ w4).alloc (Nat.le_refl _) _
  have hrw : WB (w4.alloc (.cells #[.int .u8 0, .int .u8 0, .int .u8 0, .int .u8 0, .int .u8 0, .int .u8 0, .int .u8 0, .int .u8 0] 32)) w4.heap.size (List.replicate 8 0) := ⟨heap_alloc_new w4 _, rfl⟩
  have S5 := S4.out.later (fun h hs hk => HP.out.keep h hs hk) (fun k hk => HP.out.lt S4.out.thing k hk) hbw
  have hnF : ¬ F4 w4.heap.size := fun hf => Nat.lt_irrefl _ (HP.out.lt S4.out.thing _ hf)
  have hbS := S4.out.below.size
  generalize w4.alloc (.cells #[.int .u8 0, .int .u8 0, .int .u8 0, .int .u8 0, .int .u8 0, .int .u8 0, .int .u8 0, .int .u8 0] 32) = w5 at hbw hrw S5 ⊢
  obtain ⟨b, hb⟩ : ∃ b, b = w4.heap.size := ⟨_, rfl⟩
  rw [← hb] at hrw hnF hbS ⊢
  have HR : Hid (Runs JD W w5 qj g b N 0 j d2 F4 (List.replicate 8 0)) := Lib.hid ⟨S5, HM.out, hrw, hnF, hbS⟩
  clear hbw hrw S5 hnF hbS hb S4 HM
  go_wp2_with fail
  go_loopw [12] (fun iv wr => ∃ i : Nat, i ≤ L ∧ iv = .int .i64 i ∧ ∃ j d F want, Hid (Runs JD W wr qj g b N i j d F want)) (fun iv _ => L - (intOf iv).toNat)
  case atStart => exact ⟨0, Nat.zero_le _, rfl, _, _, _, _, HR⟩
  case round =>
    obtain ⟨i, hi, rfl, j, d, F, want, HX⟩ := hrel
    clear HR
    by_cases hlt : i < L
    · have hki : (i : Int) < L := by omega
      have k0 : i < xs.length := by rw [← HL.out]; exact hlt
      obtain ⟨ba, oa, hao, hbl, hcell⟩ := HG.out.resolve_left (fun e => by rw [e] at k0; cases k0)
      subst hao
      obtain ⟨x, hx⟩ : ∃ x, x = xs[i] := ⟨_, rfl⟩
      have hq := hcell i k0
      rw [← hx] at hq
      have hq1 := cell_later HX.out.side.below hq
      obtain ⟨kk, hkk⟩ : ∃ kk, kk = i % 8 := ⟨_, rfl⟩
      have tm : (i : Int).tmod 8 = (kk : Int) := by rw [hkk, Int.tmod_eq_emod_of_nonneg (by omega)]; omega
      have hk8 : kk < 8 := by omega
      have hk8i : (kk : Int) < 8 := by omega
      obtain ⟨d', j', hcm, hM'⟩ := Jr.many_put HX.out.many hN5 (by omega) HX.out.wb.2 kk hk8 x
      have HCM := Lib.hid (And.intro hcm hM')
      have cF := filled_w x wr
      clear hcell hkk hcm hM' hx
      go_wp2_with fail
      refine cF.mono ?_
      rintro e w6 ⟨rfl, hB6, hb6⟩
      have hltF := fun k hk => HP.out.lt HX.out.side.thing k hk
      have S6 := Lib.hid (HX.out.side.later (w' := w6) (fun h hs hk => HP.out.keep h hs hk) hltF hb6)
      have hputs := puts_one (F := F) (N + kk) hB6 (filled_len x) (fun hf => Nat.lt_irrefl _ (hltF _ hf)) (fun k hk => Nat.lt_of_lt_of_le (hltF k hk) hb6.size)
      have epk : ((N + kk : Nat) : Int) = (N : Int) + kk := by omega
      rw [epk] at hputs
      obtain ⟨pa, hpa⟩ : ∃ pa, pa = wr.heap.size := ⟨_, rfl⟩
      rw [← hpa] at hputs ⊢
      have hb7 : Below w6.heap.size w6 (w6.alloc (.cells #[.int .i64 ((N : Int) + kk), .slice (some ⟨pa, 0, none⟩) 64 64] 37)) := (Below.refl _ w6).alloc (Nat.le_refl _) _
      have S7 := Lib.hid (S6.out.later (fun h hs hk => HP.out.keep h hs hk) (fun k hk => HP.out.lt S6.out.thing k hk) hb7)
      have hw7 := Lib.hid ((HX.out.wb.later hb6).later hb7)
      have hml := HX.out.many.len
      have cC := HP.out.commit qj g j d F _ [(N + kk, filled x)] _ S7.out.thing ⟨HX.out.many.is.choose_spec.1.fl, by omega, by have := HX.out.many.dn; omega⟩ (by
        obtain ⟨m, ⟨_, first, at0, ts, hS, ht⟩, hm⟩ := HX.out.many.is
        exact ⟨m, first, at0, ts, hS, by omega, by omega⟩) (by have := HX.out.many.ow; omega) hputs
        ⟨by show 1 ≤ 1; decide, by show 1 ≤ 10; decide, fun p hp => by
          rw [List.mem_singleton.1 hp, HX.out.many.from0, HX.out.many.n]
          exact ⟨by show N + kk < _; omega, .inr (by show 0 + N ≤ N + kk; omega)⟩, fun p hp => by rw [List.mem_singleton.1 hp]; exact filled_len x⟩ (by rw [HX.out.many.n]; show 1 + 4 ≤ N; omega) (HE.out _ S7.out.below)
      rw [show Jr.commit d j [(N + kk, filled x)] = (d', j', true, 0) from HCM.out.1] at cC
      have HBB := Lib.hid (And.intro HX.out.nF HX.out.hb)
      clear cF hB6 hb6 hltF hputs hb7 S6 hml HX hpa
      go_wp2_with fail
      refine cC.mono ?_
      rintro e w8 ⟨F8, rfl, hJ8, ht8, hm8⟩
      have S8 := Lib.hid (show Side W w8 (fun w F => JD w qj g j' d' F) F8 from S7.out.step hJ8 ht8 hm8)
      have hw8 := Lib.hid (hw7.out.keep (ht8.block b hw7.out.lt HBB.out.1))
      have hn8 := Lib.hid (fun hf : F8 b => by
        rcases hm8 b hf with h9 | h9
        · exact HBB.out.1 h9
        · have := hw7.out.lt; omega)
      have cN := HP.out.number qj g j' d' F8 w8 hJ8 (by rw [HCM.out.2.next]; omega) (HE.out w8 S8.out.below)
      rw [HCM.out.2.next, show ((i + 1 + 1 : Nat) : Int) = (i : Int) + 2 by omega] at cN
      clear cC hJ8 ht8 hm8 S7 hw7
      go_wp2_with fail
      refine cN.mono ?_
      rintro e w9 ⟨rfl, rfl⟩
      clear cN
      have hq2 := cell_later S8.out.below hq
      have hc2 := (hw8.out.cell kk hk8).1
      have hf2 := (hw8.out.cell kk hk8).2
      have hend : Runs JD W (w8.setCell ⟨b, kk, none⟩ (.int .u8 (x.toNat : Int))) qj g b N (i + 1) j' d' F8 (want.set kk x) := by
        have hko : ∀ k, k ≠ b → (w8.setCell ⟨b, kk, none⟩ (.int .u8 (x.toNat : Int))).heap[k]? = w8.heap[k]? := fun k hk => Below.heap_setCell _ _ _ k (fun e => hk e)
        refine ⟨⟨HP.out.keep S8.out.thing (by simp) (fun k hk => hko k (fun e => hn8.out (by rw [← e]; exact hk))), S8.out.high, set_below S8.out.below HBB.out.2⟩, HCM.out.2, hw8.out.set kk hk8 x, hn8.out, HBB.out.2⟩
      have HEND := Lib.hid hend
      clear hend hq1 hq S8 hw8 hn8 HCM
      go_wp2_with fail
      go_roundw
      case rel => exact ⟨i + 1, by omega, by go_num, _, _, _, _, HEND⟩
      case measure => simp [intOf]; omega
    · have hki : ¬ (i : Int) < L := by omega
      obtain rfl : i = L := by omega
      obtain ⟨e1, e2, j2, z1, z2, z3, z4, z5, z6, z7, z8, z9, z10, z11⟩ := Jr.many_last HX.out.many hN5 hL60
      have KL := Lib.hid (And.intro z2 (And.intro z3 (And.intro z4 (And.intro z5 (And.intro z6 (And.intro z7 (And.intro z8 (And.intro z9 (And.intro z10 z11)))))))))
      obtain ⟨F6, hsub, hD6, -⟩ := HP.out.dev HX.out.side.thing
      have S6 := Lib.hid (show Side W wr (fun w F => Dev w g d F) F6 from ⟨hD6, fun k hk => HX.out.side.high k (hsub k hk), HX.out.side.below⟩)
      have hn6 := Lib.hid (fun hf : F6 b => HX.out.nF (hsub b hf))
      have hml := HX.out.many.len
      have c6 := HQ.out.crash g d F6 (.slice none 0 0) [] (-1) 0 wr hD6 (fair_fl ⟨HX.out.many.is.choose_spec.1.fl, by omega, by have := HX.out.many.dn; omega⟩) (kin_nil _ _) (by decide) (by decide) (HE.out wr S6.out.below)
      rw [z1] at c6
      unfold mkCrash at c6
      have HMN := Lib.hid (And.intro HX.out.many.from0 (And.intro HX.out.many.n (And.intro HX.out.many.ow (And.intro HX.out.wb HX.out.hb))))
      clear z1 z2 z3 z4 z5 z6 z7 z8 z9 z10 z11 hsub hD6 hml HX hlt hi
      go_wp2_with fail
      refine c6.mono ?_
      rintro e w7 ⟨F7, x7, rfl, hD7, ht7, hm7⟩
      have S7 := Lib.hid (show Side W w7 (fun w F => Dev w g e1 F) F7 from S6.out.step hD7 ht7 hm7)
      have hw7 := Lib.hid (HMN.out.2.2.2.1.keep (ht7.block b HMN.out.2.2.2.1.lt hn6.out))
      have hn7 := Lib.hid (fun hf : F7 b => by
        rcases hm7 b hf with h9 | h9
        · exact hn6.out h9
        · have := HMN.out.2.2.2.1.lt; omega)
      have c7 := HP.out.open_ g e1 F7 j N w7 hD7 ⟨KL.out.1, by rw [KL.out.2.2.2.2.2.2.1]; omega, by rw [KL.out.2.2.2.2.2.2.2.1]; omega⟩ KL.out.2.1 HMN.out.1 (by rw [HMN.out.2.1]) (by have := HMN.out.2.2.1; omega) (HE.out w7 S7.out.below)
      rw [KL.out.2.2.1] at c7
      clear c6 hD7 ht7 hm7 S6 hn6
      go_wp2_with fail
      refine c7.mono ?_
      rintro e w8 ⟨q8, F8, rfl, hJ8, ht8, hm8⟩
      have S8 := Lib.hid (show Side W w8 (fun w F => JD w q8 g j2 e2 F) F8 from S7.out.step hJ8 ht8 hm8)
      have hw8 := Lib.hid (hw7.out.keep (ht8.block b hw7.out.lt hn7.out))
      have hn8 := Lib.hid (fun hf : F8 b => by
        rcases hm8 b hf with h9 | h9
        · exact hn7.out h9
        · have := hw7.out.lt; omega)
      obtain ⟨F9, hsub, hD9, hback⟩ := HP.out.dev hJ8
      have HBK := Lib.hid hback
      have HSB := Lib.hid hsub
      have c9 := HQ.out.read g e2 F9 N 8 w8 hD9 (fair_fl ⟨KL.out.2.2.2.2.1, by rw [KL.out.2.2.2.2.2.2.2.2.1]; omega, by have := KL.out.2.2.2.2.2.1; omega⟩) (by omega) (by decide) (HE.out w8 S8.out.below)
      rw [KL.out.2.2.2.2.2.2.2.2.2] at c9
      have HNX := Lib.hid KL.out.2.2.2.1
      clear c7 hJ8 ht8 hm8 S7 hw7 hn7 hsub hD9 hback KL
      go_wp2_with fail
      refine c9.mono ?_
      rintro e w10 ⟨F10, v10, rfl, hD10, ht10, hm10, hv10⟩
      have hJ10 := HBK.out w10 _ F10 hD10 ht10 hm10
      have ht10' : Touch F8 w8 w10 := ⟨ht10.os, ht10.tape, ht10.output, ht10.size, fun k hk hn => ht10.block k hk (fun hf => hn (HSB.out k hf))⟩
      have hm10' : More F8 (fun k => F8 k ∨ F10 k) w8 := fun k hk => by
        rcases hk with h | h
        · exact .inl h
        · exact (hm10 k h).imp (fun h => HSB.out k h) id
      have S10 := Lib.hid (show Side W w10 (fun w F => JD w q8 g j2 _ F) (fun k => F8 k ∨ F10 k) from S8.out.step hJ10 ht10' hm10')
      have hw10 := Lib.hid (hw8.out.keep (ht10'.block b hw8.out.lt hn8.out))
      obtain ⟨av, cv, rfl, hlv, hcv, hgv⟩ := hv10.in_
      have hl8 : ((List.range 8).map (fun k => Dv.f_ (want.getD k 0))).length = 8 := by simp
      have HGV := Lib.hid hgv
      rw [hl8] at hlv ⊢
      clear c9 hD10 ht10 hm10 hv10 hgv hJ10 ht10' hm10' S8 hw8 hn8 HBK HSB hl8
      go_wp2_with fail
      go_loopw [20] (fun iv wr => ∃ k : Nat, k ≤ 8 ∧ iv = .int .i64 k ∧ Hid (Below w10.heap.size w10 wr)) (fun iv _ => 8 - (intOf iv).toNat)
      case atStart => exact ⟨0, Nat.zero_le _, rfl, Lib.hid (Below.refl _ _)⟩
      case round =>
        obtain ⟨k, hk, rfl, HB⟩ := hrel
        by_cases hlt : k < 8
        · have hki : (k : Int) < 8 := by omega
          have k0 : k < ((List.range 8).map (fun k => Dv.f_ (want.getD k 0))).length := by simp; exact hlt
          obtain ⟨bv, ov, hav, hbv, hcell⟩ := HGV.out.resolve_left (fun e => by rw [e] at k0; cases k0)
          subst hav
          obtain ⟨u9, hu9, hbin9, hnil9⟩ := hcell k k0
          rw [List.getElem_map, List.getElem_range] at hbin9
          obtain ⟨y, hy⟩ : ∃ y, y = want.getD k 0 := ⟨_, rfl⟩
          rw [← hy] at hbin9
          have hc9 := (hw10.out.cell k hlt).1
          rw [← hy] at hc9
          have q3 := cell_later HB.out hu9
          have q7 := cell_later HB.out hc9
          have HU9 := Lib.hid (And.intro (hbin9.later HB.out) hnil9)
          obtain ⟨a2, c2, hus, _, _, _⟩ := hbin9
          have h64 : (Dv.f_ y).length = 64 := List.length_replicate
          rw [h64] at hus
          subst hus
          have HBB := Lib.hid HB.out
          clear hcell hu9 hc9 hnil9 hy k0
          go_upto_region 27 with fail
          refine Rel.region_of (by kernel_rfl) [some 134, some 135, some 136, some 137, some 138, some 139, some 140, some 141, some 142, some 143, some 144] (by kernel_rfl) (by kernel_rfl) [.eq (.slice (some ⟨bv, ov, none⟩) 8 cv), .eq (.int .i64 (k : Int)), .eq (.pointer (some ⟨bv, ov + k, none⟩)), .eq (.slice a2 64 c2), .eq (.string (str (Dv.f_ y))), .eq (.int .i64 (k : Int)), .eq (.pointer (some ⟨b, k, none⟩)), .eq (.int .u8 (y.toNat : Int)), ⟨fun v w => BIn w v (Dv.f_ y) ∧ NilOk v, fun _ _ _ h hb => ⟨h.1.later hb, h.2⟩⟩, .eq (.string (str (Dv.f_ y))), .eq (.bool false)] ⟨?_, ?_, ?_, ?_, ?_, ?_, ?_, ?_, ?_, ?_, ?_, trivial⟩ ?_
          · intro u w9 hb9 hd9
            clear hd9
            refine ⟨?_⟩
            simp only [Rel.canD, List.take_zero]
            go_wp2_with fail
            exact ⟨rfl, rfl, Below.refl _ _, rfl⟩
          · intro u w9 hb9 hd9
            clear hd9
            refine ⟨?_⟩
            simp only [Rel.canD, List.take_succ_cons, List.take_zero, Nat.reduceAdd]
            go_wp2_with fail
            exact ⟨rfl, rfl, Below.refl _ _, rfl⟩
          · intro u w9 hb9 hd9
            have e0 : u 0 = .slice (some ⟨bv, ov, none⟩) 8 cv := hd9 0 (by kernel_rfl)
            have e1 : u 1 = .int .i64 (k : Int) := hd9 1 (by kernel_rfl)
            clear hd9
            refine ⟨?_⟩
            simp only [Rel.canD, List.take_succ_cons, List.take_zero, Nat.reduceAdd]
            go_wp2_with fail
            exact ⟨rfl, rfl, Below.refl _ _, rfl⟩
          · intro u w9 hb9 hd9
            have e2 : u 2 = .pointer (some ⟨bv, ov + k, none⟩) := hd9 2 (by kernel_rfl)
            clear hd9
            have q9 := cell_later hb9 q3
            refine ⟨?_⟩
            simp only [Rel.canD, List.take_succ_cons, List.take_zero, Nat.reduceAdd]
            go_wp2_with fail
            exact ⟨rfl, rfl, Below.refl _ _, rfl⟩
          · intro u w9 hb9 hd9
            have e3 : u 3 = .slice a2 64 c2 := hd9 3 (by kernel_rfl)
            clear hd9
            have q9 := (HU9.out.1.later hb9).all HU9.out.2
            refine ⟨?_⟩
            simp only [Rel.canD, List.take_succ_cons, List.take_zero, Nat.reduceAdd]
            go_wp2_with fail
            exact ⟨rfl, rfl, Below.refl _ _, rfl⟩
          · intro u w9 hb9 hd9
            clear hd9
            refine ⟨?_⟩
            simp only [Rel.canD, List.take_succ_cons, List.take_zero, Nat.reduceAdd]
            go_wp2_with fail
            exact ⟨rfl, rfl, Below.refl _ _, rfl⟩
          · intro u w9 hb9 hd9
            have e5 : u 5 = .int .i64 (k : Int) := hd9 5 (by kernel_rfl)
            clear hd9
            refine ⟨?_⟩
            simp only [Rel.canD, List.take_succ_cons, List.take_zero, Nat.reduceAdd]
            go_wp2_with fail
            exact ⟨rfl, rfl, Below.refl _ _, rfl⟩
          · intro u w9 hb9 hd9
            have e6 : u 6 = .pointer (some ⟨b, k, none⟩) := hd9 6 (by kernel_rfl)
            clear hd9
            have q9 := cell_later hb9 q7
            refine ⟨?_⟩
            simp only [Rel.canD, List.take_succ_cons, List.take_zero, Nat.reduceAdd]
            go_wp2_with fail
            exact ⟨rfl, rfl, Below.refl _ _, rfl⟩
          · intro u w9 hb9 hd9
            have e7 : u 7 = .int .u8 (y.toNat : Int) := hd9 7 (by kernel_rfl)
            clear hd9
            have c9 := filled_w y w9
            refine ⟨?_⟩
            simp only [Rel.canD, List.take_succ_cons, List.take_zero, Nat.reduceAdd]
            go_wp2_with fail
            refine c9.mono ?_
            rintro e w8 ⟨rfl, h8, h9⟩
            have h7 := h8.in_ (filled_len y).symm (Nat.le_refl 64) (by decide)
            go_wp2_with fail
            exact ⟨rfl, rfl, h9, h7, nil_ok _ _ _⟩
          · intro u w9 hb9 hd9
            have e8 : BIn w9 (u 8) (Dv.f_ y) ∧ NilOk (u 8) := hd9 8 (by kernel_rfl)
            clear hd9
            have q9 := e8.1.all e8.2
            refine ⟨?_⟩
            simp only [Rel.canD, List.take_succ_cons, List.take_zero, Nat.reduceAdd]
            go_wp2_with fail
            exact ⟨rfl, rfl, Below.refl _ _, rfl⟩
          · intro u w9 hb9 hd9
            have e4 : u 4 = .string (str (Dv.f_ y)) := hd9 4 (by kernel_rfl)
            have e9 : u 9 = .string (str (Dv.f_ y)) := hd9 9 (by kernel_rfl)
            clear hd9
            refine ⟨?_⟩
            simp only [Rel.canD, List.take_succ_cons, List.take_zero, Nat.reduceAdd]
            go_wp2_with fail
            exact ⟨rfl, rfl, Below.refl _ _, rfl⟩
          intro u w9 hb9 hR9
          have h10 : u 10 = .bool false := hR9 10 (by decide)
          simp only [Rel.canD, Nat.reduceAdd, h10]
          go_simp
          have HB9 := Lib.hid (bt5 HBB.out hb9)
          clear hb9 hR9
          go_wp2_with fail
          go_roundw
          case rel => exact ⟨k + 1, by omega, by go_num, HB9⟩
          case measure => simp [intOf]; omega
        · have hki : ¬ (k : Int) < 8 := by omega
          have cN := HP.out.number q8 g j2 _ _ wr (HP.out.keep S10.out.thing HB.out.size (fun k hk => HB.out.block k (HP.out.lt S10.out.thing k hk))) (by rw [HNX.out]; omega) (HE.out wr (bt5 S10.out.below HB.out))
          rw [HNX.out, show ((i + 1 : Nat) : Int) = (i : Int) + 1 by omega] at cN
          have HBW := Lib.hid (bt5 S10.out.below HB.out)
          clear S10
          go_wp2_with fail
          refine cN.mono ?_
          rintro e w11 ⟨rfl, rfl⟩
          clear cN
          go_wp2_with fail
          go_ret
          exact ⟨rfl, HBW.out⟩
end
end Go.Proofs.Ytjdmmnpfjbnhoaa
