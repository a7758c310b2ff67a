/- Package journal, the program: contents, titles, slots. -/
import Derived.Test.YtjdmmnpfjbnhoaaJvA
import Derived.Test.YtjdmmnpfjbnhoaaJrL1
import Derived.BigQuiet
import Derived.Test.YtjdmmnpfjbnhoaaQuiet
import Derived.Test.YtjdmmnpfjbnhoaaTail
import Derived.Test.YtjdmmnpfjbnhoaaRel
import Derived.Laws.OwnMore
namespace Go.Proofs.Ytjdmmnpfjbnhoaa
open Go.RowKit

theorem oct_wf (c : UInt8) : (0 : Int) ≤ (c.toNat : Int) ∧ (c.toNat : Int) < 256 := by have := c.toNat_lt; omega
set_option maxHeartbeats 1600000 in
set_option maxRecDepth 100000 in
theorem sizeOf_w (ao : Option Addr) (n c : Nat) (w : World) (hn : n ≤ 1000000) :
    Calls Try.prog 28 #[.slice ao n c] w fun e w' => e = .returned (.int .i64 ((n : Int) + 2)) ∧ w = w' := by
  have hni : (n : Int) ≤ 1000000 := by omega
  go_enter Try.func28, Try.ntmps28
  go_wp2_with fail
  go_ret
  exact ⟨rfl, rfl⟩
set_option maxHeartbeats 1600000 in
set_option maxRecDepth 100000 in
theorem slot_w (b o cap i : Nat) (w : World) (hc : 64 ≤ cap) (hi : i < 10) (h9 : cap ≤ 9223372036854775807) :
    Calls Try.prog 68 #[.slice (some ⟨b, o, none⟩) 64 cap, .int .i64 (i : Int)] w fun e w' => e = .returned (.tuple #[.slice (some ⟨b, o + (10 + 5 * i), none⟩) 4 (cap - (10 + 5 * i)), .slice (some ⟨b, o + (10 + 5 * i) + 4, none⟩) 1 (cap - (10 + 5 * i) - 4)]) ∧ Below w.heap.size w w' := by
  have hii : (i : Int) < 10 := by omega
  have hci : (64 : Int) ≤ cap := by omega
  have hcn : ¬ cap = 10 + 5 * i := by omega
  have hcm : ¬ cap - (10 + 5 * i) = 4 := by omega
  go_enter Try.func68, Try.ntmps68
  go_upto_region 2 with fail
  go_quiet (fail)
  go_wp2_with fail
  go_ret2
  exact ⟨rfl, ⟨rfl, rfl, rfl, Nat.le_refl _, fun _ _ => rfl⟩⟩
set_option maxHeartbeats 1600000 in
set_option maxRecDepth 100000 in
theorem contents_w (c : UInt8) (v : Value) (l : List UInt8) (w : World) (h : BIn w v l) (hl : l.length = 64) :
    Calls Try.prog 55 #[.int .u8 (c.toNat : Int), v] w fun e w' => ∃ g q, e = .returned (.slice (some ⟨g, 0, none⟩) 64 q) ∧ Buf w w' (.slice (some ⟨g, 0, none⟩) 64 q) (c :: l.drop 1) := by
  obtain ⟨ao, cap, rfl, hc, hc9, hg⟩ := id h
  rw [hl] at hc h ⊢
  obtain ⟨b, o, rfl, hb, hcell⟩ := hg.resolve_left (fun e => by rw [e] at hl; cases hl)
  have hm := h.mid 1 64 (by decide) (by omega)
  rw [if_neg (by omega), List.take_of_length_le (by omega), Addr.add_lit] at hm
  have HM := Lib.hid hm
  have hw0 : Buf w (w.alloc (.cells #[.int .u8 (c.toNat : Int)] 5)) (.slice (some ⟨w.heap.size, 0, none⟩) 1 1) [c] :=
    ⟨World.ownsRow_lit w #[.int .u8 (c.toNat : Int)] 1 (Nat.le_refl _) (by decide) rfl, (Below.refl _ w).alloc (Nat.le_refl _) _⟩
  have HW := Lib.hid hw0
  have hcap : ¬ cap = 1 := by omega
  have hci : (64 : Int) ≤ cap := by omega
  have HC := Lib.hid hcell
  clear hm hw0 h hg hcell
  go_enter Try.func55, Try.ntmps55
  go_wp2_with (refine appBs (W := w) HW.out (HM.out.later HW.out.below) (some_ok _ _ _) (by simp; omega) rfl (.tmp 6) (.tmp 8) rfl rfl rfl ?_; intro v' w' hb' hnn)
  go_ret
  rcases hb'.cells with ⟨rfl, -⟩ | ⟨g, q, rfl, -⟩
  · exact absurd rfl (hnn (by simp))
  · have e : ([c] ++ l.drop 1).length = 64 := by simp; omega
    rw [e] at hb' ⊢
    exact ⟨g, q, rfl, hb'⟩

theorem drop_take9 (l : List UInt8) : (l.take 9).drop 1 = (l.drop 1).take 8 := by rw [List.drop_take]
theorem get0 {l : List UInt8} (k : Nat) (h : k < l.length) : l.getD k 0 = l[k] := by rw [List.getD_eq_getElem?_getD, List.getElem?_eq_getElem h]; rfl
set_option maxHeartbeats 1600000 in
set_option maxRecDepth 100000 in
theorem isTitled_w (v : Value) (l : List UInt8) (c : UInt8) (n : Int) (w : World) (h : BIn w v l) (hl : l.length = 64) :
    Calls Try.prog 73 #[v, .int .u8 (c.toNat : Int), .int .i64 n] w fun e w' => e = .returned (.bool (decide (l.getD 0 0 = c) && decide (Jr.num ((l.drop 1).take 8) = n))) ∧ w = w' := by
  obtain ⟨ao, cap, rfl, hc, hc9, hg⟩ := id h
  rw [hl] at hc h ⊢
  obtain ⟨b, o, rfl, hb, hcell⟩ := hg.resolve_left (fun e => by rw [e] at hl; cases hl)
  have hm := h.mid 1 9 (by decide) (by omega)
  rw [if_neg (by omega), drop_take9, Addr.add_lit] at hm
  have cN := numeral_w _ _ w hm
  have q0 := hcell 0 (by omega)
  rw [get0 0 (by omega)]
  have HN := Lib.hid cN
  have hcap : ¬ cap = 1 := by omega
  have hci : (64 : Int) ≤ cap := by omega
  have hcn : ((l[0].toNat : Int) == (c.toNat : Int)) = decide (l[0] = c) := by
    by_cases e : l[0] = c
    · subst e; simp
    · rw [decide_eq_false e]
      have : l[0].toNat ≠ c.toNat := fun h => e (UInt8.toNat_inj.1 h)
      simp; omega
  rw [Nat.add_zero] at q0
  generalize Jr.num ((l.drop 1).take 8) = N at *
  generalize decide (l[0] = c) = D at *
  generalize (l[0].toNat : Int) = x at *
  generalize (c.toNat : Int) = y at *
  clear hm h hg hcell cN
  cases D with
  | true =>
    rw [Bool.true_and]
    obtain ⟨E, hE⟩ : ∃ E, E = decide (N = n) := ⟨_, rfl⟩
    have HE := Lib.hid hE
    rw [← hE]
    clear hE
    go_enter Try.func73, Try.ntmps73
    go_wp2_with (refine HN.out.mono ?_; rintro e w' ⟨rfl, rfl⟩)
    go_ret
    exact ⟨by rw [HE.out]; rfl, rfl⟩
  | false =>
    rw [Bool.false_and]
    go_enter Try.func73, Try.ntmps73
    go_wp2_with fail
    go_ret
    exact ⟨rfl, rfl⟩

theorem made64 (W : World) : (Instr.makeSlice 22 (.int .i64 64) (.int .i64 64)).run Try.prog W = .ok (.slice (some ⟨W.heap.size, 0, none⟩) 64 64) (W.alloc (.cells (madeCells #[.int .u8 0] 64) 5)) := run_make_row' (P := Try.prog) 22 5 (.int .u8 0) 1 Try.underlying22 bytes_info rfl .i64 .i64 64 (by omega) (by omega) W
set_option maxHeartbeats 1600000 in
set_option maxRecDepth 100000 in
theorem titled_w (c : UInt8) (u : Nat) (w : World) (hu : u < 9223372036854775808) :
    Calls Try.prog 58 #[.int .u8 (c.toNat : Int), .int .i64 (u : Int)] w fun e w' => ∃ g, e = .returned (.slice (some ⟨g, 0, none⟩) 64 64) ∧ w.heap.size ≤ g ∧ Blk w' g (Jr.fill (c :: Jr.lay u 8)) ∧ Below w.heap.size w w' := by
  have hmk := made64
  have hB0 := Blk.made w 64
  have hbm : Below w.heap.size w (w.alloc (.cells (madeCells #[.int .u8 0] 64) 5)) := (Below.refl _ w).alloc (Nat.le_refl _) _
  have hc0 := oct_wf c
  go_enter Try.func58, Try.ntmps58
  go_upto_region 2 with fail
  obtain ⟨g, hg⟩ : ∃ g, g = w.heap.size := ⟨_, rfl⟩
  have hgw : w.heap.size ≤ g := by rw [hg]; exact Nat.le_refl _
  generalize w.alloc _ = w2 at hB0 hbm ⊢
  rw [← hg] at hB0 ⊢
  clear hg hmk
  have hB1 := hB0.set 0 c (c.toNat : Int) rfl
  obtain ⟨fd, ff⟩ := hB0.cell 0 (by rw [List.length_replicate]; decide)
  have hb1 := set_below (k := 0) (v := .int .u8 (c.toNat : Int)) hbm hgw
  have cL := lay_w g 1 8 63 u _ _ hB1 (by decide) (by rw [List.length_set, List.length_replicate]; decide) hu (by rw [List.length_set, List.length_replicate]; decide)
  have e9 : ((List.replicate 64 (0 : UInt8)).set 0 c).take 1 ++ Jr.lay u 8 ++ ((List.replicate 64 (0 : UInt8)).set 0 c).drop (1 + 8) = Jr.fill (c :: Jr.lay u 8) := by
    unfold Jr.fill
    rw [List.length_cons, Jr.lay_length]
    rfl
  rw [e9] at cL
  have CL := Lib.hid cL
  have HB := Lib.hid hb1
  generalize hx : (List.replicate 64 (0 : UInt8))[0]'(by rw [List.length_replicate]; decide) = y at fd
  clear hB1 hB0 hb1 cL e9 hx hbm
  go_wp2_with fail
  refine CL.out.mono ?_
  rintro e w' ⟨rfl, hb, ht⟩
  have HX := Lib.hid (And.intro hb (ht.below (fun k hk => by rw [hk]; exact hgw) HB.out HB.out.size))
  clear hb ht
  go_wp2_with fail
  go_ret
  exact ⟨_, rfl, hgw, HX.out⟩

theorem foot_fill (u : Nat) (hu : u < 9223372036854775808) : Jr.fill (67 :: Jr.lay u 8) = Jr.foot (u : Int) := by unfold Jr.foot; rw [Jr.u64_nat u (by omega)]
set_option maxHeartbeats 1600000 in
set_option maxRecDepth 100000 in
theorem foot_w (u : Nat) (a v : Value) (w : World) (hu : u < 9223372036854775808) :
    Calls Try.prog 36 #[.agg #[.int .i64 (u : Int), a, v]] w fun e w' => ∃ g, e = .returned (.slice (some ⟨g, 0, none⟩) 64 64) ∧ w.heap.size ≤ g ∧ Blk w' g (Jr.foot (u : Int)) ∧ Below w.heap.size w w' := by
  have cT := fun W => titled_w 67 u W hu
  rw [foot_fill u hu] at cT
  have CT := Lib.hid cT
  have hb0 : Below w.heap.size w (w.alloc (.cells #[.int .i64 (u : Int), a, v] 77)) := (Below.refl _ w).alloc (Nat.le_refl _) _
  have HB := Lib.hid hb0
  clear cT hb0
  go_enter Try.func36, Try.ntmps36
  go_wp2_with (refine (CT.out _).mono ?_; rintro e w' ⟨g, rfl, hg, hb, ht⟩)
  go_ret
  exact ⟨_, rfl, Nat.le_trans HB.out.size hg, hb, bt5 HB.out ht⟩

set_option maxHeartbeats 1600000 in
set_option maxRecDepth 100000 in
theorem end_w (x : Value) (a n c : Nat) (ao : Option Addr) (w : World) (ha : a ≤ 1000000) (hn : n ≤ 1000000) :
    Calls Try.prog 35 #[.agg #[x, .int .i64 (a : Int), .slice ao n c]] w fun e w' => e = .returned (.int .i64 ((a + n + 2 : Nat) : Int)) ∧ Below w.heap.size w w' := by
  have cS := fun W => sizeOf_w ao n c W hn
  have CS := Lib.hid cS
  have hb0 : Below w.heap.size w (w.alloc (.cells #[x, .int .i64 (a : Int), .slice ao n c] 77)) := (Below.refl _ w).alloc (Nat.le_refl _) _
  have hr := heap_alloc_new w (.cells #[x, .int .i64 (a : Int), .slice ao n c] 77)
  have HB := Lib.hid hb0
  have hai : (a : Int) ≤ 1000000 := by omega
  have hni : (n : Int) ≤ 1000000 := by omega
  have hw9 : IntKind.i64.wrap ((a : Int) + ((n : Int) + 2)) = ((a + n + 2 : Nat) : Int) := by rw [IntKind.wrap_i64]; omega
  clear cS hb0
  go_enter Try.func35, Try.ntmps35
  go_upto_region 1 with fail
  generalize w.alloc _ = w1 at *
  have l1 := fun p : LateOf w1 => p.cell (blk_cell hr 1 _ rfl).1
  have l2 := fun p : LateOf w1 => p.cell (blk_cell hr 2 _ rfl).1
  refine wp_region_late (by kernel_rfl) (by kernel_rfl) ?_
  iterate 4 quiet_step (fail)
  quiet_step (exact late_same _ (CS.out _))
  iterate 2 quiet_step (fail)
  refine wpQuiet_nil ?_
  intro w2 hw'
  have hb2 : Below w1.heap.size w1 w2 := (by obtain ⟨p, rfl⟩ := hw'; exact p.h)
  have HB2 := Lib.hid (bt5 HB.out hb2)
  clear hw' l1 l2 hr hb2 HB
  go_wp2_with fail
  go_ret
  exact ⟨rfl, HB2.out⟩

/-- 'lay' where the part is followed by what may be anything: a block, its beginning known. -/
theorem mark_bytes (m next at_ : Nat) (hm : m < 9223372036854775808) (hn : next < 9223372036854775808) : Jr.mark m next at_ = Jr.lay m 8 ++ (84 :: (Jr.lay next 8 ++ (Jr.lay at_ 4 ++ (List.replicate 35 0 ++ Jr.lay m 8)))) := by
  unfold Jr.mark; rw [Jr.u64_nat m (by omega), Jr.u64_nat next (by omega)]
def mk_ (m next at_ : Nat) (k : Nat) : List UInt8 :=
  (if 1 ≤ k then Jr.lay m 8 else List.replicate 8 0) ++ ([if 2 ≤ k then 84 else 0] ++ ((if 3 ≤ k then Jr.lay next 8 else List.replicate 8 0) ++ ((if 4 ≤ k then Jr.lay at_ 4 else List.replicate 4 0) ++ (List.replicate 35 0 ++ (if 5 ≤ k then Jr.lay m 8 else List.replicate 8 0)))))
theorem cut3 (A X B Y : List UInt8) (o n : Nat) (h1 : A.length = o) (h2 : X.length = n) : (A ++ (X ++ B)).take o ++ Y ++ (A ++ (X ++ B)).drop (o + n) = A ++ (Y ++ B) := by
  subst h1 h2
  rw [List.take_append, List.take_length, Nat.sub_self, List.take_zero, List.append_nil, List.append_assoc, List.drop_append, List.drop_of_length_le (by omega), Nat.add_sub_cancel_left, List.nil_append, List.drop_append, List.drop_length, Nat.sub_self, List.drop_zero, List.nil_append]
theorem mk_length (m next at_ k : Nat) : (mk_ m next at_ k).length = 64 := by
  unfold mk_
  simp only [List.length_append, List.length_replicate, List.length_singleton]
  (repeat' split) <;> simp [Jr.lay_length]

theorem mk_step0 (m next at_ : Nat) : (mk_ m next at_ 0).take 0 ++ Jr.lay m 8 ++ (mk_ m next at_ 0).drop (0 + 8) = mk_ m next at_ 1 :=
  cut3 [] (List.replicate 8 0) ([0] ++ (List.replicate 8 0 ++ (List.replicate 4 0 ++ (List.replicate 35 0 ++ List.replicate 8 0)))) (Jr.lay m 8) 0 8 rfl rfl
theorem mk_step1 (m next at_ : Nat) : (mk_ m next at_ 1).set 8 84 = mk_ m next at_ 2 := by
  show (Jr.lay m 8 ++ ([0] ++ _)).set 8 84 = Jr.lay m 8 ++ ([84] ++ _)
  rw [List.set_append_right _ _ (by rw [Jr.lay_length]; omega), Jr.lay_length]
  rfl
theorem mk_step2 (m next at_ : Nat) : (mk_ m next at_ 2).take 9 ++ Jr.lay next 8 ++ (mk_ m next at_ 2).drop (9 + 8) = mk_ m next at_ 3 := by
  have := cut3 (Jr.lay m 8 ++ [84]) (List.replicate 8 0) (List.replicate 4 0 ++ (List.replicate 35 0 ++ List.replicate 8 0)) (Jr.lay next 8) 9 8 (by simp [Jr.lay_length]) rfl
  rw [List.append_assoc, List.append_assoc] at this
  exact this
theorem mk_step3 (m next at_ : Nat) : (mk_ m next at_ 3).take 17 ++ Jr.lay at_ 4 ++ (mk_ m next at_ 3).drop (17 + 4) = mk_ m next at_ 4 := by
  have := cut3 (Jr.lay m 8 ++ ([84] ++ Jr.lay next 8)) (List.replicate 4 0) (List.replicate 35 0 ++ List.replicate 8 0) (Jr.lay at_ 4) 17 4 (by simp [Jr.lay_length]) rfl
  simp only [List.append_assoc] at this ⊢
  exact this
theorem mk_step4 (m next at_ : Nat) : (mk_ m next at_ 4).take 56 ++ Jr.lay m 8 ++ (mk_ m next at_ 4).drop (56 + 8) = mk_ m next at_ 5 := by
  have := cut3 (Jr.lay m 8 ++ ([84] ++ (Jr.lay next 8 ++ (Jr.lay at_ 4 ++ List.replicate 35 0)))) (List.replicate 8 0) [] (Jr.lay m 8) 56 8 (by simp [Jr.lay_length]) rfl
  simp only [List.append_assoc, List.append_nil] at this ⊢
  exact this
theorem mk_full (m next at_ : Nat) (hm : m < 9223372036854775808) (hn : next < 9223372036854775808) : mk_ m next at_ 5 = Jr.mark m next at_ := by
  rw [mark_bytes m next at_ hm hn]; rfl

set_option maxHeartbeats 3200000 in
set_option maxRecDepth 100000 in
theorem octets_w (m next at_ : Nat) (w : World) (hm : m < 9223372036854775808) (hn : next < 9223372036854775808) (ha : at_ < 9223372036854775808) :
    Calls Try.prog 44 #[.agg #[.int .i64 (m : Int), .int .i64 (next : Int), .int .i64 (at_ : Int)]] w fun e w' => ∃ g, e = .returned (.slice (some ⟨g, 0, none⟩) 64 64) ∧ w.heap.size ≤ g ∧ Blk w' g (Jr.mark m next at_) ∧ Below w.heap.size w w' := by
  have hmk := made64
  obtain ⟨w1, hw1⟩ : ∃ w1, w1 = w.alloc (.cells #[.int .i64 (m : Int), .int .i64 (next : Int), .int .i64 (at_ : Int)] 63) := ⟨_, rfl⟩
  have hr := heap_alloc_new w (.cells #[.int .i64 (m : Int), .int .i64 (next : Int), .int .i64 (at_ : Int)] 63)
  have hb0 : Below w.heap.size w w1 := by rw [hw1]; exact (Below.refl _ w).alloc (Nat.le_refl _) _
  have hB0 := Blk.made w1 64
  have hbm : Below w1.heap.size w1 (w1.alloc (.cells (madeCells #[.int .u8 0] 64) 5)) := (Below.refl _ w1).alloc (Nat.le_refl _) _
  go_enter Try.func44, Try.ntmps44
  go_upto_region 1 with fail
  rw [← hw1] at hr ⊢
  obtain ⟨q, hq⟩ : ∃ q, q = w.heap.size := ⟨_, rfl⟩
  rw [← hq] at hr ⊢
  have hqw : q < w1.heap.size := lt_of_block hr
  have HQ := Lib.hid hq
  clear hw1 hq
  go_upto_region 2 with fail
  obtain ⟨g, hg⟩ : ∃ g, g = w1.heap.size := ⟨_, rfl⟩
  have hgw : w1.heap.size ≤ g := by rw [hg]; exact Nat.le_refl _
  have hqg : q < g := by omega
  generalize w1.alloc _ = w2 at hB0 hbm ⊢
  rw [← hg] at hB0 ⊢
  have hr := (hbm.block q hqw).trans hr
  have HB : Hid (Below w.heap.size w w2) := Lib.hid (bt5 hb0 hbm)
  have HG : Hid (w.heap.size ≤ g) := Lib.hid (Nat.le_trans hb0.size hgw)
  have hB0 : Blk w2 g (mk_ m next at_ 0) := hB0
  have hB := hB0
  have hR := hr
  clear hg hmk hbm hb0 hgw hqw hr hB0
  have CL := Lib.hid (fun W (hb : Below w2.heap.size w2 W) => lay_w g 0 8 64 m _ W (hB.later hb) (by decide) (by rw [mk_length]; decide) (by omega) (by rw [mk_length]; decide))
  rw [show (mk_ m next at_ 0).take 0 ++ Jr.lay m 8 ++ (mk_ m next at_ 0).drop (0 + 8) = mk_ m next at_ 1 from mk_step0 m next at_] at CL
  have HR := Lib.hid hR
  have l0 := fun p : LateOf w2 => p.cell (blk_cell hR 0 (.int .i64 (m : Int)) rfl).1
  clear hR hB
  go_upto_region 2 with fail
  refine wp_region_late_tail 4 (by kernel_rfl) (by kernel_rfl) ?_
  simp only [List.take_succ_cons, List.take_zero, List.drop_succ_cons, List.drop_zero]
  iterate 4 quiet_step (fail)
  refine wpQuiet_nil ?_
  intro w3a hw'
  have hbl : Below w2.heap.size w2 w3a := by obtain ⟨p, rfl⟩ := hw'; exact p.h
  have HBL := Lib.hid hbl
  clear hw' hbl l0
  go_wp2_with fail
  refine (CL.out _ HBL.out).mono ?_
  rintro e w3 ⟨rfl, hB, ht⟩
  have HT := Lib.hid (bt5 HB.out HBL.out)
  have HB := Lib.hid (ht.below (fun k hk => by rw [hk]; exact HG.out) HT.out HT.out.size)
  have hR := (ht.block q (Nat.lt_of_lt_of_le (lt_of_block HR.out) HBL.out.size) (by omega)).trans ((HBL.out.block q (lt_of_block HR.out)).trans HR.out)
  clear CL HBL HR HT ht
  obtain ⟨fd, ff⟩ := hB.cell 8 (by rw [mk_length]; decide)
  have hB := hB.set 8 84 84 rfl
  rw [show (mk_ m next at_ 1).set 8 84 = mk_ m next at_ 2 from mk_step1 m next at_] at hB
  have HB := Lib.hid (set_below (k := 8) (v := .int .u8 84) HB.out HG.out)
  have hR := (heap_setCell_other w3 ⟨g, 8, none⟩ q (.int .u8 84) (fun e => by have e9 : q = g := e; omega)).trans hR
  have HRB := Lib.hid (And.intro hR hB)
  generalize hy : (mk_ m next at_ 1)[8]'(by rw [mk_length]; decide) = y at fd
  clear hR hB hy
  go_upto_region 4 with fail
  obtain ⟨hR, hB⟩ := HRB.out
  clear HRB fd ff
  generalize w3.setCell _ _ = w4 at *
  have CL := Lib.hid (fun W (hb : Below w4.heap.size w4 W) => lay_w g 9 8 55 next _ W (hB.later hb) (by decide) (by rw [mk_length]; decide) (by omega) (by rw [mk_length]; decide))
  rw [show (mk_ m next at_ 2).take 9 ++ Jr.lay next 8 ++ (mk_ m next at_ 2).drop (9 + 8) = mk_ m next at_ 3 from mk_step2 m next at_] at CL
  have HR := Lib.hid hR
  have l1 := fun p : LateOf w4 => p.cell (blk_cell hR 1 (.int .i64 (next : Int)) rfl).1
  clear hR hB
  go_upto_region 4 with fail
  refine wp_region_late_tail 4 (by kernel_rfl) (by kernel_rfl) ?_
  simp only [List.take_succ_cons, List.take_zero, List.drop_succ_cons, List.drop_zero]
  iterate 4 quiet_step (fail)
  refine wpQuiet_nil ?_
  intro w5a hw'
  have hbl : Below w4.heap.size w4 w5a := by obtain ⟨p, rfl⟩ := hw'; exact p.h
  have HBL := Lib.hid hbl
  clear hw' hbl l1
  go_wp2_with fail
  refine (CL.out _ HBL.out).mono ?_
  rintro e w5 ⟨rfl, hB, ht⟩
  have HT := Lib.hid (bt5 HB.out HBL.out)
  have HB := Lib.hid (ht.below (fun k hk => by rw [hk]; exact HG.out) HT.out HT.out.size)
  have hR := (ht.block q (Nat.lt_of_lt_of_le (lt_of_block HR.out) HBL.out.size) (by omega)).trans ((HBL.out.block q (lt_of_block HR.out)).trans HR.out)
  clear CL HBL HR HT ht
  have CL := Lib.hid (fun W (hb : Below w5.heap.size w5 W) => lay_w g 17 4 47 at_ _ W (hB.later hb) (by decide) (by rw [mk_length]; decide) (by omega) (by rw [mk_length]; decide))
  rw [show (mk_ m next at_ 3).take 17 ++ Jr.lay at_ 4 ++ (mk_ m next at_ 3).drop (17 + 4) = mk_ m next at_ 4 from mk_step3 m next at_] at CL
  have HR := Lib.hid hR
  have l2 := fun p : LateOf w5 => p.cell (blk_cell hR 2 (.int .i64 (at_ : Int)) rfl).1
  clear hR hB
  go_upto_region 5 with fail
  refine wp_region_late_tail 4 (by kernel_rfl) (by kernel_rfl) ?_
  simp only [List.take_succ_cons, List.take_zero, List.drop_succ_cons, List.drop_zero]
  iterate 4 quiet_step (fail)
  refine wpQuiet_nil ?_
  intro w6a hw'
  have hbl : Below w5.heap.size w5 w6a := by obtain ⟨p, rfl⟩ := hw'; exact p.h
  have HBL := Lib.hid hbl
  clear hw' hbl l2
  go_wp2_with fail
  refine (CL.out _ HBL.out).mono ?_
  rintro e w6 ⟨rfl, hB, ht⟩
  have HT := Lib.hid (bt5 HB.out HBL.out)
  have HB := Lib.hid (ht.below (fun k hk => by rw [hk]; exact HG.out) HT.out HT.out.size)
  have hR := (ht.block q (Nat.lt_of_lt_of_le (lt_of_block HR.out) HBL.out.size) (by omega)).trans ((HBL.out.block q (lt_of_block HR.out)).trans HR.out)
  clear CL HBL HR HT ht
  have CL := Lib.hid (fun W (hb : Below w6.heap.size w6 W) => lay_w g 56 8 8 m _ W (hB.later hb) (by decide) (by rw [mk_length]; decide) (by omega) (by rw [mk_length]; decide))
  rw [show (mk_ m next at_ 4).take 56 ++ Jr.lay m 8 ++ (mk_ m next at_ 4).drop (56 + 8) = mk_ m next at_ 5 from mk_step4 m next at_] at CL
  have HR := Lib.hid hR
  have l0 := fun p : LateOf w6 => p.cell (blk_cell hR 0 (.int .i64 (m : Int)) rfl).1
  clear hR hB
  go_upto_region 6 with fail
  refine wp_region_late_tail 4 (by kernel_rfl) (by kernel_rfl) ?_
  simp only [List.take_succ_cons, List.take_zero, List.drop_succ_cons, List.drop_zero]
  iterate 4 quiet_step (fail)
  refine wpQuiet_nil ?_
  intro w7a hw'
  have hbl : Below w6.heap.size w6 w7a := by obtain ⟨p, rfl⟩ := hw'; exact p.h
  have HBL := Lib.hid hbl
  clear hw' hbl l0
  go_wp2_with fail
  refine (CL.out _ HBL.out).mono ?_
  rintro e w7 ⟨rfl, hB, ht⟩
  have HT := Lib.hid (bt5 HB.out HBL.out)
  have HB := Lib.hid (ht.below (fun k hk => by rw [hk]; exact HG.out) HT.out HT.out.size)
  have hR := (ht.block q (Nat.lt_of_lt_of_le (lt_of_block HR.out) HBL.out.size) (by omega)).trans ((HBL.out.block q (lt_of_block HR.out)).trans HR.out)
  clear CL HBL HR HT ht
  rw [mk_full m next at_ hm hn] at hB
  have HX := Lib.hid (And.intro HG.out (And.intro hB HB.out))
  clear hB hR HB HG
  go_wp2_with fail
  go_ret
  exact ⟨g, rfl, HX.out⟩
end Go.Proofs.Ytjdmmnpfjbnhoaa
