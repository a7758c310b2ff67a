/- Package journal, the program: marks read. -/
import Derived.Test.YtjdmmnpfjbnhoaaJvI
import Derived.BigRegion
import Derived.Laws.ResultCell
namespace Go.Proofs.Ytjdmmnpfjbnhoaa
open Go.RowKit

theorem and_one_int (n : Int) : bits .and .i64 n 1 = n % 2 := by
  have key : (BitVec.ofInt 64 n &&& BitVec.ofInt 64 1).toNat = (n % ((2 ^ 64 : Nat) : Int)).toNat % 2 ^ 1 := by
    rw [BitVec.toNat_and, BitVec.toNat_ofInt, show (BitVec.ofInt 64 1).toNat = 2 ^ 1 - 1 from by decide, Nat.and_two_pow_sub_one_eq_mod]
  show IntKind.i64.wrap ((BitVec.ofInt 64 n &&& BitVec.ofInt 64 1).toNat : Nat) = n % 2
  rw [key, IntKind.wrap_i64]
  omega
/-- Handing back a struct of three cells, and a Bool. -/
theorem ret_three {fn : Func} {p u : Tmp} {T : TypeId} (h : fn.results = #[.cell p T, .tmp u]) {R : Ending → World → Prop} {a : Act} {w : World} (g : Nat) (x y z b : Value)
    (hp : a.tmps.getD p undef = .pointer (some ⟨g, 0, none⟩)) (e : (loadVar T ⟨g, 0, none⟩).run Try.prog w = .ok (.agg #[x, y, z]) w) (hd0 : a.defers = []) (hub : a.tmps.getD u undef = b) (hR : R (.returned (.tuple #[.agg #[x, y, z], b])) w) : bodyPost Try.prog fn R .ret a w := by
  refine bodyPost_ret (v := .tuple #[.agg #[x, y, z], b]) ?_ hd0 hR
  rw [results_cell_tmp h, hp]
  simp [asAddr, Result.andThen, e, hub]
theorem load_mark {w : World} {g : Nat} {x y z : Value} (hg : w.heap[g]? = some (.cells #[x, y, z] 63 (0, 0))) : (loadVar 63 ⟨g, 0, none⟩).run Try.prog w = .ok (.agg #[x, y, z]) w := run_loadVar_row (P := Try.prog) w g 63 63 #[x, y, z] (0, 0) _ hg Try.underlying63 rfl (by kernel_rfl)
theorem load_record {w : World} {g : Nat} {x y z : Value} (hg : w.heap[g]? = some (.cells #[x, y, z] 77 (0, 0))) : (loadVar 77 ⟨g, 0, none⟩).run Try.prog w = .ok (.agg #[x, y, z]) w := run_loadVar_row (P := Try.prog) w g 77 77 #[x, y, z] (0, 0) _ hg Try.underlying77 rfl (by kernel_rfl)
theorem BIn.part {w : World} {b o cap : Nat} {l : List UInt8} (h : BIn w (.slice (some ⟨b, o, none⟩) 64 cap) l) (hl : l.length = 64) (hc : 64 ≤ cap) (K m : Nat) (hk : K + m ≤ 64) (hm : 0 < m) : BIn w (.slice (some ⟨b, o + K, none⟩) m (cap - K)) ((l.drop K).take m) := by
  have := h.mid K (K + m) (by omega) (by omega)
  rw [if_neg (by omega), Addr.add_lit, List.drop_take, Nat.add_sub_cancel_left] at this
  exact this
set_option maxHeartbeats 6400000 in
set_option maxRecDepth 100000 in
theorem markOn_w (g from_ n i : Nat) (v : Value) (l : List UInt8) (w : World) (h : BIn w v l) (hl : l.length = 64) (hn : n ≤ 1000000) :
    Calls Try.prog 47 #[.agg #[.pointer (some ⟨g, 0, none⟩), .int .i64 (from_ : Int), .int .i64 (n : Int)], .int .i64 (i : Int), v] w fun e w' => e = .returned (.tuple #[.agg #[.int .i64 (Jr.num (l.take 8)), .int .i64 (Jr.num ((l.drop 9).take 8)), .int .i64 (Jr.unum ((l.drop 17).take 4) : Int)], .bool (Jr.readMark l i n).isSome]) ∧ Below w.heap.size w w' := by
  obtain ⟨ao, cap, rfl, hc, hc9, hg⟩ := id h
  rw [hl] at hc h ⊢
  obtain ⟨b, o, rfl, hb, hcell⟩ := hg.resolve_left (fun e => by rw [e] at hl; cases hl)
  have q8 := hcell 8 (by omega)
  have b1 := h.part hl hc 0 8 (by decide) (by decide)
  have b2 := h.part hl hc 9 8 (by decide) (by decide)
  have b3 := h.part hl hc 17 4 (by decide) (by decide)
  have b4 := h.part hl hc 56 8 (by decide) (by decide)
  rw [List.drop_zero, Nat.add_zero, Nat.sub_zero] at b1
  rw [show (l.drop 56).take 8 = l.drop 56 from List.take_of_length_le (by rw [List.length_drop]; omega)] at b4
  have C1 := Lib.hid (fun W (hb : Below w.heap.size w W) => numeral_w _ _ W (b1.later hb))
  have C2 := Lib.hid (fun W (hb : Below w.heap.size w W) => numeral_w _ _ W (b2.later hb))
  have C3 := Lib.hid (fun W (hb : Below w.heap.size w W) => numeral_w _ _ W (b3.later hb))
  have C4 := Lib.hid (fun W (hb : Below w.heap.size w W) => numeral_w _ _ W (b4.later hb))
  rw [Jr.num_small _ (by rw [List.length_take, List.length_drop]; omega)] at C3
  have hr1 := Jr.num_range (l.take 8)
  have hr2 := Jr.num_range ((l.drop 9).take 8)
  have hr3 : Jr.unum ((l.drop 17).take 4) < 9223372036854775808 := by
    have := Jr.unum_small ((l.drop 17).take 4) (by rw [List.length_take]; omega)
    rw [List.length_take, List.length_drop, hl] at this
    exact Nat.lt_trans this (by decide)
  have hrd : (Jr.readMark l i n).isSome = ((decide (Jr.num (l.take 8) = Jr.num (l.drop 56)) && decide (l[8] = 84)) && decide (Jr.num (l.take 8) ≠ 0) && decide (Jr.num (l.take 8) % 2 = (i : Int)) && decide (2 ≤ Jr.unum ((l.drop 17).take 4)) && decide (Jr.unum ((l.drop 17).take 4) ≤ n)) := by
    unfold Jr.readMark
    rw [get0 8 (by omega)]
    split
    · rename_i hh
      obtain ⟨x1, x2, x3, x4, x5, x6⟩ := hh
      rw [decide_eq_true x1, decide_eq_true x2, decide_eq_true x3, decide_eq_true x4, decide_eq_true x5, decide_eq_true x6]
      rfl
    · rename_i hh
      show false = _
      symm
      refine Bool.eq_false_iff.2 fun hx => ?_
      simp only [Bool.and_eq_true, decide_eq_true_eq] at hx
      exact hh ⟨hx.1.1.1.1.1, hx.1.1.1.2, hx.1.1.2, hx.1.1.1.1.2, hx.1.2, hx.2⟩
  rw [hrd]
  have hA1 : (Jr.num (l.take 8) == Jr.num (l.drop 56)) = decide (Jr.num (l.take 8) = Jr.num (l.drop 56)) := rfl
  have hA2 : ((l[8].toNat : Int) == 84) = decide (l[8] = 84) := by
    by_cases e : l[8] = 84
    · rw [e]; rfl
    · rw [decide_eq_false e]
      have : l[8].toNat ≠ (84 : UInt8).toNat := fun h => e (UInt8.toNat_inj.1 h)
      have h84 : (84 : UInt8).toNat = 84 := rfl
      simp; omega
  have hB : (Jr.num (l.take 8) != 0) = decide (Jr.num (l.take 8) ≠ 0) := by
    by_cases e : Jr.num (l.take 8) = 0
    · rw [e]; rfl
    · rw [decide_eq_true e]; exact bne_iff_ne.2 e
  have hC : (Jr.num (l.take 8) % 2 == (i : Int)) = decide (Jr.num (l.take 8) % 2 = (i : Int)) := rfl
  have hDi : decide ((2 : Int) ≤ (Jr.unum ((l.drop 17).take 4) : Int)) = decide (2 ≤ Jr.unum ((l.drop 17).take 4)) := by
    by_cases e : 2 ≤ Jr.unum ((l.drop 17).take 4)
    · rw [decide_eq_true e]; exact decide_eq_true (by omega)
    · rw [decide_eq_false e]; exact decide_eq_false (by omega)
  have hEi : decide ((Jr.unum ((l.drop 17).take 4) : Int) ≤ (n : Int)) = decide (Jr.unum ((l.drop 17).take 4) ≤ n) := by
    by_cases e : Jr.unum ((l.drop 17).take 4) ≤ n
    · rw [decide_eq_true e]; exact decide_eq_true (by omega)
    · rw [decide_eq_false e]; exact decide_eq_false (by omega)
  have hand := and_one_int (Jr.num (l.take 8))
  generalize (Jr.num (l.take 8) : Int) = M at *
  generalize (Jr.num (l.drop 56) : Int) = M2 at *
  generalize (Jr.num ((l.drop 9).take 8) : Int) = NX at *
  generalize Jr.unum ((l.drop 17).take 4) = AT at *
  generalize decide (M = M2) = A1 at *
  generalize decide (l[8] = 84) = A2 at *
  generalize decide (M ≠ 0) = B at *
  generalize decide (M % 2 = (i : Int)) = C at *
  rw [← hand] at hC
  generalize decide (2 ≤ AT) = D at *
  generalize hE9 : decide (AT ≤ n) = E at *
  have HE9 := Lib.hid hE9
  clear hE9
  generalize (l[8].toNat : Int) = x8 at *
  clear hrd hcell hg h b1 b2 b3 b4 hl hn
  obtain ⟨WW, hWW⟩ : ∃ WW, WW = (A1 && A2) := ⟨_, rfl⟩
  have HW := Lib.hid hWW
  rw [← hWW]
  clear hWW
  have hq0 := heap_alloc2_new w (.cells #[.pointer (some ⟨g, 0, none⟩), .int .i64 (from_ : Int), .int .i64 (n : Int)] 59) (.cells #[.int .i64 0, .int .i64 0, .int .i64 0] 63)
  have hq1 : ((w.alloc (.cells #[.pointer (some ⟨g, 0, none⟩), .int .i64 (from_ : Int), .int .i64 (n : Int)] 59)).alloc (.cells #[.int .i64 0, .int .i64 0, .int .i64 0] 63)).heap[w.heap.size]? = some (.cells #[.pointer (some ⟨g, 0, none⟩), .int .i64 (from_ : Int), .int .i64 (n : Int)] 59) := by
    rw [((Below.refl _ _).alloc (Nat.le_refl _) _ : Below (w.alloc (.cells #[.pointer (some ⟨g, 0, none⟩), .int .i64 (from_ : Int), .int .i64 (n : Int)] 59)).heap.size (w.alloc (.cells #[.pointer (some ⟨g, 0, none⟩), .int .i64 (from_ : Int), .int .i64 (n : Int)] 59)) _).block w.heap.size (by simp)]
    exact heap_alloc_new w _
  have hb2 : Below w.heap.size w ((w.alloc (.cells #[.pointer (some ⟨g, 0, none⟩), .int .i64 (from_ : Int), .int .i64 (n : Int)] 59)).alloc (.cells #[.int .i64 0, .int .i64 0, .int .i64 0] 63)) := ((Below.refl _ w).alloc (Nat.le_refl _) _).alloc (by simp) _
  have hci : (64 : Int) ≤ cap := by omega
  have hcm : ¬ cap = 9 := by omega
  have hcn : ¬ cap = 17 := by omega
  have hco : ¬ cap = 56 := by omega
  go_enter Try.func47, Try.ntmps47
  go_upto_region 1 with fail
  obtain ⟨q3, hq3⟩ : ∃ q3, q3 = w.heap.size := ⟨_, rfl⟩
  obtain ⟨q6, hq6⟩ : ∃ q6, q6 = w.heap.size + 1 := ⟨_, rfl⟩
  rw [← hq6] at hq0 ⊢
  rw [← hq3] at hq1 ⊢
  generalize hw2 : (w.alloc _).alloc _ = w2 at hq0 hq1 hb2 ⊢
  have hs2 : w2.heap.size = w.heap.size + 2 := by rw [← hw2]; simp
  have HQ := Lib.hid (And.intro hq0 (And.intro hq1 (And.intro hb2 (And.intro hq3 (And.intro hq6 hs2)))))
  have HQ8 := Lib.hid q8
  clear hw2 hs2 hq3 hq6 hq0 hq1 hb2 q8
  have HF := Lib.hid (And.intro hA1 (And.intro hA2 (And.intro hB (And.intro hC (And.intro hDi hEi)))))
  clear hA1 hA2 hB hC hDi hEi hand
  refine Rel.region_tail 11 (by kernel_rfl) [some 10, some 11, some 12, some 13, some 14, some 15, some 16, some 17, some 18, some 19, some 8, none] (by kernel_rfl) (by kernel_rfl) (by kernel_rfl) [.eq (.slice (some ⟨b, o, none⟩) 64 cap), .eq (.slice (some ⟨b, o, none⟩) 8 cap), .eq (.int .i64 M), .eq (.slice (some ⟨b, o, none⟩) 64 cap), .eq (.slice (some ⟨b, o + 9, none⟩) 8 (cap - 9)), .eq (.int .i64 NX), .eq (.slice (some ⟨b, o, none⟩) 64 cap), .eq (.slice (some ⟨b, o + 17, none⟩) 4 (cap - 17)), .eq (.int .i64 (AT : Int)), .eq (.agg #[.int .i64 M, .int .i64 NX, .int .i64 (AT : Int)]), ⟨fun v w9 => ∃ r, v = .pointer (some ⟨r, 0, none⟩) ∧ w2.heap.size ≤ r ∧ w9.heap[r]? = some (.cells #[.int .i64 0, .int .i64 0, .int .i64 0] 63 (0, 0)), fun _ _ _ h hb => by obtain ⟨r, h1, h2, h3⟩ := h; exact ⟨r, h1, h2, (hb.block r (lt_of_block h3)).trans h3⟩⟩] ⟨?_, ?_, ?_, ?_, ?_, ?_, ?_, ?_, ?_, ?_, ?_, trivial⟩ ?_
  · intro u w9 hb9 hd9
    clear hd9
    refine ⟨?_⟩
    simp only [Rel.canD, List.take_zero]
    go_wp2_with fail
    exact ⟨rfl, rfl, Below.refl _ _, rfl⟩
  · intro u w9 hb9 hd9
    have e0 : u 0 = .slice (some ⟨b, o, none⟩) 64 cap := hd9 0 (by kernel_rfl)
    clear hd9
    refine ⟨?_⟩
    simp only [Rel.canD, List.take_succ_cons, List.take_zero, Nat.reduceAdd]
    go_wp2_with fail
    exact ⟨rfl, rfl, Below.refl _ _, rfl⟩
  · intro u w9 hb9 hd9
    have e1 : u 1 = .slice (some ⟨b, o, none⟩) 8 cap := hd9 1 (by kernel_rfl)
    clear hd9
    have c9 := C1.out w9 (bt5 HQ.out.2.2.1 hb9)
    refine ⟨?_⟩
    simp only [Rel.canD, List.take_succ_cons, List.take_zero, Nat.reduceAdd]
    go_wp2_with fail
    refine c9.mono ?_
    rintro e w8 ⟨rfl, rfl⟩
    go_wp2_with fail
    exact ⟨rfl, rfl, Below.refl _ _, rfl⟩
  · intro u w9 hb9 hd9
    clear hd9
    refine ⟨?_⟩
    simp only [Rel.canD, List.take_succ_cons, List.take_zero, Nat.reduceAdd]
    go_wp2_with fail
    exact ⟨rfl, rfl, Below.refl _ _, rfl⟩
  · intro u w9 hb9 hd9
    have e3 : u 3 = .slice (some ⟨b, o, none⟩) 64 cap := hd9 3 (by kernel_rfl)
    clear hd9
    refine ⟨?_⟩
    simp only [Rel.canD, List.take_succ_cons, List.take_zero, Nat.reduceAdd]
    go_wp2_with fail
    exact ⟨rfl, rfl, Below.refl _ _, rfl⟩
  · intro u w9 hb9 hd9
    have e4 : u 4 = .slice (some ⟨b, o + 9, none⟩) 8 (cap - 9) := hd9 4 (by kernel_rfl)
    clear hd9
    have c9 := C2.out w9 (bt5 HQ.out.2.2.1 hb9)
    refine ⟨?_⟩
    simp only [Rel.canD, List.take_succ_cons, List.take_zero, Nat.reduceAdd]
    go_wp2_with fail
    refine c9.mono ?_
    rintro e w8 ⟨rfl, rfl⟩
    go_wp2_with fail
    exact ⟨rfl, rfl, Below.refl _ _, rfl⟩
  · intro u w9 hb9 hd9
    clear hd9
    refine ⟨?_⟩
    simp only [Rel.canD, List.take_succ_cons, List.take_zero, Nat.reduceAdd]
    go_wp2_with fail
    exact ⟨rfl, rfl, Below.refl _ _, rfl⟩
  · intro u w9 hb9 hd9
    have e6 : u 6 = .slice (some ⟨b, o, none⟩) 64 cap := hd9 6 (by kernel_rfl)
    clear hd9
    refine ⟨?_⟩
    simp only [Rel.canD, List.take_succ_cons, List.take_zero, Nat.reduceAdd]
    go_wp2_with fail
    exact ⟨rfl, rfl, Below.refl _ _, rfl⟩
  · intro u w9 hb9 hd9
    have e7 : u 7 = .slice (some ⟨b, o + 17, none⟩) 4 (cap - 17) := hd9 7 (by kernel_rfl)
    clear hd9
    have c9 := C3.out w9 (bt5 HQ.out.2.2.1 hb9)
    refine ⟨?_⟩
    simp only [Rel.canD, List.take_succ_cons, List.take_zero, Nat.reduceAdd]
    go_wp2_with fail
    refine c9.mono ?_
    rintro e w8 ⟨rfl, rfl⟩
    go_wp2_with fail
    exact ⟨rfl, rfl, Below.refl _ _, rfl⟩
  · intro u w9 hb9 hd9
    have e2 : u 2 = .int .i64 M := hd9 2 (by kernel_rfl)
    have e5 : u 5 = .int .i64 NX := hd9 5 (by kernel_rfl)
    have e8 : u 8 = .int .i64 (AT : Int) := hd9 8 (by kernel_rfl)
    clear hd9
    refine ⟨?_⟩
    simp only [Rel.canD, List.take_succ_cons, List.take_zero, Nat.reduceAdd]
    go_wp2_with fail
    exact ⟨rfl, rfl, Below.refl _ _, rfl⟩
  · intro u w9 hb9 hd9
    clear hd9
    have hbx : Below w9.heap.size w9 (w9.alloc (.cells #[.int .i64 0, .int .i64 0, .int .i64 0] 63)) := (Below.refl _ w9).alloc (Nat.le_refl _) _
    have hnx := heap_alloc_new w9 (.cells #[.int .i64 0, .int .i64 0, .int .i64 0] 63)
    have hsx := hb9.size
    refine ⟨?_⟩
    simp only [Rel.canD, List.take_succ_cons, List.take_zero, Nat.reduceAdd]
    go_wp2_with fail
    exact ⟨rfl, rfl, hbx, w9.heap.size, rfl, hsx, hnx⟩
  intro u w9 hb9 hR9
  simp only [Rel.canD, Nat.reduceAdd, List.take_succ_cons, List.take_zero, List.drop_succ_cons, List.drop_zero]
  obtain ⟨r, h10, hr9, hh9⟩ := hR9 10 (by decide)
  have h9 : u 9 = .agg #[.int .i64 M, .int .i64 NX, .int .i64 (AT : Int)] := hR9 9 (by decide)
  rw [h10, h9]
  obtain ⟨s9, t9⟩ := set3 hh9 (.int .i64 M) (.int .i64 NX) (.int .i64 (AT : Int))
  have e0 := blk_cell hh9 0 (.int .i64 0) rfl
  have e1 := blk_cell hh9 1 (.int .i64 0) rfl
  have e2 := blk_cell hh9 2 (.int .i64 0) rfl
  go_simp
  go_upto_region 2 with fail
  have hbw := bt5 HQ.out.2.2.1 hb9
  have hq3 := (hb9.block q3 (lt_of_block HQ.out.2.1)).trans HQ.out.2.1
  have hq6 := (hb9.block q6 (lt_of_block HQ.out.1)).trans HQ.out.1
  have h36 : q3 ≠ q6 := by have := HQ.out.2.2.2.1; have := HQ.out.2.2.2.2.1; omega
  have hr3 : r ≠ q3 := by have := HQ.out.2.2.2.1; have := HQ.out.2.2.2.2.2; omega
  have hr6 : r ≠ q6 := by have := HQ.out.2.2.2.2.1; have := HQ.out.2.2.2.2.2; omega
  have hq3 := (t9.block q3 (lt_of_block hq3) (fun e => hr3 e.symm)).trans hq3
  have hq6 := (t9.block q6 (lt_of_block hq6) (fun e => hr6 e.symm)).trans hq6
  have hb4 := t9.below (fun k hk => by have := HQ.out.2.2.2.2.2; omega : ∀ k, k = r → w.heap.size ≤ k) hbw hbw.size
  have H3 := Lib.hid (And.intro s9 (And.intro hq3 (And.intro hq6 hb4)))
  clear s9 t9 e0 e1 e2 hbw hq3 hq6 hb4 hb9 hR9 hh9 hr9 h10 h9
  generalize World.setCell _ _ _ = w3 at *
  go_cut [9] (fun v9 wx => v9 = .bool WW ∧ ∃ w9, w9 = wx ∧ Below w3.heap.size w3 wx)
  case first =>
    have hb3 := cell_later H3.out.2.2.2 HQ8.out
    have l0 := fun p : LateOf w3 => p.cell (blk_cell H3.out.1 0 (.int .i64 M) rfl).1
    have l8 := fun p : LateOf w3 => p.cell hb3
    have f1 := HF.out.1
    have f2 := HF.out.2.1
    have C4 := Lib.hid (fun W (hb : Below w3.heap.size w3 W) => C4.out W (bt5 H3.out.2.2.2 hb))
    cases A1 with
    | true =>
      refine wp_region_late (by kernel_rfl) (by kernel_rfl) ?_
      iterate 4 quiet_step (fail)
      quiet_step (exact late_same _ (C4.out _ (LateOf.h _)))
      iterate 8 quiet_step (fail)
      refine wpQuiet_nil ?_
      intro w4 hw'
      have hb2 : Below w3.heap.size w3 w4 := (by obtain ⟨p, rfl⟩ := hw'; exact p.h)
      clear hw' l0 l8
      go_wp2_with fail
      go_meet
      exact ⟨by rw [HW.out]; rfl, _, rfl, hb2⟩
    | false =>
      refine wp_region_late (by kernel_rfl) (by kernel_rfl) ?_
      iterate 4 quiet_step (fail)
      quiet_step (exact late_same _ (C4.out _ (LateOf.h _)))
      iterate 8 quiet_step (fail)
      refine wpQuiet_nil ?_
      intro w4 hw'
      have hb2 : Below w3.heap.size w3 w4 := (by obtain ⟨p, rfl⟩ := hw'; exact p.h)
      clear hw' l0 l8
      go_wp2_with fail
      go_meet
      exact ⟨by rw [HW.out]; rfl, _, rfl, hb2⟩
  case rest =>
    obtain ⟨rfl, w4, rfl, hb4⟩ := hcut
    have hr4 := (hb4.block r (lt_of_block H3.out.1)).trans H3.out.1
    have hq3 := (hb4.block q3 (lt_of_block H3.out.2.1)).trans H3.out.2.1
    have hq6 := (hb4.block q6 (lt_of_block H3.out.2.2.1)).trans H3.out.2.2.1
    have hbw := bt5 H3.out.2.2.2 hb4
    have c0 := (blk_cell hr4 0 (.int .i64 M) rfl).1
    have c1 := (blk_cell hr4 1 (.int .i64 NX) rfl).1
    have c2 := (blk_cell hr4 2 (.int .i64 (AT : Int)) rfl).1
    have p2 := (blk_cell hq3 2 (.int .i64 (n : Int)) rfl).1
    have d0 := blk_cell hq6 0 (.int .i64 0) rfl
    have d1 := blk_cell hq6 1 (.int .i64 0) rfl
    have d2 := blk_cell hq6 2 (.int .i64 0) rfl
    obtain ⟨s9, t9⟩ := set3 hq6 (.int .i64 M) (.int .i64 NX) (.int .i64 (AT : Int))
    have HX := Lib.hid (And.intro s9 (t9.below (fun k hk => by have := HQ.out.2.2.2.2.1; omega : ∀ k, k = q6 → w.heap.size ≤ k) hbw hbw.size))
    obtain ⟨-, -, f3, f4, f5, f6⟩ := HF.out
    clear s9 t9 hr4 hq3 hq6 hbw hb4
    go_upto_region 3 with fail
    cases WW with
    | false =>
      go_region
      go_wp2_with fail
      refine ret_three rfl q6 _ _ _ _ rfl (load_mark HX.out.1) rfl rfl ?_
      exact ⟨rfl, HX.out.2.drew⟩
    | true =>
      cases B with
      | false =>
        go_region
        go_wp2_with fail
        refine ret_three rfl q6 _ _ _ _ rfl (load_mark HX.out.1) rfl rfl ?_
        exact ⟨rfl, HX.out.2.drew⟩
      | true =>
        cases C with
        | false =>
          go_region
          go_wp2_with fail
          refine ret_three rfl q6 _ _ _ _ rfl (load_mark HX.out.1) rfl rfl ?_
          exact ⟨rfl, HX.out.2.drew⟩
        | true =>
          cases D with
          | false =>
            go_region
            go_wp2_with fail
            refine ret_three rfl q6 _ _ _ _ rfl (load_mark HX.out.1) rfl rfl ?_
            exact ⟨rfl, HX.out.2.drew⟩
          | true =>
            cases E with
            | false =>
              go_region
              go_wp2_with fail
              refine ret_three rfl q6 _ _ _ _ rfl (load_mark HX.out.1) rfl rfl ?_
              exact ⟨congrArg (fun b => Ending.returned (Value.tuple #[.agg #[.int .i64 M, .int .i64 NX, .int .i64 (AT : Int)], .bool b])) HE9.out, HX.out.2.drew⟩
            | true =>
              go_region
              go_wp2_with fail
              refine ret_three rfl q6 _ _ _ _ rfl (load_mark HX.out.1) rfl rfl ?_
              exact ⟨congrArg (fun b => Ending.returned (Value.tuple #[.agg #[.int .i64 M, .int .i64 NX, .int .i64 (AT : Int)], .bool b])) HE9.out, HX.out.2.drew⟩
end Go.Proofs.Ytjdmmnpfjbnhoaa
