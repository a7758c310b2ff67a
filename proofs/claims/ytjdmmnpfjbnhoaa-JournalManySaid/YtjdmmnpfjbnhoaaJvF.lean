/- Package journal, the program: a place of a device. -/
import Derived.Test.YtjdmmnpfjbnhoaaJvE
import Derived.Test.YtjdmmnpfjbnhoaaDvP
namespace Go.Proofs.Ytjdmmnpfjbnhoaa
open Go.RowKit

theorem Dev13.blk {w : World} {g : Nat} {d : Dv.S} {F : Nat → Prop} (h : Dev13 w g d F) : (∃ bs, w.cell? ⟨g, 0, none⟩ = some (.slice (some ⟨bs, 0, none⟩) d.safe.length d.safe.length)) ∧ d.safe.length ≤ 65536 := by
  obtain ⟨n, bs, bv, wv, fv, L, hM, _⟩ := h.ex
  rw [hM.lS]
  exact ⟨⟨bs, hM.c0⟩, hM.le⟩
theorem Dev13.later {w w' : World} {g : Nat} {d : Dv.S} {F : Nat → Prop} (h : Dev13 w g d F) (hb : Below w.heap.size w w') : Dev13 w' g d F := h.keep hb.size (fun k hk => hb.block k (h.lt k hk))
set_option maxHeartbeats 1600000 in
set_option maxRecDepth 100000 in
theorem size_w (g : Nat) (d : Dv.S) (F : Nat → Prop) (w : World) (h : Dev13 w g d F) :
    Calls Try.prog 43 #[.pointer (some ⟨g, 0, none⟩)] w fun e w' => e = .returned (.int .i64 (d.safe.length : Int)) ∧ w = w' := by
  obtain ⟨⟨bs, c0⟩, hl⟩ := h.blk
  generalize d.safe.length = s at *
  clear h
  go_enter Try.func43, Try.ntmps43
  go_wp2_with fail
  go_ret
  exact ⟨rfl, rfl⟩
abbrev pv (g from_ n : Nat) : Value := .agg #[.pointer (some ⟨g, 0, none⟩), .int .i64 (from_ : Int), .int .i64 (n : Int)]

set_option maxHeartbeats 1600000 in
set_option maxRecDepth 100000 in
theorem right_w (g from_ n : Nat) (d : Dv.S) (F : Nat → Prop) (w : World) (h : Dev13 w g d F) (hn : 5 ≤ n) (hf : from_ + n ≤ d.safe.length) :
    Calls Try.prog 16 #[.agg #[.pointer (some ⟨g, 0, none⟩), .int .i64 (from_ : Int), .int .i64 (n : Int)]] w fun e w' => e = .returned (.int .i64 0) ∧ Below w.heap.size w w' := by
  have hl := h.blk.2
  have CS := Lib.hid (fun W (hb : Below w.heap.size w W) => size_w g d F W (h.later hb))
  have hr := heap_alloc_new w (.cells #[.pointer (some ⟨g, 0, none⟩), .int .i64 (from_ : Int), .int .i64 (n : Int)] 59)
  have hb0 : Below w.heap.size w (w.alloc (.cells #[.pointer (some ⟨g, 0, none⟩), .int .i64 (from_ : Int), .int .i64 (n : Int)] 59)) := (Below.refl _ w).alloc (Nat.le_refl _) _
  have h1 : ¬ (n : Int) < 5 := by omega
  have h2 : ¬ (from_ : Int) < 0 := by omega
  generalize d.safe.length = s at *
  have h3 : ¬ (s : Int) - (from_ : Int) < (n : Int) := by omega
  have hw9 : IntKind.i64.wrap ((s : Int) - (from_ : Int)) = (s : Int) - (from_ : Int) := by rw [IntKind.wrap_i64]; omega
  have h4 : (s : Int) ≤ 65536 := by omega
  have h5 : (from_ : Int) ≤ 65536 := by omega
  have h6 : (n : Int) ≤ 65536 := by omega
  clear h hf
  go_enter Try.func16, Try.ntmps16
  go_upto_region 3 with fail
  generalize w.alloc _ = w1 at *
  have l0 := fun p : LateOf w1 => p.cell (blk_cell hr 0 (.pointer (some ⟨g, 0, none⟩)) rfl).1
  have l1 := fun p : LateOf w1 => p.cell (blk_cell hr 1 (.int .i64 (from_ : Int)) rfl).1
  have l2 := fun p : LateOf w1 => p.cell (blk_cell hr 2 (.int .i64 (n : Int)) rfl).1
  have HB := Lib.hid hb0
  clear hr hb0
  refine wp_region_late (by kernel_rfl) (by kernel_rfl) ?_
  iterate 13 quiet_step (fail)
  quiet_step (exact late_same _ (CS.out _ (bt5 HB.out (LateOf.h _))))
  iterate 6 quiet_step (fail)
  refine wpQuiet_nil ?_
  intro w2 hw'
  have hb2 : Below w1.heap.size w1 w2 := (by obtain ⟨p, rfl⟩ := hw'; exact p.h)
  have HB2 := Lib.hid (bt5 HB.out hb2)
  clear hw' l0 l1 l2 hb2 HB
  go_wp2_with fail
  go_ret
  exact ⟨rfl, HB2.out⟩

set_option maxHeartbeats 1600000 in
set_option maxRecDepth 100000 in
theorem outside_w (g from_ n at_ : Nat) (d : Dv.S) (F : Nat → Prop) (w : World) (h : Dev13 w g d F) (hf : from_ + n ≤ 1000000) :
    Calls Try.prog 53 #[.agg #[.pointer (some ⟨g, 0, none⟩), .int .i64 (from_ : Int), .int .i64 (n : Int)], .int .i64 (at_ : Int)] w fun e w' => e = .returned (.bool (decide (Jr.outside at_ d.safe.length from_ n))) ∧ Below w.heap.size w w' := by
  have hl := h.blk.2
  have CS := Lib.hid (fun W (hb : Below w.heap.size w W) => size_w g d F W (h.later hb))
  have hr := heap_alloc_new w (.cells #[.pointer (some ⟨g, 0, none⟩), .int .i64 (from_ : Int), .int .i64 (n : Int)] 59)
  have hb0 : Below w.heap.size w (w.alloc (.cells #[.pointer (some ⟨g, 0, none⟩), .int .i64 (from_ : Int), .int .i64 (n : Int)] 59)) := (Below.refl _ w).alloc (Nat.le_refl _) _
  have h1 : (0 : Int) ≤ (at_ : Int) := by omega
  have h2 : (from_ : Int) ≤ 1000000 := by omega
  have h3 : (n : Int) ≤ 1000000 := by omega
  obtain ⟨r, hres⟩ : ∃ r, r = decide (Jr.outside at_ d.safe.length from_ n) := ⟨_, rfl⟩
  rw [← hres]
  unfold Jr.outside at hres
  generalize d.safe.length = s at *
  have HB := Lib.hid hb0
  clear h hf hl
  by_cases h4 : at_ < s
  · have h4i : (at_ : Int) < s := by omega
    by_cases h5 : at_ < from_
    · have h5i : (at_ : Int) < from_ := by omega
      have hr9 : r = true := hres.trans (decide_eq_true (by omega))
      subst hr9
      clear hres hr
      go_enter Try.func53, Try.ntmps53
      go_wp2_with fail
      refine (CS.out _ HB.out).mono ?_
      rintro e w' ⟨rfl, rfl⟩
      go_wp2_with fail
      go_ret
      exact ⟨rfl, HB.out⟩
    · have h5i : ¬ (at_ : Int) < from_ := by omega
      by_cases h6 : from_ + n ≤ at_
      · have h6i : (from_ : Int) + (n : Int) ≤ (at_ : Int) := by omega
        have hr9 : r = true := hres.trans (decide_eq_true (by omega))
        subst hr9
        clear hres hr
        go_enter Try.func53, Try.ntmps53
        go_wp2_with fail
        refine (CS.out _ HB.out).mono ?_
        rintro e w' ⟨rfl, rfl⟩
        go_wp2_with fail
        go_ret
        exact ⟨rfl, HB.out⟩
      · have h6i : ¬ (from_ : Int) + (n : Int) ≤ (at_ : Int) := by omega
        have hr9 : r = false := hres.trans (decide_eq_false (by omega))
        subst hr9
        clear hres hr
        go_enter Try.func53, Try.ntmps53
        go_wp2_with fail
        refine (CS.out _ HB.out).mono ?_
        rintro e w' ⟨rfl, rfl⟩
        go_wp2_with fail
        go_ret
        exact ⟨congrArg (fun b => Ending.returned (.bool b)) (decide_eq_false (Int.not_le.2 h6i)), HB.out⟩
  · have h4i : ¬ (at_ : Int) < s := by omega
    have hr9 : r = false := hres.trans (decide_eq_false (by omega))
    subst hr9
    clear hres hr
    go_enter Try.func53, Try.ntmps53
    go_wp2_with fail
    refine (CS.out _ HB.out).mono ?_
    rintro e w' ⟨rfl, rfl⟩
    go_wp2_with fail
    go_ret
    exact ⟨rfl, HB.out⟩

theorem BsOut.later {F : Nat → Prop} {w w' : World} {v : Value} {ls : List (List UInt8)} (h : BsOut F w v ls) (hb : Below w.heap.size w w') : BsOut F w' v ls := h.touch (Touch.of hb) (fun _ hk => .inl hk)
set_option maxHeartbeats 1600000 in
set_option maxRecDepth 100000 in
theorem pwrite_w (g from_ n at_ : Nat) (d : Dv.S) (F : Nat → Prop) (v : Value) (ls : List (List UInt8)) (w : World) (h : Dev13 w g d F) (hn : d.n ≤ 1000000) (hw : d.wait.length ≤ 100000) (hv : BsOut F w v ls) (hl : ls.length ≤ 1000) (hf : from_ + at_ ≤ 1000000) :
    Calls Try.prog 32 #[.agg #[.pointer (some ⟨g, 0, none⟩), .int .i64 (from_ : Int), .int .i64 (n : Int)], .int .i64 (at_ : Int), v] w fun e w' => ∃ F', e = .returned (.int .i64 (Dv.write d ((from_ : Int) + at_) ls).2) ∧ Dev13 w' g (Dv.write d ((from_ : Int) + at_) ls).1 F' ∧ Touch F w w' ∧ More F F' w := by
  obtain ⟨w1, hw1⟩ : ∃ w1, w1 = w.alloc (.cells #[.pointer (some ⟨g, 0, none⟩), .int .i64 (from_ : Int), .int .i64 (n : Int)] 59) := ⟨_, rfl⟩
  have hb0 : Below w.heap.size w w1 := by rw [hw1]; exact (Below.refl _ w).alloc (Nat.le_refl _) _
  have cW := write_w g d F ((from_ : Int) + at_) v ls w1 (h.later hb0) hn hw (hv.later hb0) hl (by omega)
  have CW := Lib.hid cW
  have HB := Lib.hid hb0
  have h1 : (from_ : Int) ≤ 1000000 := by omega
  have h2 : (at_ : Int) ≤ 1000000 := by omega
  clear cW hb0 h hv hf
  go_enter Try.func32, Try.ntmps32
  go_upto_region 1 with fail
  have hr := heap_alloc_new w (.cells #[.pointer (some ⟨g, 0, none⟩), .int .i64 (from_ : Int), .int .i64 (n : Int)] 59)
  rw [← hw1] at hr ⊢
  clear hw1
  have l0 := (blk_cell hr 0 (.pointer (some ⟨g, 0, none⟩)) rfl).1
  have l1 := (blk_cell hr 1 (.int .i64 (from_ : Int)) rfl).1
  go_wp2_with fail
  refine CW.out.mono ?_
  rintro e w2 ⟨F', rfl, hD, ht, hm⟩
  have HX := Lib.hid (And.intro hD (And.intro ((Touch.of HB.out).trans ht) (show More F F' w from fun k hk => (hm k hk).imp id (fun h => Nat.le_trans HB.out.size h))))
  clear hD ht hm
  go_wp2_with fail
  go_ret
  exact ⟨F', rfl, HX.out⟩
end Go.Proofs.Ytjdmmnpfjbnhoaa
