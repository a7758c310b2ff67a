/- The program's map in memory: closures that turn a sector; of, right. -/
import Derived.Test.YtgfgafondiipoaaSvA
import Derived.Laws.ResultCell
import Derived.BigQuiet
namespace Go.Proofs.Ytgfgafondiipoaa
open Go.RowKit

theorem ret_sec {fn : Func} {p : Tmp} (h : fn.results = #[.cell p 62]) {R : Ending → World → Prop} {a : Act} {w : World} (g : Nat) (x y z : Value)
    (hp : a.tmps.getD p undef = .pointer (some ⟨g, 0, none⟩)) (hg : w.heap[g]? = some (.cells #[x, y, z] 62 (0, 0))) (hd : a.defers = []) (hR : R (.returned (.agg #[x, y, z])) w) : bodyPost Try.prog fn R .ret a w :=
  bodyPost_ret (v := .agg #[x, y, z]) (results_cell_row h _ _ g _ _ (0, 0) _ hp hg Try.underlying62 rfl (by kernel_rfl)) hd hR
theorem below_dN {n : Nat} {a w : World} (h : Below n a w) (k : Nat) : Below n a (w.drewN k) := h.trans ⟨rfl, rfl, rfl, Nat.le_refl _, fun _ _ => rfl⟩
theorem two_new (w : World) (A B : Obj) : ((w.alloc A).alloc B).heap[w.heap.size + 1]? = some B := by
  have e1 : (w.alloc A).heap.size = w.heap.size + 1 := by simp
  rw [← e1]; exact heap_alloc_new _ B
set_option maxRecDepth 100000 in
/-- Give's closure: it waits. -/
theorem wait_c (x y z : Bool) (w : World) : Calls Try.prog 38 #[.agg #[.bool x, .bool y, .bool z]] w fun e w' => e = .returned (.agg #[.bool x, .bool y, .bool true]) ∧ Below w.heap.size w w' := by
  have hb : ∀ C D, Below w.heap.size w ((w.alloc C).alloc D) := fun C D => ((Below.refl _ w).alloc (Nat.le_refl _) _).alloc (by simp) _
  go_enter Try.func38, Try.ntmps38
  go_wp2_with fail
  refine ret_sec rfl (w.heap.size + 1) _ _ _ rfl (two_new _ _ _) rfl ?_
  exact ⟨rfl, hb _ _⟩
set_option maxRecDepth 100000 in
/-- into's closure: what is in the box. -/
theorem box_c (g : Nat) (x y z : Bool) (x' y' z' : Bool) (w : World) (hg : w.heap[g]? = some (.cells #[.bool x, .bool y, .bool z] 62 (0, 0))) :
    Calls Try.prog 44 #[.agg #[.bool x', .bool y', .bool z'], .pointer (some ⟨g, 0, none⟩)] w fun e w' => e = .returned (.agg #[.bool x, .bool y, .bool z]) ∧ Below w.heap.size w w' := by
  have hb : ∀ C D, Below w.heap.size w ((w.alloc C).alloc D) := fun C D => ((Below.refl _ w).alloc (Nat.le_refl _) _).alloc (by simp) _
  have hl := lt_of_block hg
  have hb0 : ∀ C D, ((w.alloc C).alloc D).heap[g]? = some (.cells #[.bool x, .bool y, .bool z] 62 (0, 0)) := fun C D => ((hb C D).block g hl).trans hg
  have c0 : w.cell? ⟨g, 0, none⟩ = some (.bool x) := (blk_cell hg 0 _ rfl).1
  have c1 : w.cell? ⟨g, 1, none⟩ = some (.bool y) := (blk_cell hg 1 _ rfl).1
  have c2 : w.cell? ⟨g, 2, none⟩ = some (.bool z) := (blk_cell hg 2 _ rfl).1
  have hne : ¬ g = w.heap.size := by omega
  have hne2 : ¬ g = w.heap.size + 1 := by omega
  go_enter Try.func44, Try.ntmps44
  go_wp2_with fail
  refine ret_sec rfl (w.heap.size + 1) _ _ _ rfl (two_new _ _ _) rfl ?_
  exact ⟨rfl, hb _ _⟩
set_option maxRecDepth 100000 in
theorem into_w (x y z : Bool) (w : World) : Calls Try.prog 33 #[.agg #[.bool x, .bool y, .bool z]] w fun e w' => e = .returned (.func (.func 44) #[] #[.pointer (some ⟨w.heap.size, 0, none⟩)]) ∧ w'.heap[w.heap.size]? = some (.cells #[.bool x, .bool y, .bool z] 62 (0, 0)) ∧ Below w.heap.size w w' := by
  have hb : Below w.heap.size w (w.alloc (.cells #[.bool x, .bool y, .bool z] 62)) := (Below.refl _ w).alloc (Nat.le_refl _) _
  have hn := heap_alloc_new w (.cells #[.bool x, .bool y, .bool z] 62)
  go_enter Try.func33, Try.ntmps33
  go_wp2_with fail
  go_ret
  exact ⟨rfl, hn, hb⟩
set_option maxHeartbeats 1600000 in
set_option maxRecDepth 100000 in
theorem of_w (w : World) (q b : Nat) (m : Sp.M) (a N : Nat) (h : PD w q b m) (hN : a + N ≤ m.length) (hN1 : 1 ≤ N) :
    Calls Try.prog 43 #[.pointer (some ⟨q, 0, none⟩), ext ((a : Int), (N : Int))] w fun e w' => e = .returned (.slice (some ⟨b, a * 3, none⟩) N (m.length - a)) ∧ Below w.heap.size w w' := by
  have hlen := h.len
  have hb1 : Below w.heap.size w (w.alloc (.cells #[.int .i64 (a : Int), .int .i64 (N : Int)] 35)) := (Below.refl _ w).alloc (Nat.le_refl _) _
  have c0 := (h.later hb1).c0
  have B1 := Lib.hid (Bx.made (F := PF q b) w (a : Int) (N : Int) h.lt)
  have g1 := B1.out.c0
  have g2 := B1.out.c1
  obtain ⟨n, hn⟩ : ∃ n, n = m.length := ⟨_, rfl⟩
  rw [← hn] at hlen hN c0 ⊢
  obtain ⟨S, hS⟩ : ∃ S, S = a + N := ⟨_, rfl⟩
  have hs : (a : Int) + (N : Int) = (S : Int) := by omega
  have hw : IntKind.i64.wrap (S : Int) = (S : Int) := by rw [IntKind.wrap_i64]; omega
  have ha : IntKind.i64.wrap (a : Int) = (a : Int) := by rw [IntKind.wrap_i64]; omega
  have hcap : ¬ n = a := by omega
  have h1 : a ≤ S := by omega
  have h2 : S ≤ n := by omega
  have HN : Hid (S - a = N) := Lib.hid (by omega)
  clear h hn hN hS
  unfold ext
  go_enter Try.func43, Try.ntmps43
  go_upto_region 1 with fail
  go_region
  go_wp2_with fail
  go_ret
  exact ⟨by rw [HN.out]; rfl, hb1.drew⟩
set_option maxHeartbeats 1600000 in
set_option maxRecDepth 100000 in
theorem right_w (w : World) (q b : Nat) (m : Sp.M) (e : Sp.Ext) (h : PD w q b m) (h1 : I64 e.1) (h2 : I64 e.2) [Decidable (Sp.RightE m.length e)] :
    Calls Try.prog 56 #[.pointer (some ⟨q, 0, none⟩), ext e] w fun e' w' => e' = .returned (.bool (decide (Sp.RightE m.length e))) ∧ Below w.heap.size w w' := by
  obtain ⟨p, z⟩ := e
  have hlen := h.len
  have hb1 : Below w.heap.size w (w.alloc (.cells #[.int .i64 p, .int .i64 z] 35)) := (Below.refl _ w).alloc (Nat.le_refl _) _
  have c0 := (h.later hb1).c0
  have B1 := Lib.hid (Bx.made (F := PF q b) w p z h.lt)
  have g1 := B1.out.c0
  have g2 := B1.out.c1
  have HR : Hid (Sp.RightE m.length (p, z) ↔ 0 ≤ p ∧ 1 ≤ z ∧ z ≤ (m.length : Int) - p) := Lib.hid (by unfold Sp.RightE; constructor <;> (intro h; simp only at h ⊢; omega))
  obtain ⟨R, hR⟩ : ∃ R, R = decide (Sp.RightE m.length (p, z)) := ⟨_, rfl⟩
  have HD : Hid (R = true ↔ 0 ≤ p ∧ 1 ≤ z ∧ z ≤ (m.length : Int) - p) := Lib.hid (by rw [hR, decide_eq_true_iff]; exact HR.out)
  rw [← hR]
  obtain ⟨n, hn⟩ : ∃ n, n = m.length := ⟨_, rfl⟩
  rw [← hn] at hlen c0 HD
  obtain ⟨p1, p2⟩ := h1
  simp only at p1 p2
  clear h hn HR hR h2
  by_cases h1 : 0 ≤ p
  · have k1 : decide (0 ≤ p) = true := decide_eq_true h1
    by_cases h2 : 1 ≤ z
    · have k2 : decide (1 ≤ z) = true := decide_eq_true h2
      have hw : IntKind.i64.wrap ((n : Int) - p) = (n : Int) - p := by rw [IntKind.wrap_i64]; omega
      by_cases h3 : z ≤ (n : Int) - p
      · have k3 : decide (z ≤ (n : Int) - p) = true := decide_eq_true h3
        obtain rfl : R = true := HD.out.2 ⟨h1, h2, h3⟩
        unfold ext
        go_enter Try.func56, Try.ntmps56
        go_upto_region 1 with fail
        go_quiet (fail)
        go_wp2_with fail
        go_ret
        exact ⟨rfl, below_dN hb1 _⟩
      · have k3 : decide (z ≤ (n : Int) - p) = false := decide_eq_false h3
        obtain rfl : R = false := Bool.eq_false_iff.2 (fun e => h3 (HD.out.1 e).2.2)
        unfold ext
        go_enter Try.func56, Try.ntmps56
        go_upto_region 1 with fail
        go_quiet (fail)
        go_wp2_with fail
        go_ret
        exact ⟨rfl, below_dN hb1 _⟩
    · have k2 : decide (1 ≤ z) = false := decide_eq_false h2
      obtain rfl : R = false := Bool.eq_false_iff.2 (fun e => h2 (HD.out.1 e).2.1)
      unfold ext
      go_enter Try.func56, Try.ntmps56
      go_upto_region 1 with fail
      go_quiet (fail)
      go_wp2_with fail
      go_ret
      exact ⟨rfl, below_dN hb1 _⟩
  · have k1 : decide (0 ≤ p) = false := decide_eq_false h1
    obtain rfl : R = false := Bool.eq_false_iff.2 (fun e => h1 (HD.out.1 e).1)
    unfold ext
    go_enter Try.func56, Try.ntmps56
    go_upto_region 1 with fail
    go_quiet (fail)
    go_wp2_with fail
    go_ret
    exact ⟨rfl, below_dN hb1 _⟩
end Go.Proofs.Ytgfgafondiipoaa
