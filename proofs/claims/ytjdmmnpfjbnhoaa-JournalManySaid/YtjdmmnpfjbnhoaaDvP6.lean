/- Package device: a new device; faults told. -/
import Derived.Test.YtjdmmnpfjbnhoaaDvP5
import Derived.Lib.OwnBridge
import Derived.Sort.OwnSorted
namespace Go.Proofs.Ytjdmmnpfjbnhoaa
open Go.RowKit

set_option maxHeartbeats 1600000 in
set_option maxRecDepth 100000 in
theorem mend_w (w : World) (g : Nat) (A B C fv n L : Value) (hb : w.heap[g]? = some (.cells #[A, B, C, fv, n, L] 57 (0, 0))) :
    Calls Try.prog 15 #[.pointer (some ⟨g, 3, none⟩)] w fun e w' => e = .returned (.tuple #[]) ∧ Touch (fun k => k = g) w w' ∧ w'.heap[g]? = some (.cells #[A, B, C, .slice none 0 0, .int .i64 0, .int .i64 (-1)] 57 (0, 0)) := by
  have h1 := heap_setCell_same w g 3 _ _ (.slice none 0 0) hb
  have h2 := heap_setCell_same _ g 4 _ _ (.int .i64 0) h1
  have h3 := heap_setCell_same _ g 5 _ _ (.int .i64 (-1)) h2
  have t1 := Touch.cell (F := fun k => k = g) (w := w) rfl 3 (.slice none 0 0)
  have t2 := t1.trans (Touch.cell (F := fun k => k = g) rfl 4 (.int .i64 0))
  have t3 := t2.trans (Touch.cell (F := fun k => k = g) rfl 5 (.int .i64 (-1)))
  have HX := Lib.hid (And.intro t3 h3)
  have c3 := blk_cell hb 3 _ rfl
  have c4 := blk_cell hb 4 _ rfl
  have c5 := blk_cell hb 5 _ rfl
  clear h1 h2 h3 t1 t2 t3 hb
  go_enter Try.func15, Try.ntmps15
  go_wp2_with fail
  go_end0
  exact ⟨rfl, HX.out.1, HX.out.2⟩

/-- Noughts, as many sectors as one likes. -/
theorem noughts_made (k : Nat) : (madeCells (Lib.byteCells (List.replicate 64 0)).toArray (k * 64)) = (secs (List.replicate k (List.replicate 64 0))).toArray := by
  rw [secs_replicate]
  have e : (Lib.byteCells (List.replicate 64 0)).toArray = Array.replicate 64 (Value.int .u8 0) := by unfold Lib.byteCells; rw [List.map_replicate, List.toArray_replicate]; rfl
  rw [e]
  apply Array.ext
  · simp [madeCells]
  · intro i h1 h2
    simp only [madeCells, Array.getElem_map, Array.getElem_range, Array.size_replicate]
    rw [getElem!_pos (Array.replicate 64 (Value.int .u8 0)) (i % 64) (by rw [Array.size_replicate]; exact Nat.mod_lt _ (by decide))]
    simp
theorem sectors_info : (Try.prog.info? 100).map (fun i => (i.zero.map (·.cells), i.size, decide (i.bytes ≤ 1000))) = some (some (Lib.byteCells (List.replicate 64 0)).toArray, 64, true) := by kernel_rfl
theorem sectors_make (k : Nat) (hk : k ≤ 65536) (W : World) : (Instr.makeSlice 48 (.int .i64 (k : Int)) (.int .i64 (k : Int))).run Try.prog W = .ok (.slice (some ⟨W.heap.size, 0, none⟩) k k) (W.alloc (.cells (secs (List.replicate k (List.replicate 64 0))).toArray 100)) := by
  have h9 := sectors_info
  cases hi : Try.prog.info? 100 with
  | none => rw [hi] at h9; cases h9
  | some i =>
    rw [hi] at h9
    simp only [Option.map_some, Option.some.injEq, Prod.mk.injEq, decide_eq_true_eq] at h9
    obtain ⟨h1, h2, h3⟩ := h9
    cases hz : i.zero with
    | none => rw [hz] at h1; cases h1
    | some z =>
      rw [hz] at h1
      simp only [Option.map_some, Option.some.injEq] at h1
      have hb : (i.bytes : Int) * (k : Int) ≤ 281474976710656 := by
        have := Nat.mul_le_mul h3 hk
        have h : ((i.bytes * k : Nat) : Int) ≤ 281474976710656 := by omega
        rwa [Int.natCast_mul] at h
      have hr := run_make (P := Try.prog) W 48 100 i z Try.underlying48 hi hz .i64 .i64 k k (by omega) (Int.le_refl _) hb (by omega)
      rw [Int.toNat_natCast, h1, h2, noughts_made] at hr
      exact hr

theorem three_at (w : World) (A B C : Obj) : (((w.alloc A).alloc B).alloc C).heap[w.heap.size]? = some A ∧ (((w.alloc A).alloc B).alloc C).heap[w.heap.size + 1]? = some B ∧ (((w.alloc A).alloc B).alloc C).heap[w.heap.size + 1 + 1]? = some C := by
  have e1 : (w.alloc A).heap.size = w.heap.size + 1 := by simp
  have e2 : ((w.alloc A).alloc B).heap.size = w.heap.size + 1 + 1 := by simp
  refine ⟨?_, ?_, ?_⟩
  · rw [((Below.refl _ ((w.alloc A).alloc B)).alloc (Nat.le_refl _) C).block _ (by omega), ((Below.refl _ (w.alloc A)).alloc (Nat.le_refl _) B).block _ (by omega)]
    exact heap_alloc_new w A
  · rw [((Below.refl _ ((w.alloc A).alloc B)).alloc (Nat.le_refl _) C).block _ (by omega), ← e1]
    exact heap_alloc_new _ B
  · rw [← e2]
    exact heap_alloc_new _ C
set_option maxHeartbeats 1600000 in
set_option maxRecDepth 100000 in
theorem blank_w (w : World) (k : Nat) (hk : k ≤ 65536) :
    Calls Try.prog 14 #[.int .i64 (k : Int)] w fun e w' => ∃ b1 b2, e = .returned (.agg #[.slice (some ⟨b1, 0, none⟩) k k, .slice (some ⟨b2, 0, none⟩) k k, .slice none 0 0]) ∧ b1 ≠ b2 ∧ w.heap.size ≤ b1 ∧ w.heap.size ≤ b2 ∧ Secs w' b1 (List.replicate k (List.replicate 64 0)) ∧ Secs w' b2 (List.replicate k (List.replicate 64 0)) ∧ Below w.heap.size w w' := by
  have hmk := sectors_make k hk
  unfold Secs
  generalize (secs (List.replicate k (List.replicate 64 0))).toArray = cm at hmk ⊢
  go_enter Try.func14, Try.ntmps14
  go_upto_region 1 with fail
  go_region
  all_goals go_wp2_with fail
  · have hA := three_at w (.cells #[.slice (some ⟨w.heap.size + 1, 0, none⟩) k k, .slice (some ⟨w.heap.size + 1 + 1, 0, none⟩) k k, .slice none 0 0] 51) (.cells cm 100) (.cells cm 100)
    refine bodyPost_ret (v := .agg #[.slice (some ⟨w.heap.size + 1, 0, none⟩) k k, .slice (some ⟨w.heap.size + 1 + 1, 0, none⟩) k k, .slice none 0 0]) ?h1 ?h2 ?h3
    case h1 => exact results_cell_row rfl _ _ w.heap.size _ _ (0, 0) _ rfl hA.1 Try.underlying51 rfl (by kernel_rfl)
    case h2 => rfl
    case h3 => exact ⟨_, _, rfl, by omega, by omega, by omega, hA.2.1, hA.2.2, ((((Below.refl _ w).alloc (Nat.le_refl _) _).alloc (by simp) _).alloc (by simp; omega) _).drew⟩
  · have hA := three_at w (.cells #[.slice (some ⟨w.heap.size + 1 + 1, 0, none⟩) k k, .slice (some ⟨w.heap.size + 1, 0, none⟩) k k, .slice none 0 0] 51) (.cells cm 100) (.cells cm 100)
    refine bodyPost_ret (v := .agg #[.slice (some ⟨w.heap.size + 1 + 1, 0, none⟩) k k, .slice (some ⟨w.heap.size + 1, 0, none⟩) k k, .slice none 0 0]) ?h1 ?h2 ?h3
    case h1 => exact results_cell_row rfl _ _ w.heap.size _ _ (0, 0) _ rfl hA.1 Try.underlying51 rfl (by kernel_rfl)
    case h2 => rfl
    case h3 => exact ⟨_, _, rfl, by omega, by omega, by omega, hA.2.2, hA.2.1, ((((Below.refl _ w).alloc (Nat.le_refl _) _).alloc (by simp) _).alloc (by simp; omega) _).drew⟩

/-- How a device lies in memory. -/
structure Dev13 (w : World) (g : Nat) (d : Dv.S) (F : Nat → Prop) : Prop where
  ex : ∃ n bs bv wv fv L, Med w g F n bs bv wv fv (.int .i64 (d.n : Int)) (.int .i64 L) d.safe (Dv.sees d) d.wait ∧ Lft L d.left ∧ Fails w F fv d.bad
  lt : ∀ k, F k → k < w.heap.size
theorem Dev13.keep {w w' : World} {g : Nat} {d : Dv.S} {F : Nat → Prop} (h : Dev13 w g d F) (hs : w.heap.size ≤ w'.heap.size) (hk : ∀ k, F k → w'.heap[k]? = w.heap[k]?) : Dev13 w' g d F := by
  obtain ⟨n, bs, bv, wv, fv, L, h1, h2, h3⟩ := h.ex
  exact ⟨⟨n, bs, bv, wv, fv, L, h1.keep fun k _ hf => hk k hf, h2, h3.keep fun k _ hf => hk k hf⟩, fun k hf => Nat.lt_of_lt_of_le (h.lt k hf) hs⟩

set_option maxHeartbeats 1600000 in
set_option maxRecDepth 100000 in
theorem new_w (k : Nat) (w : World) (h1 : 1 ≤ k) (hk : k ≤ 65536) :
    Calls Try.prog 5 #[.int .i64 k] w fun e w' => ∃ g F, e = .returned (.tuple #[.pointer (some ⟨g, 0, none⟩), .int .i64 0]) ∧ Dev13 w' g (Dv.init k) F ∧ Below w.heap.size w w' ∧ (∀ k, F k → w.heap.size ≤ k) := by
  have cB := blank_w w k hk
  have hki : ¬ (k : Int) < 1 := by omega
  have hki2 : ¬ 65536 < (k : Int) := by omega
  go_enter Try.func5, Try.ntmps5
  go_wp2_with fail
  refine cB.mono ?_
  rintro e w1 ⟨b1, b2, rfl, hne, hb1, hb2, hs1, hs2, hbw⟩
  have HS := Lib.hid (And.intro hne (And.intro hb1 (And.intro hb2 (And.intro hs1 (And.intro hs2 hbw)))))
  have cM := fun (W : World) hb => mend_w W w1.heap.size (.slice (some ⟨b1, 0, none⟩) k k) (.slice (some ⟨b2, 0, none⟩) k k) (.slice none 0 0) (.slice none 0 0) (.int .i64 0) (.int .i64 0) hb
  have CM := Lib.hid cM
  clear hne hb1 hb2 hs1 hs2 hbw cM cB
  go_wp2_with fail
  refine (CM.out _ (heap_alloc_new w1 _)).mono ?_
  rintro e w2 ⟨rfl, ht, hb⟩
  have HT := Lib.hid ht
  have HB := Lib.hid hb
  clear ht hb
  go_wp2_with fail
  go_ret2
  obtain ⟨hne, hb1, hb2, hs1, hs2, hbw⟩ := HS.out
  have hal : Below w1.heap.size w1 (w1.alloc (.cells #[.slice (some ⟨b1, 0, none⟩) k k, .slice (some ⟨b2, 0, none⟩) k k, .slice none 0 0, .slice none 0 0, .int .i64 0, .int .i64 0] 57)) := (Below.refl _ w1).alloc (Nat.le_refl _) _
  have ks : ∀ b, b < w1.heap.size → w2.heap[b]? = w1.heap[b]? := fun b hb => by
    rw [HT.out.block b (by have := hal.size; omega) (by omega), hal.block b hb]
  have hsz : w1.heap.size < w2.heap.size := lt_of_block HB.out
  refine ⟨w1.heap.size, fun x => x = w1.heap.size ∨ x = b1 ∨ x = b2, rfl, ⟨⟨k, b1, b2, .slice none 0 0, .slice none 0 0, -1, ⟨HB.out, hs1.keep (ks b1 (lt_of_block hs1)), ?_, World.ownsRow_nil _ _ _ _, hne, .inl rfl, .inr (.inl rfl), .inr (.inr rfl), (fun x hx => by cases hx), (by simp [Dv.init]), (by rw [Dv.sees_length]; simp [Dv.init]), hk, ?_, ?_, (fun x hx => by cases hx)⟩, ⟨.inr ⟨by omega, (by show (-1 : Int) < 0; omega)⟩, by omega, by omega⟩, [], ⟨none, 0, rfl, Nat.le_refl _, by decide, .inl rfl⟩, List.Pairwise.nil, fun x => rfl, by decide, fun x hn => absurd rfl hn⟩, ?_⟩, ?_, ?_⟩
  · rw [Dv.sees_none (d := Dv.init k) rfl]
    exact hs2.keep (ks b2 (lt_of_block hs2))
  · intro x hx
    rw [List.eq_of_mem_replicate hx, List.length_replicate]
  · rw [Dv.sees_none (d := Dv.init k) rfl]
    intro x hx
    rw [List.eq_of_mem_replicate hx, List.length_replicate]
  · rintro x (rfl | rfl | rfl)
    · exact hsz
    · have := lt_of_block hs1; omega
    · have := lt_of_block hs2; omega
  · refine hbw.trans ⟨HT.out.os.trans hal.os, HT.out.tape.trans hal.tape, HT.out.output.trans hal.output, by omega, fun x hx => ks x (by have := hbw.size; omega)⟩
  · rintro x (rfl | rfl | rfl)
    · exact hbw.size
    · exact hb1
    · exact hb2
end Go.Proofs.Ytjdmmnpfjbnhoaa
