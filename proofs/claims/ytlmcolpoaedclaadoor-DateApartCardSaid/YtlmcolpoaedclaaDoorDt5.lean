/- Package date: Print, Forms. -/
import Derived.Test.YtlmcolpoaedclaaDoorDt4
namespace Go.Proofs.YtlmcolpoaedclaaDoor
open Go.RowKit

noncomputable def formsV (a : Int) : Value := .agg #[.string (str (Dt.form a 0)), .string (str (Dt.form a 1)), .string (str (Dt.form a 2))]
theorem forms_a (a : Int) (w : World) (hT : DTabs w) (a0 : 0 ≤ a) (a1 : a ≤ 253402300799) :
    Calls Tryd.prog 17 #[.int .i64 a] w fun e w' => e = .returned (formsV a) ∧ Below w.heap.size w w' := by
  obtain ⟨y, m, d, hd⟩ := Dt.exDate (a / 86400) (by omega) (by omega)
  obtain ⟨k, rfl⟩ : ∃ k : Nat, m = k := ⟨m.toNat, by have := hd.m0; omega⟩
  exact forms_c a y d k w hT a0 a1 hd

theorem ix3_0 (a b c : ByteArray) (w : World) : (Instr.index 31 (.agg #[.string a, .string b, .string c]) (.int .i64 0)).run Tryd.prog w = .ok (.string a) w := by kernel_rfl
theorem ix3_1 (a b c : ByteArray) (w : World) : (Instr.index 31 (.agg #[.string a, .string b, .string c]) (.int .i64 1)).run Tryd.prog w = .ok (.string b) w := by kernel_rfl
theorem ix3_2 (a b c : ByteArray) (w : World) : (Instr.index 31 (.agg #[.string a, .string b, .string c]) (.int .i64 2)).run Tryd.prog w = .ok (.string c) w := by kernel_rfl

set_option maxHeartbeats 400000 in
theorem Print_no (a : Int) (w : World) (h : a < 0 ∨ 253402300799 < a) :
    Calls Tryd.prog 11 #[.int .i64 a] w fun e w' => e = .returned (.tuple #[.string ⟨#[]⟩, .int .i64 21]) ∧ w = w' := by
  rcases h with h | h
  · go_enter Tryd.func11, Tryd.ntmps11
    go_wp2
    go_ret2
    exact ⟨rfl, rfl⟩
  · have h' : ¬ a < 0 := by omega
    go_enter Tryd.func11, Tryd.ntmps11
    go_wp2
    go_ret2
    exact ⟨rfl, rfl⟩

set_option maxHeartbeats 400000 in
theorem Print_yes (a : Int) (x : ByteArray) (w : World) (hT : DTabs w) (a0 : 0 ≤ a) (a1 : a ≤ 253402300799) (hx : str (Dt.form a 0) = x) :
    Calls Tryd.prog 11 #[.int .i64 a] w fun e w' => e = .returned (.tuple #[.string x, .int .i64 0]) ∧ Below w.heap.size w w' := by
  have hF := forms_a a w hT a0 a1
  unfold formsV at hF
  rw [hx] at hF
  clear hx
  have hix := fun b c w => ix3_0 x b c w
  go_enter Tryd.func11, Tryd.ntmps11
  go_wp2_with fail
  refine hF.mono ?_
  rintro e w1 ⟨rfl, hb⟩
  go_wp2_with fail
  go_ret2
  exact ⟨rfl, hb⟩

set_option maxHeartbeats 400000 in
theorem Forms_no (a : Int) (w : World) (h : a < 0 ∨ 3155759999 < a) :
    Calls Tryd.prog 12 #[.int .i64 a] w fun e w' => e = .returned (.tuple #[.agg #[.string ⟨#[]⟩, .string ⟨#[]⟩, .string ⟨#[]⟩], .int .i64 21]) ∧ Below w.heap.size w w' := by
  rcases h with h | h
  · go_enter Tryd.func12, Tryd.ntmps12
    go_wp2
    exact bodyPost_ret (v := .tuple #[.agg #[.string ⟨#[]⟩, .string ⟨#[]⟩, .string ⟨#[]⟩], .int .i64 21]) (by simp [results, Tryd.results12, go_sem]) rfl ⟨rfl, (Below.refl _ _).alloc (Nat.le_refl _) _⟩
  · have h' : ¬ a < 0 := by omega
    go_enter Tryd.func12, Tryd.ntmps12
    go_wp2
    exact bodyPost_ret (v := .tuple #[.agg #[.string ⟨#[]⟩, .string ⟨#[]⟩, .string ⟨#[]⟩], .int .i64 21]) (by simp [results, Tryd.results12, go_sem]) rfl ⟨rfl, (Below.refl _ _).alloc (Nat.le_refl _) _⟩

set_option maxHeartbeats 400000 in
theorem Forms_yes (a : Int) (x y z : ByteArray) (w : World) (hT : DTabs w) (a0 : 0 ≤ a) (a1 : a ≤ 3155759999) (hx : str (Dt.form a 0) = x) (hy : str (Dt.form a 1) = y) (hz : str (Dt.form a 2) = z) :
    Calls Tryd.prog 12 #[.int .i64 a] w fun e w' => e = .returned (.tuple #[.agg #[.string x, .string y, .string z], .int .i64 0]) ∧ Below w.heap.size w w' := by
  have hb0 : Below w.heap.size w (w.alloc (.cells #[.string ⟨#[]⟩, .string ⟨#[]⟩, .string ⟨#[]⟩] 31)) := (Below.refl _ _).alloc (Nat.le_refl _) _
  have hR := heap_alloc_new w (.cells #[.string ⟨#[]⟩, .string ⟨#[]⟩, .string ⟨#[]⟩] 31)
  have hF := forms_a a _ (hT.later hb0) a0 (by omega)
  unfold formsV at hF
  rw [hx, hy, hz] at hF
  clear hx hy hz hT
  go_enter Tryd.func12, Tryd.ntmps12
  go_wp2_with fail
  refine hF.mono ?_
  rintro e w1 ⟨rfl, hb⟩
  have HB := Lib.hid (hb0.trans (hb.mono hb0.size))
  have hR5 : w1.heap[w.heap.size]? = some (.cells #[.string ⟨#[]⟩, .string ⟨#[]⟩, .string ⟨#[]⟩] 31) := by
    rw [hb.block _ (lt_of_block hR)]; exact hR
  clear hF hb hb0 hR
  have r0 : w1.cell? ⟨w.heap.size, 0, none⟩ = some (.string ⟨#[]⟩) := by simp only [World.cell?, hR5]; rfl
  have r1 : w1.cell? ⟨w.heap.size, 1, none⟩ = some (.string ⟨#[]⟩) := by simp only [World.cell?, hR5]; rfl
  have r2 : w1.cell? ⟨w.heap.size, 2, none⟩ = some (.string ⟨#[]⟩) := by simp only [World.cell?, hR5]; rfl
  have fz0 : w1.frozen? ⟨w.heap.size, 0, none⟩ = false := by simp only [World.frozen?, hR5]; simp
  have fz1 : w1.frozen? ⟨w.heap.size, 1, none⟩ = false := by simp only [World.frozen?, hR5]; simp
  have fz2 : w1.frozen? ⟨w.heap.size, 2, none⟩ = false := by simp only [World.frozen?, hR5]; simp
  clear hR5
  go_wp2_with fail
  refine bodyPost_ret (v := .tuple #[.agg #[.string x, .string y, .string z], .int .i64 0]) (by simp [results, Tryd.results12, go_sem, r0, r1, r2]) rfl ⟨rfl, ?_⟩
  exact ((HB.out.setCell (Nat.le_refl _) _).setCell (Nat.le_refl _) _).setCell (Nat.le_refl _) _

end Go.Proofs.YtlmcolpoaedclaaDoor
