/- The statements of layer 4: the document's example. -/
import Derived.Test.YtolhhejhjjiefaaDoorCt3
namespace Go.Proofs.YtolhhejhjjiefaaDoor
open Go.RowKit

theorem awake_parse : Ctl.parse [[77, 97, 120, 45, 65, 103, 101, 61, 34, 54, 48, 34, 44, 32, 120, 61, 121, 44, 32, 110, 111, 45, 115, 116, 111, 114, 101], [109, 97, 120, 45, 97, 103, 101, 61, 53]] = ⟨true, false, false, false, false, false, false, 60, -1, -1, -1⟩ := by decide +kernel

set_option maxHeartbeats 1600000 in
set_option maxRecDepth 100000 in
theorem cawake_w (w : World) (hm : MaxOk w) : Calls Tryd.prog 8 #[] w fun e w' => e = .returned (.bool true) ∧ Below w.heap.size w w' := by
  have h2 := SIn.two w ⟨#[77, 97, 120, 45, 65, 103, 101, 61, 34, 54, 48, 34, 44, 32, 120, 61, 121, 44, 32, 110, 111, 45, 115, 116, 111, 114, 101]⟩ ⟨#[109, 97, 120, 45, 97, 103, 101, 61, 53]⟩ [77, 97, 120, 45, 65, 103, 101, 61, 34, 54, 48, 34, 44, 32, 120, 61, 121, 44, 32, 110, 111, 45, 115, 116, 111, 114, 101] [109, 97, 120, 45, 97, 103, 101, 61, 53] rfl rfl
  have hb0 : Below w.heap.size w (w.alloc (.cells #[.string ⟨#[77, 97, 120, 45, 65, 103, 101, 61, 34, 54, 48, 34, 44, 32, 120, 61, 121, 44, 32, 110, 111, 45, 115, 116, 111, 114, 101]⟩, .string ⟨#[109, 97, 120, 45, 97, 103, 101, 61, 53]⟩] 9)) := (Below.refl _ w).alloc (Nat.le_refl _) _
  have hP := Parse_w _ _ _ h2 (by decide) (by decide) (hm.later hb0)
  rw [awake_parse, show cval ⟨true, false, false, false, false, false, false, 60, -1, -1, -1⟩ = .agg #[.bool true, .bool false, .bool false, .bool false, .bool false, .bool false, .bool false, .int .i64 60, .int .i64 (-1), .int .i64 (-1), .int .i64 (-1)] from rfl] at hP
  clear h2 hm
  go_enter Tryd.func8, Tryd.ntmps8
  go_wp2_with fail
  refine hP.mono ?_
  rintro e w1 ⟨rfl, hb1⟩
  have hb2 := hb0.trans (hb1.mono hb0.size)
  go_wp2_with fail
  go_ret
  exact ⟨rfl, hb2.alloc hb2.size _⟩
/-- 'control.Parse(s)'. -/
theorem parse1 (W : World) (s : ByteArray) (l : List UInt8) (h : s = str l) (hl : l.length ≤ 1000000) (hm : MaxOk W) :
    Calls Tryd.prog 9 #[.slice (some ⟨W.heap.size, 0, none⟩) 1 1] (W.alloc (.cells #[.string s] 9)) fun e w' => e = .returned (cval (Ctl.parse [l])) ∧ Below W.heap.size W w' := by
  have hb : Below W.heap.size W (W.alloc (.cells #[.string s] 9)) := (Below.refl _ W).alloc (Nat.le_refl _) _
  refine (Parse_w _ [l] _ (SIn.one W s l h) (by simp) (fun x hx => by rw [List.mem_singleton] at hx; rw [hx]; exact hl) (hm.later hb)).mono ?_
  rintro e w' ⟨he, hb'⟩
  exact ⟨he, hb.trans (hb'.mono hb.size)⟩
theorem guard_ctl (op : BinOp) (hop : op = .eql ∨ op = .neq) (x y : Nat) (c d : Ctl.C) (w : World) : (eqGuard op 25 (.tmp x) (.tmp y) (cval c) (cval d)).run Tryd.prog w = .ok () w := by
  rcases hop with rfl | rfl
  · kernel_rfl
  · kernel_rfl
theorem eql_ctl (c d : Ctl.C) (w : World) : (binOp .eql 25 (cval c) (cval d)).run Tryd.prog w = .ok (.bool (decide (c = d))) w := by
  obtain ⟨a0, a1, a2, a3, a4, a5, a6, a7, a8, a9, a10⟩ := c
  obtain ⟨b0, b1, b2, b3, b4, b5, b6, b7, b8, b9, b10⟩ := d
  unfold cval ccells
  go_simp
  (repeat' split) <;> simp_all
theorem neq_ctl (c d : Ctl.C) (w : World) : (binOp .neq 25 (cval c) (cval d)).run Tryd.prog w = .ok (.bool (decide (c ≠ d))) w := by
  obtain ⟨a0, a1, a2, a3, a4, a5, a6, a7, a8, a9, a10⟩ := c
  obtain ⟨b0, b1, b2, b3, b4, b5, b6, b7, b8, b9, b10⟩ := d
  unfold cval ccells
  go_simp
  (repeat' split) <;> simp_all
end Go.Proofs.YtolhhejhjjiefaaDoor
