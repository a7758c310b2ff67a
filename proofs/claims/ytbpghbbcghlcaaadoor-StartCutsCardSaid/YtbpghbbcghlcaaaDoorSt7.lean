/- The statements of layer 6: what the program's calls are to answer, in one pack; the document's examples. -/
import Derived.Test.YtbpghbbcghlcaaaDoorSt5
import Derived.Test.YtbpghbbcghlcaaaDoorSt6
namespace Go.Proofs.YtbpghbbcghlcaaaDoor
open Go.RowKit

/-- What the program's two readings answer, where the world is as Env says. -/
structure Read6 (Env : World → Prop) : Prop where
  later : ∀ {w w' : World}, Env w → Below w.heap.size w w' → Env w'
  request : ∀ (v : Value) (l : List UInt8) (w : World), l.length ≤ 100000 → BIn w v l → Env w →
    Calls Tryd.prog 9 #[v] w fun e w' => e = .returned (sres (St.request l)) ∧ Below w.heap.size w w'
  response : ∀ (v : Value) (l : List UInt8) (w : World), l.length ≤ 100000 → BIn w v l → Env w →
    Calls Tryd.prog 11 #[v] w fun e w' => e = .returned (sres (St.response l)) ∧ Below w.heap.size w w'
/-- What the program's calls answer, where the world is as Env says. -/
structure Prog6 (Env : World → Prop) : Prop extends Read6 Env where
  right : ∀ (s : St.S) (w : World), s.method.length ≤ 100000 → s.target.length ≤ 100000 → s.reason.length ≤ 100000 → s.status ≤ 9223372036854775807 → s.minor ≤ 9223372036854775807 → Env w →
    Calls Tryd.prog 15 #[sval s] w fun e w' => e = .returned (.bool (St.right s)) ∧ Below w.heap.size w w'
  print : ∀ (s : St.S) (w : World), s.method.length ≤ 100000 → s.target.length ≤ 100000 → s.reason.length ≤ 100000 → s.status ≤ 9223372036854775807 → s.minor ≤ 9223372036854775807 → Env w →
    Calls Tryd.prog 13 #[sval s] w fun e w' => (∃ v, e = .returned (.tuple #[v, .int .i64 (if St.right s then 0 else 10)]) ∧ BIn w' v (if St.right s then St.text s else []) ∧ NilOk v) ∧ Below w.heap.size w w'

def exQ : List UInt8 := [71, 69, 84, 32, 47, 120, 32, 72, 84, 84, 80, 47, 49, 46, 49, 13, 10, 65]
def exA : List UInt8 := [72, 84, 84, 80, 47, 49, 46, 48, 32, 50, 48, 52, 32, 13, 10]
theorem ex_q : St.request exQ = (⟨[71, 69, 84], [47, 120], 0, [], 1⟩, 17, 0) := by decide +kernel
theorem ex_a : St.response exA = (⟨[], [], 204, [], 0⟩, 15, 0) := by decide +kernel

set_option maxHeartbeats 3200000 in
set_option maxRecDepth 100000 in
theorem sawake_w {Env : World → Prop} (P : Read6 Env) (w : World) (hE : Env w) :
    Calls Tryd.prog 8 #[] w fun e w' => e = .returned (.bool true) ∧ Below w.heap.size w w' := by
  obtain ⟨W1, hcv, hO, hb1⟩ := octets_block w #[.int .u8 71, .int .u8 69, .int .u8 84, .int .u8 32, .int .u8 47, .int .u8 120, .int .u8 32, .int .u8 72, .int .u8 84, .int .u8 84, .int .u8 80, .int .u8 47, .int .u8 49, .int .u8 46, .int .u8 49, .int .u8 13, .int .u8 10, .int .u8 65] exQ rfl (by decide)
  have cQ := P.request _ exQ W1 (by decide) hO (P.later hE hb1)
  rw [ex_q] at cQ
  have cQ' : Calls Tryd.prog 9 #[.slice (some ⟨w.heap.size, 0, none⟩) 18 18] W1 fun e w' => e = .returned (.tuple #[.agg #[.string ⟨#[71, 69, 84]⟩, .string ⟨#[47, 120]⟩, .int .i64 0, .string ⟨#[]⟩, .int .i64 1], .int .i64 17, .int .i64 0]) ∧ Below W1.heap.size W1 w' := cQ
  have hcv' : (convert 22 22 (.slice (some ⟨w.heap.size, 0, none⟩) 18 18)).run Tryd.prog (w.alloc (.cells #[.int .u8 71, .int .u8 69, .int .u8 84, .int .u8 32, .int .u8 47, .int .u8 120, .int .u8 32, .int .u8 72, .int .u8 84, .int .u8 84, .int .u8 80, .int .u8 47, .int .u8 49, .int .u8 46, .int .u8 49, .int .u8 13, .int .u8 10, .int .u8 65] 5)) = .ok (.slice (some ⟨w.heap.size, 0, none⟩) 18 18) W1 := hcv
  have HE := Lib.hid hE
  clear hcv cQ hO hE
  go_enter Tryd.func8, Tryd.ntmps8
  go_wp2_with fail
  refine cQ'.mono ?_
  rintro e W2 ⟨rfl, hb2⟩
  have hA := SAt.fresh (bt5 hb1 hb2) (.string ⟨#[71, 69, 84]⟩) (.string ⟨#[47, 120]⟩) (.int .i64 0) (.string ⟨#[]⟩) (.int .i64 1)
  clear cQ' hcv' hb1 hb2
  go_upto_region 2 with fail
  generalize W2.alloc (.cells #[.string ⟨#[71, 69, 84]⟩, .string ⟨#[47, 120]⟩, .int .i64 0, .string ⟨#[]⟩, .int .i64 1] 25) = W3 at hA ⊢
  generalize W2.heap.size = g3 at hA ⊢
  obtain ⟨W4, hcv, hO, hb4⟩ := octets_block W3 #[.int .u8 72, .int .u8 84, .int .u8 84, .int .u8 80, .int .u8 47, .int .u8 49, .int .u8 46, .int .u8 48, .int .u8 32, .int .u8 50, .int .u8 48, .int .u8 52, .int .u8 32, .int .u8 13, .int .u8 10] exA rfl (by decide)
  have hA4 := hA.later hb4
  have cA := P.response _ exA W4 (by decide) hO (P.later HE.out hA4.below)
  rw [ex_a] at cA
  have cA' : Calls Tryd.prog 11 #[.slice (some ⟨W3.heap.size, 0, none⟩) 15 15] W4 fun e w' => e = .returned (.tuple #[.agg #[.string ⟨#[]⟩, .string ⟨#[]⟩, .int .i64 204, .string ⟨#[]⟩, .int .i64 0], .int .i64 15, .int .i64 0]) ∧ Below W4.heap.size W4 w' := cA
  have hcv' : (convert 22 22 (.slice (some ⟨W3.heap.size, 0, none⟩) 15 15)).run Tryd.prog (W3.alloc (.cells #[.int .u8 72, .int .u8 84, .int .u8 84, .int .u8 80, .int .u8 47, .int .u8 49, .int .u8 46, .int .u8 48, .int .u8 32, .int .u8 50, .int .u8 48, .int .u8 52, .int .u8 32, .int .u8 13, .int .u8 10] 5)) = .ok (.slice (some ⟨W3.heap.size, 0, none⟩) 15 15) W4 := hcv
  clear hcv cA hO hA hb4
  go_wp2_with fail
  refine cA'.mono ?_
  rintro e W5 ⟨rfl, hb5⟩
  have hA5 := hA4.later hb5
  have hB6 := SAt.fresh hA5.below (.string ⟨#[]⟩) (.string ⟨#[]⟩) (.int .i64 204) (.string ⟨#[]⟩) (.int .i64 0)
  have hA6 := hA5.alloc (.cells #[.string ⟨#[]⟩, .string ⟨#[]⟩, .int .i64 204, .string ⟨#[]⟩, .int .i64 0] 25)
  clear cA' hcv' hA4 hA5 hb5
  go_upto_region 3 with fail
  generalize W5.alloc (.cells #[.string ⟨#[]⟩, .string ⟨#[]⟩, .int .i64 204, .string ⟨#[]⟩, .int .i64 0] 25) = W6 at hA6 hB6 ⊢
  generalize W5.heap.size = g6 at hB6 ⊢
  obtain ⟨a0, a1, a2, a3, a4⟩ := hA6.cells
  obtain ⟨b0, b1, b2, b3, b4⟩ := hB6.cells
  have hB := hA6.below
  clear hA6 hB6
  go_wp2_with fail
  go_ret
  exact ⟨rfl, hB⟩
end Go.Proofs.YtbpghbbcghlcaaaDoor
