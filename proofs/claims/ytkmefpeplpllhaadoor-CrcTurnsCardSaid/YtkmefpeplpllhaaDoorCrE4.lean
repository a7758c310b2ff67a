/- Four octets compared. -/
import Derived.Test.YtkmefpeplpllhaaDoorCrB
import Derived.DeepKeys
namespace Go.Proofs.YtkmefpeplpllhaaDoor
open Go.RowKit
theorem oct_wf (p : UInt8) : (Lit.int .u8 (p.toNat : Int)).wf = true := by
  have := p.toNat_lt
  have h1 : IntKind.u8.min = 0 := rfl
  have h3 : IntKind.u8.max = 255 := rfl
  simp only [Lit.wf, Bool.and_eq_true, decide_eq_true_eq]
  omega
theorem kl_one (p : UInt8) : Tryd.prog.keyLits 1 5 [.int .u8 (p.toNat : Int)] = some [.int .u8 (p.toNat : Int)] := by
  unfold Program.keyLits
  rw [Tryd.underlying5]
  simp [oct_wf p]
theorem kl_four (p q r s : UInt8) : Tryd.prog.keyLits 2 38 [.int .u8 (p.toNat : Int), .int .u8 (q.toNat : Int), .int .u8 (r.toNat : Int), .int .u8 (s.toNat : Int)] = some [.int .u8 (p.toNat : Int), .int .u8 (q.toNat : Int), .int .u8 (r.toNat : Int), .int .u8 (s.toNat : Int)] := by
  have h1 : Tryd.prog.cellsOf 38 = 4 := by kernel_rfl
  have h2 : Tryd.prog.cellsOf 5 = 1 := by kernel_rfl
  have hr : List.range 4 = [0, 1, 2, 3] := rfl
  unfold Program.keyLits
  rw [Tryd.underlying38]
  simp [h1, h2, hr, kl_one]
theorem eq_four (p q r s : UInt8) (w : World) : (Op.equalIn 10000 38 (.agg #[.int .u8 p.toNat, .int .u8 q.toNat, .int .u8 r.toNat, .int .u8 s.toNat]) (.agg #[.int .u8 0, .int .u8 0, .int .u8 0, .int .u8 0])).run Tryd.prog w = .ok (decide (p = 0 ∧ q = 0 ∧ r = 0 ∧ s = 0)) w := by
  obtain ⟨b, hb, hiff⟩ := run_equalIn_deep (P := Tryd.prog) 9998 2 38 (by kernel_rfl) w 2 2 (.agg #[.int .u8 p.toNat, .int .u8 q.toNat, .int .u8 r.toNat, .int .u8 s.toNat]) (.agg #[.int .u8 0, .int .u8 0, .int .u8 0, .int .u8 0]) [.int .u8 p.toNat, .int .u8 q.toNat, .int .u8 r.toNat, .int .u8 s.toNat] [.int .u8 0, .int .u8 0, .int .u8 0, .int .u8 0] (by kernel_rfl) (by kernel_rfl) (kl_four p q r s) (kl_four 0 0 0 0)
  have e : b = decide (p = 0 ∧ q = 0 ∧ r = 0 ∧ s = 0) := by
    have z : ∀ x : UInt8, (x.toNat : Int) = 0 ↔ x = 0 := fun x => by
      rw [← UInt8.toNat_inj]
      show _ ↔ x.toNat = 0
      omega
    rw [Bool.eq_iff_iff, hiff]
    simp only [List.cons.injEq, Lit.int.injEq, z, true_and, and_true, decide_eq_true_eq]
  rw [← e]
  exact hb
end Go.Proofs.YtkmefpeplpllhaaDoor
