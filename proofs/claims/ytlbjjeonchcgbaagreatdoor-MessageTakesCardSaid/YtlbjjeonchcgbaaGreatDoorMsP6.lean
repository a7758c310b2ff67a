/- Package message, the program: what taking is to tell; parts of what came in. -/
import Derived.Test.YtlbjjeonchcgbaaGreatDoorMsP5
namespace Go.Proofs.YtlbjjeonchcgbaaGreatDoor
open Go.RowKit

/-- What a reader tells that took octets, and where it stands; or the error. -/
def TakeTo (w : World) (g d : Nat) (asks hd : Bool) (r : Ms.L × Nat × Ms.S × Int) (x : Ending) (w' : World) : Prop :=
  (r.2.2.2 ≠ 0 ∧ (∃ u n, x = .returned (.tuple #[u, .int .i64 n, .int .i64 r.2.2.2])) ∧ Buts g d w w' ∧ ∃ c0 c1 c2 c3 c4 c5 c6 c7 c8 c9, RB w' g #[c0, c1, c2, c3, c4, c5, c6, c7, c8, c9, .bool asks, .bool hd, .int .i64 0]) ∨
  (r.2.2.2 = 0 ∧ (∃ u, x = .returned (.tuple #[u, .int .i64 r.2.1, .int .i64 0]) ∧ w'.ownsRow w.heap.size 5 1 u r.1.length (Lib.byteCells r.1)) ∧ Buts g d w w' ∧ ∃ d' fv, (d' = d ∨ w.heap.size ≤ d') ∧ RdAt w' g d' asks hd (awaits r.2.2.1) r.2.2.1 fv 0)

set_option maxRecDepth 100000 in
/-- What stands behind the first k octets. -/
theorem slice_from {w : World} {v : Value} {l : List UInt8} (h : BIn w v l) (hn : NilOk v) {K : Int} (k : Nat) (hK : K = k) (hk : k ≤ l.length) :
    ∃ u, (∀ W, (Instr.sliceAt 22 v (some (.int .i64 K)) none none).run Tryz.prog W = .ok u W) ∧ (∀ W, BIn W v l → BIn W u (l.drop k)) ∧ NilOk u := by
  subst hK
  obtain ⟨ao, c, rfl, h1, h2, h3⟩ := h
  obtain ⟨L, v2⟩ : ∃ L, L = l.length := ⟨_, rfl⟩
  rw [← v2] at hn ⊢
  have hkL : (k : Int) ≤ L := by omega
  have hk0 : (0 : Int) ≤ k := by omega
  refine ⟨.slice (if c = k then ao else ao.map (·.add k)) (L - k) (c - k), ?_, ?_, ?_⟩
  · intro W
    clear h3 h2 hn hk h1 v2
    go_simp
  · rintro W ⟨ao', c', hv, q1, q2, q3⟩
    injection hv with v1 v3 v4
    subst v1 v4
    refine ⟨_, c - k, by rw [List.length_drop, ← v2], by rw [List.length_drop]; omega, by omega, ?_⟩
    by_cases hkl : k = l.length
    · left; rw [List.drop_of_length_le (by omega)]
    · right
      rcases q3 with rfl | ⟨b, o, rfl, hb, hc⟩
      · simp at hk; simp at hkl; omega
      · rw [if_neg (by omega)]
        simp only [Option.map_some]
        rw [Addr.add_lit]
        refine ⟨b, o + k, rfl, hb, fun j hj => ?_⟩
        rw [List.length_drop] at hj
        rw [Nat.add_assoc, hc (k + j) (by omega)]
        simp
  · intro x hx
    injection hx with k1 k2 k3
    cases ao with
    | none =>
      have hl0 : l = [] := by
        rcases h3 with h | ⟨b, o, h, _⟩
        · exact h
        · cases h
      subst hl0
      have hL0 : L = 0 := v2
      subst hL0
      have := hn c rfl
      omega
    | some ad =>
      split at k1
      · cases k1
      · cases k1
theorem RdAt.no_oct {w : World} {g d : Nat} {asks hd : Bool} {a : Int} {st : Ms.S} {fv : Value} {e : Int} (h : RdAt w g d asks hd a st fv e) (j : Nat) (x : Int) : w.cell? ⟨g, j, none⟩ ≠ some (.int .u8 x) := by
  obtain ⟨fa, c, hv, _⟩ := h.fields
  subst hv
  exact h.row.rcs_oct j x
end Go.Proofs.YtlbjjeonchcgbaaGreatDoor
