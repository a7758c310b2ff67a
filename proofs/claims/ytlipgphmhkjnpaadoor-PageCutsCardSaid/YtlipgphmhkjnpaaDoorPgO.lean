/- What a reading of eight sectors tells, plainly. -/
import Derived.Test.YtlipgphmhkjnpaaDoorPgM
namespace Dv
theorem last_64 (safe : List Sec) (hs : ∀ x ∈ safe, x.length = 64) (i : Nat) (hi : i < safe.length) (wait : List (Nat × Sec)) (hw : ∀ x ∈ wait, x.2.length = 64) : (last safe wait i).length = 64 := by
  unfold last
  have h0 : (safe.getD i []).length = 64 := by
    rw [List.getD_eq_getElem?_getD, List.getElem?_eq_getElem hi]
    exact hs _ (List.getElem_mem hi)
  revert h0
  generalize safe.getD i [] = y
  induction wait generalizing y with
  | nil => exact fun h => h
  | cons x l ih =>
    intro h
    rw [List.foldl_cons]
    refine ih (fun z hz => hw z (List.mem_cons_of_mem _ hz)) _ ?_
    split
    · exact hw x (List.mem_cons_self ..)
    · exact h
theorem read_64 {d : S} (hs : ∀ x ∈ d.safe, x.length = 64) (hw : ∀ x ∈ d.wait, x.2.length = 64) (at_ : Int) : (read d at_ 8).2.1.length ≤ 8 ∧ ∀ x ∈ (read d at_ 8).2.1, x.length = 64 := by
  unfold read
  split
  · exact ⟨Nat.zero_le _, fun x hx => by cases hx⟩
  · rename_i h9
    split
    · exact ⟨Nat.zero_le _, fun x hx => by cases hx⟩
    · refine ⟨by simp, fun x hx => ?_⟩
      obtain ⟨j, hj, rfl⟩ := List.mem_map.1 hx
      have hj8 : j < 8 := by simpa using hj
      have ht : there d at_ 8 = true := by cases h : there d at_ 8 with | true => rfl | false => exact absurd h h9
      unfold there at ht
      have ht := of_decide_eq_true ht
      exact last_64 _ hs _ (by omega) _ hw
theorem read_bad {d : S} {at_ k : Int} (h : (read d at_ k).2.2 ≠ 0) : (read d at_ k).2.1 = [] := by
  unfold read at *
  split
  · rfl
  · rename_i h1
    rw [if_neg h1] at h
    split
    · rfl
    · rename_i h2
      rw [if_neg h2] at h
      exact absurd rfl h
end Dv
namespace Pg
theorem unp_nil : unp [] = (0, [], false) := unp_no (fun h => by cases h.1)
/-- What is told of a reading, by what octets they are. -/
theorem read_is (d : Dv.S) (at_ : Int) : read d at_ = ((Dv.read d at_ 8).1, (unp (Dv.read d at_ 8).2.1.flatten).1, (unp (Dv.read d at_ 8).2.1.flatten).2.1, if (Dv.read d at_ 8).2.2 = 0 then (if (unp (Dv.read d at_ 8).2.1.flatten).2.2 = true then 0 else 33) else (Dv.read d at_ 8).2.2) := by
  unfold read told
  by_cases h : (Dv.read d at_ 8).2.2 = 0
  · rw [if_neg (by rw [h]; exact fun x => x rfl), if_pos h]
    unfold unp
    cases hu : unpack (Dv.read d at_ 8).2.1.flatten with
    | none => rfl
    | some p => obtain ⟨k, b⟩ := p; rfl
  · rw [if_pos h, if_neg h, Dv.read_bad h, List.flatten_nil, unp_nil]
end Pg
namespace Go.Proofs.YtlipgphmhkjnpaaDoor
open Go.RowKit
theorem RDev.sizes {B g : Nat} {w : World} {d : Dv.S} {F : Nat → Prop} (h : RDev B w g d F) (at_ : Int) : (Dv.read d at_ 8).2.1.length ≤ 8 ∧ ∀ x ∈ (Dv.read d at_ 8).2.1, x.length = 64 := by
  obtain ⟨_, _, vs, vw, vb, us, ws, h⟩ := h
  exact Dv.read_64 h.gS (fun x hx => (h.gW x hx).2) at_
end Go.Proofs.YtlipgphmhkjnpaaDoor
