/- Package fresh: bounds, and what is reckoned, way by way. -/
import Derived.Test.YtajbeoignhnpjaaDoorFrMath
namespace Fr
open Fld (get F)

/-- A moment's text says a moment. -/
def Fine (D : T → Option Int) : Prop := ∀ v a, D v = some a → 0 ≤ a ∧ a ≤ 253402300799
section
variable {D : T → Option Int} (hD : Fine D)
theorem moment_one {fs : List F} {n v : T} (h : get fs n = [v]) : moment D fs n = D v := by unfold moment; rw [h]
theorem moment_no {fs : List F} {n : T} (h : (get fs n).length ≠ 1) : moment D fs n = none := by
  unfold moment
  split
  · rename_i v hv; rw [hv] at h; exact absurd rfl h
  · rfl
include hD
theorem moment_bd {fs : List F} {n : T} {a : Int} (h : moment D fs n = some a) : 0 ≤ a ∧ a ≤ 253402300799 := by
  unfold moment at h
  split at h
  · exact hD _ _ h
  · cases h
theorem date_bd (fs : List F) {g : Int} (h0 : 0 ≤ g) (h1 : g ≤ far) : 0 ≤ date D fs g ∧ date D fs g ≤ far := by
  unfold date
  cases h : moment D fs kDate with
  | none => exact ⟨h0, h1⟩
  | some a => have := moment_bd hD h; show 0 ≤ a ∧ a ≤ far; unfold far; omega
end
theorem says_bd (fs : List F) : (-1 ≤ (says fs).ma ∧ (says fs).ma ≤ 2147483647) ∧ (-1 ≤ (says fs).sa ∧ (says fs).sa ≤ 2147483647) := by
  obtain ⟨h1, h2, _⟩ := Ctl.ok_parse (get fs kCC)
  unfold Ctl.okN at h1 h2
  unfold says; omega
theorem life_bd (D : T → Option Int) (st : Int) (fs : List F) (g : Int) : 0 ≤ (life D st fs g).1 ∧ (life D st fs g).1 ≤ 2147483647 := by
  have h := says_bd fs
  unfold life
  split
  · exact ⟨by assumption, h.2.2⟩
  · split
    · exact ⟨by assumption, h.1.2⟩
    · split
      · split
        · exact cap_bd _ (by decide)
        · exact ⟨by decide, by decide⟩
      · split
        · split
          · exact cap_bd _ (by decide)
          · exact ⟨by decide, by decide⟩
        · exact ⟨by decide, by decide⟩
theorem base_bd {D : T → Option Int} (hD : Fine D) (fs : List F) (a g : Int) : 0 ≤ base D fs a g ∧ base D fs a g ≤ 1101659111423 := by
  have h0 := base_ge D fs a g
  have h1 := told_bd fs
  have h2 := got_bd a g
  have h3 := date_bd hD fs (g := got a g) (by omega) h2.2.2
  refine ⟨h0, ?_⟩
  unfold base
  unfold far at *
  omega

/-! ### way by way -/
section
variable (D : T → Option Int) (st : Int) {fs : List F} (g : Int)
theorem life_sa (h : 0 ≤ (says fs).sa) : life D st fs g = ((says fs).sa, true) := by unfold life; rw [if_pos h]
theorem life_ma (h : ¬ 0 ≤ (says fs).sa) (h1 : 0 ≤ (says fs).ma) : life D st fs g = ((says fs).ma, true) := by unfold life; rw [if_neg h, if_pos h1]
theorem life_exp {n : Int} (h : ¬ 0 ≤ (says fs).sa) (h1 : ¬ 0 ≤ (says fs).ma) (h2 : get fs kExp ≠ []) (hm : moment D fs kExp = some n) : life D st fs g = (cap (n - date D fs g) maxD, true) := by
  unfold life; rw [if_neg h, if_neg h1, if_pos h2, hm]
theorem life_bad (h : ¬ 0 ≤ (says fs).sa) (h1 : ¬ 0 ≤ (says fs).ma) (h2 : get fs kExp ≠ []) (hm : moment D fs kExp = none) : life D st fs g = (0, true) := by
  unfold life; rw [if_neg h, if_neg h1, if_pos h2, hm]
theorem life_mod {n : Int} (h : ¬ 0 ≤ (says fs).sa) (h1 : ¬ 0 ≤ (says fs).ma) (h2 : get fs kExp = []) (hm : moment D fs kMod = some n) (hh : heur st = true) (hn : n ≤ date D fs g) : life D st fs g = (cap ((date D fs g - n) / 10) maxD, false) := by
  unfold life; rw [if_neg h, if_neg h1, if_neg (by rw [h2]; simp), hm]; exact if_pos ⟨hh, hn⟩
theorem life_not {n : Int} (h : ¬ 0 ≤ (says fs).sa) (h1 : ¬ 0 ≤ (says fs).ma) (h2 : get fs kExp = []) (hm : moment D fs kMod = some n) (hh : ¬ (heur st = true ∧ n ≤ date D fs g)) : life D st fs g = (0, false) := by
  unfold life; rw [if_neg h, if_neg h1, if_neg (by rw [h2]; simp), hm]; exact if_neg hh
theorem life_none (h : ¬ 0 ≤ (says fs).sa) (h1 : ¬ 0 ≤ (says fs).ma) (h2 : get fs kExp = []) (hm : moment D fs kMod = none) : life D st fs g = (0, false) := by
  unfold life; rw [if_neg h, if_neg h1, if_neg (by rw [h2]; simp), hm]
end
theorem told_none {fs : List F} (h : get fs kAge = []) : told fs = 0 := by unfold told; rw [h]
theorem told_some {fs : List F} {v : T} {vs : List T} (h : get fs kAge = v :: vs) : told fs = if (Oct.number 10 2147483647 v).2 = 12 then 2147483647 else (Oct.number 10 2147483647 v).1 := by unfold told; rw [h]
end Fr
