/- The plain mathematics of package fresh: how old a response is, how long it is fresh, whether it may be told. D: what a moment's text says (layer 2), if it is one. -/
import Derived.Test.YtajbeoignhnpjaaDoorFdMath
import Derived.Test.YtajbeoignhnpjaaDoorCtMath
import Derived.Test.YtajbeoignhnpjaaDoorCtMathB
namespace Fr
open Fld (get F)

abbrev T := List UInt8
def kCC : T := [99, 97, 99, 104, 101, 45, 99, 111, 110, 116, 114, 111, 108]
def kDate : T := [100, 97, 116, 101]
def kExp : T := [101, 120, 112, 105, 114, 101, 115]
def kMod : T := [108, 97, 115, 116, 45, 109, 111, 100, 105, 102, 105, 101, 100]
def kAge : T := [97, 103, 101]
def far : Int := 1099511627776
def maxD : Int := 2147483647
def cap (n most : Int) : Int := max 0 (min n most)
def says (fs : List F) : Ctl.C := Ctl.parse (get fs kCC)
def moment (D : T → Option Int) (fs : List F) (n : T) : Option Int := match get fs n with
  | [v] => D v
  | _ => none
/-- When it was asked for, and when it came. -/
def ask (a : Int) : Int := cap a far
def got (a g : Int) : Int := max (cap g far) (ask a)
def date (D : T → Option Int) (fs : List F) (g : Int) : Int := (moment D fs kDate).getD g
def heur (st : Int) : Bool := decide (st ∈ [200, 203, 204, 300, 301, 308, 404, 405, 410, 414, 501])
def life (D : T → Option Int) (st : Int) (fs : List F) (g : Int) : Int × Bool :=
  if 0 ≤ (says fs).sa then ((says fs).sa, true)
  else if 0 ≤ (says fs).ma then ((says fs).ma, true)
  else if get fs kExp ≠ [] then (match moment D fs kExp with | some n => (cap (n - date D fs g) maxD, true) | none => (0, true))
  else match moment D fs kMod with
    | some n => if heur st = true ∧ n ≤ date D fs g then (cap ((date D fs g - n) / 10) maxD, false) else (0, false)
    | none => (0, false)
/-- What the first field age says. -/
def told (fs : List F) : Int := match get fs kAge with
  | [] => 0
  | v :: _ => if (Oct.number 10 2147483647 v).2 = 12 then 2147483647 else (Oct.number 10 2147483647 v).1
/-- How old it was when it came. -/
def base (D : T → Option Int) (fs : List F) (a g : Int) : Int := max (told fs + got a g - ask a) (got a g - date D fs (got a g))
def clock (a g now : Int) : Int := max (cap now far) (got a g)
def age (D : T → Option Int) (fs : List F) (a g now : Int) : Int := cap (base D fs a g + clock a g now - got a g) maxD
def fresh (D : T → Option Int) (st : Int) (fs : List F) (a g now : Int) : Bool := decide (age D fs a g now < (life D st fs (got a g)).1)
/-- May it be told to a request that says c, so and so old, so long fresh? -/
def may (s c : Ctl.C) (n old : Int) : Bool :=
  if c.nc || s.nc || (decide (0 ≤ c.ma) && decide (c.ma < old)) || (decide (0 ≤ c.mf) && decide (n - old < c.mf)) then false
  else if old < n then true
  else decide (0 ≤ c.ms) && decide (old - n ≤ c.ms) && !s.mu && !s.px && decide (s.sa < 0)
def serve (D : T → Option Int) (st : Int) (fs : List F) (a g now : Int) (c : Ctl.C) : Bool := may (says fs) c (life D st fs (got a g)).1 (age D fs a g now)

/-! ### bounds -/
theorem cap_bd (n : Int) {m : Int} (h : 0 ≤ m) : 0 ≤ cap n m ∧ cap n m ≤ m := by unfold cap; omega
theorem got_bd (a g : Int) : 0 ≤ ask a ∧ ask a ≤ got a g ∧ got a g ≤ far := by
  have h1 := cap_bd a (m := far) (by decide)
  have h2 := cap_bd g (m := far) (by decide)
  unfold got ask; omega
theorem number_bd (v : T) : 0 ≤ (Oct.number 10 2147483647 v).1 ∧ (Oct.number 10 2147483647 v).1 ≤ 2147483647 := by
  by_cases hn : v = []
  · subst hn; decide
  · by_cases hd : Oct.allOf (Oct.dig 10) v = true
    · rw [Ctl.number_val 2147483647 v hn hd (by decide)]
      have := Ctl.val_ge v 0 (Int.le_refl 0)
      split
      · exact ⟨this, by assumption⟩
      · exact ⟨by decide, by decide⟩
    · unfold Oct.number
      simp [hd]
theorem told_bd (fs : List F) : 0 ≤ told fs ∧ told fs ≤ 2147483647 := by
  unfold told
  split
  · exact ⟨by decide, by decide⟩
  · split
    · exact ⟨by decide, by decide⟩
    · exact number_bd _
theorem base_ge (D : T → Option Int) (fs : List F) (a g : Int) : 0 ≤ base D fs a g := by
  have h1 := told_bd fs
  have h2 := got_bd a g
  unfold base; omega
theorem age_bd (D : T → Option Int) (fs : List F) (a g now : Int) : 0 ≤ age D fs a g now ∧ age D fs a g now ≤ maxD := cap_bd _ (by decide)

/-! ### FreshLater -/
theorem age_later (D : T → Option Int) (fs : List F) (a g : Int) {x y : Int} (h : x ≤ y) : age D fs a g x ≤ age D fs a g y := by
  unfold age clock cap; omega
theorem fresh_later (D : T → Option Int) (st : Int) (fs : List F) (a g : Int) {x y : Int} (h : x ≤ y) (hf : fresh D st fs a g y = true) : fresh D st fs a g x = true := by
  unfold fresh at hf ⊢
  rw [decide_eq_true_eq] at hf ⊢
  have := age_later D fs a g h; omega
theorem age_step (D : T → Option Int) (fs : List F) (a g : Int) {x y : Int} (h : x ≤ y) (hx : got a g ≤ x) (hy : y ≤ far) (hm : age D fs a g y ≠ maxD) : age D fs a g y - age D fs a g x = y - x := by
  have h1 := base_ge D fs a g
  have h2 := got_bd a g
  unfold age clock cap at hm ⊢
  unfold far maxD at *
  omega

/-! ### FreshStrict -/
theorem may_nocache (s c : Ctl.C) (n old : Int) (h : c.nc = true) : may s c n old = false := by unfold may; rw [h]; simp
/-- What is told to a request that says more is told to one that says less. -/
theorem may_less {s c d : Ctl.C} {n old : Int} (hnc : d.nc = c.nc) (hma : 0 ≤ c.ma → 0 ≤ d.ma ∧ d.ma ≤ c.ma) (hmf : 0 ≤ c.mf → 0 ≤ d.mf ∧ c.mf ≤ d.mf) (hms : 0 ≤ d.ms → 0 ≤ c.ms ∧ d.ms ≤ c.ms) (h : may s d n old = true) : may s c n old = true := by
  unfold may at h ⊢
  split at h
  · cases h
  · rename_i h1
    have h2 : ¬ ((c.nc || s.nc || (decide (0 ≤ c.ma) && decide (c.ma < old)) || (decide (0 ≤ c.mf) && decide (n - old < c.mf))) = true) := by
      intro e
      apply h1
      rw [hnc]
      simp only [Bool.or_eq_true, Bool.and_eq_true, decide_eq_true_eq] at e ⊢
      rcases e with ((e | e) | e) | e
      · exact .inl (.inl (.inl e))
      · exact .inl (.inl (.inr e))
      · have := hma e.1; exact .inl (.inr ⟨by omega, by omega⟩)
      · have := hmf e.1; exact .inr ⟨by omega, by omega⟩
    rw [if_neg h2]
    split at h
    · rename_i h3; rw [if_pos h3]
    · rename_i h3
      rw [if_neg h3]
      simp only [Bool.and_eq_true, decide_eq_true_eq] at h ⊢
      obtain ⟨⟨⟨⟨a1, a2⟩, a3⟩, a4⟩, a5⟩ := h
      have := hms a1
      exact ⟨⟨⟨⟨by omega, by omega⟩, a3⟩, a4⟩, a5⟩

/-! ### FreshLonger -/
def nCC : T := [67, 97, 99, 104, 101, 45, 67, 111, 110, 116, 114, 111, 108]
def kEq : T := [109, 97, 120, 45, 97, 103, 101, 61]
/-- A response of a maximum age. -/
def aged (s : T) : List F := [(nCC, kEq ++ s)]
theorem get_one (nm v k : T) (h : (Oct.lower nm == Oct.lower k) = true) : get [(nm, v)] k = [v] := by
  unfold Fld.get; rw [Fld.fone]; unfold Fld.named; rw [if_pos h]; rfl
theorem get_none (nm v k : T) (h : (Oct.lower nm == Oct.lower k) = false) : get [(nm, v)] k = [] := by
  unfold Fld.get; rw [Fld.fone]; unfold Fld.named; rw [h]; rfl
theorem aged_cc (s : T) : get (aged s) kCC = [kEq ++ s] := get_one _ _ _ (by decide)
theorem aged_date (s : T) : get (aged s) kDate = [] := get_none _ _ _ (by decide)
theorem aged_exp (s : T) : get (aged s) kExp = [] := get_none _ _ _ (by decide)
theorem aged_age (s : T) : get (aged s) kAge = [] := get_none _ _ _ (by decide)
theorem aged_says (s : T) (hn : s ≠ []) (hd : Oct.allOf (Oct.dig 10) s = true) : says (aged s) = { Ctl.none0 with ma := min (Ctl.val 0 s) 2147483647 } := by
  have ht : Oct.token s = true := Ctl.token_of hn fun c hc => (Ctl.dig_all hd c hc).1
  have hk : Oct.token Ctl.kMA = true := by decide
  have he : kEq ++ s = Ctl.kMA ++ 61 :: s := rfl
  unfold says
  rw [aged_cc, he]
  unfold Ctl.parse
  have hs : Oct.splitAll [Ctl.kMA ++ 61 :: s] = [Ctl.kMA ++ 61 :: s] := by
    have := Ctl.split_fine (Ctl.fine_arg hk ht)
    simp [Oct.splitAll, this]
  rw [hs]
  show Ctl.step Ctl.none0 _ = _
  rw [Ctl.step_some (Ctl.directive_arg hk (Ctl.argument_token ht)), Ctl.worth_digits hn hd]
  have h0 := Ctl.val_ge s 0 (Int.le_refl 0)
  have hl : Oct.lower Ctl.kMA = Ctl.kMA := by decide
  rw [hl]
  simp [Ctl.say, Ctl.none0, Ctl.kNS, Ctl.kNC, Ctl.kPU, Ctl.kPR, Ctl.kMU, Ctl.kPX, Ctl.kOI, Ctl.kMA, Ctl.kSA, Ctl.kMS, Ctl.kMF, Ctl.first]
theorem aged_life (D : T → Option Int) (st : Int) (s : T) (hn : s ≠ []) (hd : Oct.allOf (Oct.dig 10) s = true) (g : Int) : life D st (aged s) g = (min (Ctl.val 0 s) 2147483647, true) := by
  have h0 := Ctl.val_ge s 0 (Int.le_refl 0)
  have e1 : (says (aged s)).sa = -1 := by rw [aged_says s hn hd]; rfl
  have e2 : (says (aged s)).ma = min (Ctl.val 0 s) 2147483647 := by rw [aged_says s hn hd]
  unfold life
  rw [e1, e2, if_neg (by decide), if_pos (by omega)]
theorem aged_date' (D : T → Option Int) (s : T) (g : Int) : date D (aged s) g = g := by unfold date moment; rw [aged_date]; rfl
theorem aged_told (s : T) : told (aged s) = 0 := by unfold told; rw [aged_age]
theorem aged_old (D : T → Option Int) (s : T) (a g now : Int) (h0 : 0 ≤ a) (h1 : a ≤ g) (h2 : g ≤ far) (h3 : g ≤ now) (h4 : now ≤ far) : age D (aged s) a g now = min (now - a) maxD := by
  unfold age clock base
  rw [aged_date', aged_told]
  unfold got ask cap
  unfold far maxD at *
  omega
theorem aged_fresh (D : T → Option Int) (st : Int) (s : T) (hn : s ≠ []) (hd : Oct.allOf (Oct.dig 10) s = true) (g now : Int) (h1 : 0 ≤ g) (h2 : g ≤ far) (h3 : g ≤ now) (h4 : now ≤ far) :
    fresh D st (aged s) g g now = decide (min (now - g) maxD < min (Ctl.val 0 s) 2147483647) := by
  unfold fresh; rw [aged_old D s g g now h1 (Int.le_refl g) h2 h3 h4, aged_life D st s hn hd]
end Fr
