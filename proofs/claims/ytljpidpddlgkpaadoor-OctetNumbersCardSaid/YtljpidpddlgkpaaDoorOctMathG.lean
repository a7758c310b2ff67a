/- The plain mathematics of package octet: a number's digits. -/
import Derived.Test.YtljpidpddlgkpaaDoorOctMathD
import Derived.Lib.ItoaNum
namespace Oct

def hexl : List UInt8 := [48, 49, 50, 51, 52, 53, 54, 55, 56, 57, 97, 98, 99, 100, 101, 102]
/-- The digit of a number below 16. -/
def ch (r : Nat) : UInt8 := hexl.getD r 0
theorem ch_small (r : Nat) (h : r < 10) : ((ch r).toNat : Int) = 48 + r := by
  rcases r with _ | _ | _ | _ | _ | _ | _ | _ | _ | _ | r
  all_goals first | rfl | omega
theorem ch_great (r : Nat) (h : 10 ≤ r) (h2 : r < 16) : ((ch r).toNat : Int) = 87 + r := by
  rcases r with _ | _ | _ | _ | _ | _ | _ | _ | _ | _ | _ | _ | _ | _ | _ | _ | r
  all_goals first | rfl | omega
theorem ch_worth (r : Nat) (h : r < 16) : worth (ch r) = r := by
  rcases r with _ | _ | _ | _ | _ | _ | _ | _ | _ | _ | _ | _ | _ | _ | _ | _ | r
  all_goals first | rfl | omega

theorem ch_at (r : Nat) (h : r < 16) {hb : r < (⟨#[48, 49, 50, 51, 52, 53, 54, 55, 56, 57, 97, 98, 99, 100, 101, 102, 103, 104, 105, 106, 107, 108, 109, 110, 111, 112, 113, 114, 115, 116, 117, 118, 119, 120, 121, 122]⟩ : ByteArray).size} : (⟨#[48, 49, 50, 51, 52, 53, 54, 55, 56, 57, 97, 98, 99, 100, 101, 102, 103, 104, 105, 106, 107, 108, 109, 110, 111, 112, 113, 114, 115, 116, 117, 118, 119, 120, 121, 122]⟩ : ByteArray)[r]'hb = ch r := by
  rcases r with _ | _ | _ | _ | _ | _ | _ | _ | _ | _ | _ | _ | _ | _ | _ | _ | r
  all_goals first | rfl | omega
/-- The digits of u to the base b (2 or more), the first ahead; one digit for 0. -/
def dgs (b u : Nat) : List UInt8 := if _h : u < b ∨ b < 2 then [ch u] else dgs b (u / b) ++ [ch (u % b)]
  termination_by u
  decreasing_by
    have : ¬ (u < b ∨ b < 2) := _h
    exact Nat.div_lt_self (by omega) (by omega)
theorem dgs_last {b u : Nat} (h : u < b) : dgs b u = [ch u] := by rw [dgs, dif_pos (Or.inl h)]
theorem dgs_more {b u : Nat} (hb : 2 ≤ b) (h : b ≤ u) : dgs b u = dgs b (u / b) ++ [ch (u % b)] := by rw [dgs, dif_neg (by omega)]

theorem dgs_dec (u : Nat) : Go.Lib.decDigits u = dgs 10 u := by
  induction u using Nat.strongRecOn with
  | _ u ih =>
    by_cases h : u < 10
    · rw [dgs_last h, Go.Lib.decDigits, dif_pos h]
      congr 1
      apply UInt8.toNat_inj.1
      have := ch_small u h
      rw [UInt8.toNat_ofNat']
      omega
    · rw [dgs_more (by decide) (by omega), Go.Lib.decDigits, dif_neg h, ih (u / 10) (by omega)]
      congr 2
      apply UInt8.toNat_inj.1
      have := ch_small (u % 10) (by omega)
      rw [UInt8.toNat_ofNat']
      omega

theorem dgs_dig (b : Nat) (hb : 2 ≤ b) (hb2 : b ≤ 16) (u : Nat) : allOf (dig b) (dgs b u) = true := by
  induction u using Nat.strongRecOn with
  | _ u ih =>
    by_cases h : u < b
    · rw [dgs_last h]; simp [allOf, dig, ch_worth u (by omega), h]
    · rw [dgs_more hb (by omega)]
      have h1 := ih (u / b) (Nat.div_lt_self (by omega) (by omega))
      have h2 : u % b < b := Nat.mod_lt _ (by omega)
      unfold allOf at h1 ⊢
      rw [List.all_append, h1]
      simp [dig, ch_worth (u % b) (by omega), h2]
theorem dgs_ne (b : Nat) (u : Nat) : dgs b u ≠ [] := by
  rw [dgs]; split <;> simp
theorem dgs_len16 (u : Nat) (h : u < 2 ^ 63) : (dgs 16 u).length ≤ 100 := by
  have : ∀ (k v : Nat), v < 16 ^ (k + 1) → (dgs 16 v).length ≤ k + 1 := by
    intro k
    induction k with
    | zero => intro v hv; rw [dgs_last (by simpa using hv)]; simp
    | succ k ih =>
      intro v hv
      by_cases h : v < 16
      · rw [dgs_last h]; simp
      · rw [dgs_more (by decide) (by omega), List.length_append]
        have := ih (v / 16) (by rw [Nat.pow_succ] at hv; omega)
        simp; omega
  have := this 15 u (by omega)
  omega
theorem dgs_len10 (u : Nat) (h : u < 2 ^ 63) : (dgs 10 u).length ≤ 100 := by
  have : ∀ (k v : Nat), v < 10 ^ (k + 1) → (dgs 10 v).length ≤ k + 1 := by
    intro k
    induction k with
    | zero => intro v hv; rw [dgs_last (by simpa using hv)]; simp
    | succ k ih =>
      intro v hv
      by_cases h : v < 10
      · rw [dgs_last h]; simp
      · rw [dgs_more (by decide) (by omega), List.length_append]
        have := ih (v / 10) (by rw [Nat.pow_succ] at hv; omega)
        simp; omega
  have := this 19 u (by omega)
  omega

theorem num_snoc (b : Nat) (most : Int) (l : List UInt8) (c : UInt8) : ∀ n, num b most n (l ++ [c]) = (num b most n l).bind fun m => if most < m * b + worth c then none else some (m * b + worth c) := by
  induction l with
  | nil => intro n; simp [num]
  | cons d l ih =>
    intro n
    rw [List.cons_append]
    simp only [num]
    by_cases h : most < n * b + worth d
    · rw [if_pos h, if_pos h]; rfl
    · rw [if_neg h, if_neg h]; exact ih _
theorem num_dgs (b : Nat) (hb : 2 ≤ b) (hb2 : b ≤ 16) (most : Int) (u : Nat) (hu : (u : Int) ≤ most) : num b most 0 (dgs b u) = some (u : Int) := by
  induction u using Nat.strongRecOn with
  | _ u ih =>
    by_cases h : u < b
    · rw [dgs_last h]
      simp only [num, ch_worth u (by omega)]
      rw [if_neg (by omega)]; simp
    · rw [dgs_more hb (by omega), num_snoc]
      have hd := Nat.div_add_mod u b
      have hlt : u / b < u := Nat.div_lt_self (by omega) (by omega)
      rw [ih (u / b) hlt (by omega)]
      have hm : u % b < b := Nat.mod_lt _ (by omega)
      have e : ((u / b : Nat) : Int) * b + (u % b : Nat) = u := by
        rw [← Int.natCast_mul, Nat.mul_comm, ← Int.natCast_add, hd]
      show (if most < ((u / b : Nat) : Int) * b + (worth (ch (u % b)) : Nat) then none else some (((u / b : Nat) : Int) * b + (worth (ch (u % b)) : Nat))) = _
      rw [ch_worth (u % b) (by omega), e, if_neg (by omega)]
theorem number_dgs (b : Nat) (hb : 2 ≤ b) (hb2 : b ≤ 16) (most : Int) (u : Nat) (hu : (u : Int) ≤ most) : number b most (dgs b u) = ((u : Int), 0) := by
  unfold number
  rw [if_neg (by rw [dgs_dig b hb hb2 u]; simp [dgs_ne]), if_neg (by omega), num_dgs b hb hb2 most u hu]

theorem ch_is48 (b v : Nat) (h : v % b < 10) : (48 : Int) + (v : Int) % b = ((ch (v % b)).toNat : Int) := by
  rw [ch_small _ h]; omega
theorem ch_is87 (b v : Nat) (h : 10 ≤ v % b ∧ v % b < 16) : (87 : Int) + (v : Int) % b = ((ch (v % b)).toNat : Int) := by
  rw [ch_great _ h.1 h.2]; omega
theorem step16 {v l : Nat} (h : 16 ≤ v) (hv : l ≤ 15 ∧ v < 16 ^ (16 - l)) : l + 1 ≤ 15 ∧ v / 16 < 16 ^ (16 - (l + 1)) := by
  have h1 : l + 1 ≤ 15 := by
    rcases Nat.lt_or_ge l 15 with h2 | h2
    · omega
    · have e : l = 15 := by omega
      subst e
      have : v < 16 ^ 1 := hv.2
      omega
  refine ⟨h1, ?_⟩
  have e : 16 - l = (16 - (l + 1)) + 1 := by omega
  have h3 := hv.2
  rw [e, Nat.pow_succ] at h3
  omega
/-- What Print answers. -/
def base (b : Int) : Nat := if b = 16 then 16 else 10
def print (n b : Int) : List UInt8 := dgs (base b) n.toNat

end Oct
