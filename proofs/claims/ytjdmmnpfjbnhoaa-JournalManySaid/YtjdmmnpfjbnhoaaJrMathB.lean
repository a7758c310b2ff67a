/- The plain mathematics of journals: a record that is laid is found; what is no head isn't. -/
import Derived.Test.YtjdmmnpfjbnhoaaJrMath
namespace Jr
open Dv

theorem heads_drop : ∀ (puts : List Put) (i : Nat) (h : i < puts.length), ∃ r, (heads puts).drop (5 * i) = lay puts[i].1 4 ++ (puts[i].2.getD 0 0 :: r)
  | p :: l, 0, _ => ⟨heads l, by
    show (lay p.1 4 ++ [p.2.getD 0 0]) ++ heads l = _
    rw [List.append_assoc]; rfl⟩
  | p :: l, i + 1, h => by
    obtain ⟨r, hr⟩ := heads_drop l i (by simpa using h)
    refine ⟨r, ?_⟩
    show (((lay p.1 4 ++ [p.2.getD 0 0]) ++ heads l).drop (5 * (i + 1))) = _
    rw [List.drop_append, List.drop_of_length_le (by simp [lay_length]; omega), List.nil_append]
    have : (lay p.1 4 ++ [p.2.getD 0 0]).length = 5 := by simp [lay_length]
    rw [this, show 5 * (i + 1) - 5 = 5 * i by omega, hr]
    simp
/-- The octets of a head behind its first ten. -/
theorem head_drop (n : Int) (puts : List Put) (hp : puts.length ≤ 10) (j : Nat) : (head n puts).drop (10 + j) = ((heads puts) ++ List.replicate (54 - 5 * puts.length) 0).drop j := by
  unfold head fill
  have hl : (72 :: (lay (u64 n) 8 ++ (UInt8.ofNat puts.length :: heads puts))).length = 10 + 5 * puts.length := by
    simp only [List.length_cons, List.length_append, lay_length, heads_length]; omega
  rw [hl, show 64 - (10 + 5 * puts.length) = 54 - 5 * puts.length by omega, ← List.drop_drop]
  rfl
theorem head_zero (n : Int) (puts : List Put) : (head n puts).getD 0 0 = 72 := rfl
theorem head_num (n : Int) (puts : List Put) : ((head n puts).drop 1).take 8 = lay (u64 n) 8 := by
  unfold head fill
  show (((lay (u64 n) 8 ++ (UInt8.ofNat puts.length :: heads puts))) ++ _).take 8 = _
  rw [List.append_assoc, List.take_append, List.take_of_length_le (by rw [lay_length]; omega), lay_length]
  simp
theorem head_count (n : Int) (puts : List Put) (hp : puts.length ≤ 10) : count (head n puts) = puts.length := by
  unfold count
  have : (head n puts).getD 9 0 = UInt8.ofNat puts.length := by
    unfold head fill
    rw [List.getD_eq_getElem?_getD, List.cons_append, List.getElem?_cons_succ, List.append_assoc, List.getElem?_append_right (by rw [lay_length]; omega), lay_length]
    rfl
  rw [this, UInt8.toNat_ofNat', Nat.mod_eq_of_lt (by omega)]
theorem foot_zero (n : Int) : (foot n).getD 0 0 = 67 := rfl
theorem foot_num (n : Int) : ((foot n).drop 1).take 8 = lay (u64 n) 8 := by
  unfold foot fill
  show ((lay (u64 n) 8) ++ _).take 8 = _
  rw [List.take_append, List.take_of_length_le (by rw [lay_length]; omega), lay_length]
  simp
theorem content_zero (x : Sec) : (content x).getD 0 0 = 0 := rfl

/-- On sectors a and behind, what l says stands. -/
def Stands (all : List Sec) (a : Nat) (l : List Sec) : Prop := ∀ i, i < l.length → all.getD (a + i) [] = l.getD i []
theorem record_at_head (n : Int) (puts : List Put) : (record n puts).getD 0 [] = head n puts := rfl
theorem record_at_foot (n : Int) (puts : List Put) : (record n puts).getD (puts.length + 1) [] = foot n := by
  unfold record
  rw [List.getD_eq_getElem?_getD, List.getElem?_cons_succ, List.getElem?_append_right (by simp), List.length_map, Nat.sub_self]
  rfl
theorem record_at_put (n : Int) (puts : List Put) (i : Nat) (h : i < puts.length) : (record n puts).getD (1 + i) [] = content puts[i].2 := by
  unfold record
  rw [Nat.add_comm, List.getD_eq_getElem?_getD, List.getElem?_cons_succ, List.getElem?_append_left (by simpa using h)]
  simp [h]
theorem cons_head {x : Sec} (h : x.length = 64) : x.getD 0 0 :: x.drop 1 = x := by
  match x, h with
  | a :: r, _ => rfl
/-- Puts that a record may have. -/
structure Fit (puts : List Put) (size from_ n : Nat) : Prop where
  one : 1 ≤ puts.length
  ten : puts.length ≤ 10
  out : ∀ p ∈ puts, outside p.1 size from_ n
  len : ∀ p ∈ puts, p.2.length = 64
theorem find_record {all : List Sec} {a n size from_ : Nat} {puts : List Put} (hf : Fit puts size from_ all.length) (hs : size ≤ 65536) (hst : Stands all a (record n puts)) (ha : 2 ≤ a) (hl : a + puts.length + 2 ≤ all.length) (hn : n < 9223372036854775808) :
    find all a n size from_ = some puts := by
  have h0 : all.getD a [] = head n puts := by
    have := hst 0 (by rw [record_length]; omega)
    rw [Nat.add_zero] at this
    exact this
  have hfo : all.getD (a + puts.length + 1) [] = foot n := by
    have := hst (puts.length + 1) (by rw [record_length]; omega)
    rw [record_at_foot] at this
    rw [Nat.add_assoc]; exact this
  have hput : ∀ i (h : i < puts.length), putAt all a i = puts[i] := fun i h => by
    obtain ⟨r, hr⟩ := heads_drop puts i h
    have hd := head_drop n puts hf.ten (5 * i)
    rw [List.drop_append, hr, List.append_assoc] at hd
    have h64 := hf.len puts[i] (List.getElem_mem h)
    have hout := hf.out puts[i] (List.getElem_mem h)
    have hc := hst (1 + i) (by rw [record_length]; omega)
    rw [record_at_put n puts i h] at hc
    unfold putAt
    rw [h0, hd, List.take_append, List.take_of_length_le (by rw [lay_length]; omega), lay_length]
    simp only [Nat.sub_self, List.take_zero, List.append_nil]
    rw [unum_lay 4 _ (by decide) (by have := hout.1; omega), Nat.add_assoc, hc]
    have e2 : (head n puts).getD (14 + 5 * i) 0 = puts[i].2.getD 0 0 := by
      have h9 : ((head n puts).drop (10 + 5 * i))[4]? = some (puts[i].2.getD 0 0) := by
        rw [hd, List.getElem?_append_right (by rw [lay_length]; omega), lay_length]
        rfl
      rw [List.getElem?_drop] at h9
      rw [List.getD_eq_getElem?_getD, show 14 + 5 * i = 10 + 5 * i + 4 by omega, h9]
      rfl
    rw [e2]
    show (_, puts[i].2.getD 0 0 :: puts[i].2.drop 1) = _
    rw [cons_head h64]
  have hc : count (all.getD a []) = puts.length := by rw [h0]; exact head_count _ _ hf.ten
  unfold find
  rw [if_pos, hc]
  · refine congrArg some (List.ext_getElem (by simp) fun i h1 h2 => ?_)
    rw [List.getElem_map, List.getElem_range]
    exact hput i h2
  · unfold found
    rw [hc, hfo, foot_zero, foot_num, h0, head_zero, head_num, u64_nat n (by omega), num_lay n hn]
    refine ⟨ha, by omega, rfl, rfl, hf.one, hf.ten, by omega, rfl, rfl, fun i hi => ?_⟩
    rw [hput i hi]
    exact hf.out _ (List.getElem_mem hi)
/-- Where no head with the number stands, nothing is found. -/
theorem find_no {all : List Sec} {a size from_ : Nat} {n : Int} (h : 2 ≤ a → a < all.length → (all.getD a []).getD 0 0 = 72 → num (((all.getD a []).drop 1).take 8) = n → False) : find all a n size from_ = none := by
  unfold find
  rw [if_neg]
  intro hf
  exact h hf.1 hf.2.1 hf.2.2.1 hf.2.2.2.1
theorem head_says (n : Nat) (puts : List Put) (hn : n < 9223372036854775808) : num (((head n puts).drop 1).take 8) = (n : Int) := by
  rw [head_num, u64_nat n (by omega), num_lay n hn]
end Jr
