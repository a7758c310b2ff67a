/- The plain mathematics of journals: what is laid out on the place (Sits); which transactions count then. -/
import Derived.Test.YtjdmmnpfjbnhoaaJrMathB
namespace Jr
open Dv

/-- A journal: its place, the mark's number, the next transaction's, the sector behind the latest record, the first one's that isn't settled, whether they have gone on on sector 2, what is owed, how many. -/
structure J where
  from_ : Nat
  n : Nat
  mark : Int
  next : Int
  at_ : Nat
  base : Nat
  wrapped : Bool
  owed : List Put
  cnt : Nat
/-- The place's sectors. -/
def pl (s : List Sec) (from_ n : Nat) : List Sec := (List.range n).map fun i => s.getD (from_ + i) []
theorem pl_length (s : List Sec) (f n : Nat) : (pl s f n).length = n := by unfold pl; simp
theorem pl_at (s : List Sec) (f n i : Nat) (h : i < n) : (pl s f n).getD i [] = s.getD (f + i) [] := by
  unfold pl
  rw [List.getD_eq_getElem?_getD, List.getElem?_map, List.getElem?_range h]
  rfl
abbrev Tr := Nat × List Put
def Chain : Nat → List Tr → Nat → Prop
  | a, [], e => e = a
  | a, t :: l, e => (t.1 = a ∨ t.1 = 2) ∧ Chain (t.1 + t.2.length + 2) l e
/-- What stands on the place, of a journal that owes the transactions ts, the first one of number `first`, looked for on sector at0. -/
structure Sits (s : List Sec) (j : J) (m first at0 : Nat) (ts : List Tr) : Prop where
  n5 : 5 ≤ j.n
  fit : j.from_ + j.n ≤ s.length
  max : s.length ≤ 65536
  hm : j.mark = m
  m1 : 1 ≤ m
  mm : m < 1000000
  mrk : s.getD (j.from_ + m % 2) [] = mark m first at0
  a2 : 2 ≤ at0
  aN : at0 ≤ j.n
  other : ∀ b f a, readMark (s.getD (j.from_ + (m + 1) % 2) []) ((m + 1) % 2) j.n = some (b, f, a) → b < m
  next : j.next = ((first + ts.length : Nat) : Int)
  nn : first + ts.length < 1000000
  rec_ : ∀ k (h : k < ts.length), Stands (pl s j.from_ j.n) ts[k].1 (record ((first + k : Nat) : Int) ts[k].2) ∧ 2 ≤ ts[k].1 ∧ ts[k].1 + ts[k].2.length + 2 ≤ j.n ∧ Fit ts[k].2 s.length j.from_ j.n
  heads : ∀ i, 2 ≤ i → i < j.n → (s.getD (j.from_ + i) []).getD 0 0 = 72 → ∃ u : Nat, num (((s.getD (j.from_ + i) []).drop 1).take 8) = (u : Int) ∧ (u < first ∨ ∃ k, ∃ h : k < ts.length, u = first + k ∧ ts[k].1 = i)
  chain : Chain at0 ts j.at_
  e2 : 2 ≤ j.at_
  eN : j.at_ ≤ j.n
  b2 : 2 ≤ j.base
  bN : j.base ≤ j.n
  flat : j.wrapped = false → ∀ t ∈ ts, j.base ≤ t.1 ∧ t.1 + t.2.length + 2 ≤ j.at_
  round : j.wrapped = true → ts ≠ [] ∧ j.at_ ≤ j.base ∧ ∀ t ∈ ts, j.base ≤ t.1 ∨ t.1 + t.2.length + 2 ≤ j.at_
  owed : j.owed = ts.flatMap (·.2)
  cnt : j.cnt = ts.length

theorem chain_at : ∀ (a : Nat) (ts : List Tr) (e : Nat), Chain a ts e → ts ≠ [] → ∃ t ∈ ts, e = t.1 + t.2.length + 2
  | _, [t], e, h, _ => ⟨t, List.mem_singleton.2 rfl, h.2⟩
  | _, t :: u :: l, e, h, _ => by
    obtain ⟨x, hx, he⟩ := chain_at _ (u :: l) e h.2 (by simp)
    exact ⟨x, List.mem_cons_of_mem _ hx, he⟩
theorem chain_snoc : ∀ (a : Nat) (ts : List Tr) (e : Nat) (t : Tr), Chain a ts e → (t.1 = e ∨ t.1 = 2) → Chain a (ts ++ [t]) (t.1 + t.2.length + 2)
  | a, [], e, t, h, ht => by
    subst h
    exact ⟨ht, rfl⟩
  | a, u :: l, e, t, h, ht => ⟨h.1, chain_snoc _ l e t h.2 ht⟩
/-- A head that a search for a number meets is the record of that number. -/
theorem Sits.meets {s : List Sec} {j : J} {m first at0 : Nat} {ts : List Tr} (h : Sits s j m first at0 ts) (a k : Nat) (hk : k ≤ ts.length) (hne : ∀ h : k < ts.length, ts[k].1 ≠ a) : find (pl s j.from_ j.n) a ((first + k : Nat) : Int) s.length j.from_ = none := by
  refine find_no fun h2 hl h72 hnum => ?_
  rw [pl_length] at hl
  rw [pl_at _ _ _ _ hl] at h72 hnum
  obtain ⟨u, hu, hc⟩ := h.heads a h2 hl h72
  rw [hu] at hnum
  have e : u = first + k := by omega
  rcases hc with hc | ⟨k', hk', h1, h3⟩
  · omega
  · have : k' = k := by omega
    subst this
    exact hne hk' h3
theorem Sits.scan_from {s : List Sec} {j : J} {m first at0 : Nat} {ts : List Tr} (h : Sits s j m first at0 ts) : ∀ (l : List Tr) (k a : Nat), ts.drop k = l → k ≤ ts.length → Chain a l j.at_ →
    Scans (pl s j.from_ j.n) s.length j.from_ ((first + k : Nat) : Int) a j.next j.at_ (l.flatMap (·.2)) l.length
  | [], k, a, hd, hk, hc => by
    have hkl : k = ts.length := by
      have := congrArg List.length hd
      rw [List.length_drop] at this
      simp at this; omega
    subst hkl
    have hc' : j.at_ = a := hc
    rw [h.next, hc']
    exact Scans.done (h.meets a _ hk (fun h9 => absurd h9 (Nat.lt_irrefl _))) (h.meets 2 _ hk (fun h9 => absurd h9 (Nat.lt_irrefl _)))
  | t :: l, k, a, hd, hk, hc => by
    have hkl : k < ts.length := by
      have := congrArg List.length hd
      rw [List.length_drop] at this
      simp at this; omega
    have ht : ts[k] = t := by
      have h1 : ts.drop k = ts[k] :: ts.drop (k + 1) := List.drop_eq_getElem_cons hkl
      rw [h1] at hd
      exact (List.cons.inj hd).1
    have hd2 : ts.drop (k + 1) = l := by
      have h1 : ts.drop k = ts[k] :: ts.drop (k + 1) := List.drop_eq_getElem_cons hkl
      rw [h1] at hd
      exact (List.cons.inj hd).2
    obtain ⟨r1, r2, r3, r4⟩ := h.rec_ k hkl
    rw [ht] at r1 r2 r3 r4
    have hf : find (pl s j.from_ j.n) t.1 ((first + k : Nat) : Int) s.length j.from_ = some t.2 :=
      find_record (by rw [pl_length]; exact r4) h.max r1 r2 (by rw [pl_length]; exact r3) (by have := h.nn; omega)
    have hr := h.scan_from l (k + 1) (t.1 + t.2.length + 2) hd2 hkl hc.2
    have en : ((first + (k + 1) : Nat) : Int) = ((first + k : Nat) : Int) + 1 := by omega
    rw [en] at hr
    by_cases hta : t.1 = a
    · rw [← hta]
      exact Scans.here hf hr
    · have h2 : t.1 = 2 := hc.1.resolve_left hta
      rw [h2] at hf hr
      exact Scans.two (h.meets a k hk (fun h9 => by rw [ht]; exact hta)) hf hr
/-- All that isn't settled counts, and nothing else. -/
theorem Sits.scans {s : List Sec} {j : J} {m first at0 : Nat} {ts : List Tr} (h : Sits s j m first at0 ts) : Scans (pl s j.from_ j.n) s.length j.from_ (first : Int) at0 j.next j.at_ j.owed j.cnt := by
  rw [h.owed, h.cnt]
  exact h.scan_from ts 0 at0 rfl (Nat.zero_le _) h.chain
end Jr
