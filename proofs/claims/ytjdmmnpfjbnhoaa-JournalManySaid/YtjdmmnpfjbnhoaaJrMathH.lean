/- The plain mathematics of JournalMany: transactions of one put each, round and round; and of the document's example. -/
import Derived.Test.YtjdmmnpfjbnhoaaJrMathG
namespace Jr
open Dv

/-- Behind i transactions, each of the eight sectors behind the place has, or is to have, what is wanted. -/
structure Many (d : S) (j : J) (size i : Nat) (want : List UInt8) : Prop where
  is : ∃ m, Is d j m (i + 1) ∧ m ≤ i + 2
  len : d.safe.length = size + 8
  from0 : j.from_ = 0
  n : j.n = size
  next : j.next = ((i + 1 : Nat) : Int)
  dn : d.n ≤ 100 + i * 100
  ow : j.owed.length ≤ i
  eff8 : ∀ k, k < 8 → eff d j (size + k) = f_ (want.getD k 0)
theorem f_64 (c : UInt8) : (f_ c).length = 64 := List.length_replicate
theorem many_put {d : S} {j : J} {size i : Nat} {want : List UInt8} (h : Many d j size i want) (hs : 5 ≤ size) (hi : i ≤ 60) (hw : want.length = 8) (k : Nat) (hk : k < 8) (x : UInt8) :
    ∃ d' j', commit d j [(size + k, f_ x)] = (d', j', true, 0) ∧ Many d' j' size (i + 1) (want.set k x) := by
  obtain ⟨m, ⟨hfl, first, at0, ts, hS, ht⟩, hm⟩ := h.is
  have hl := h.len
  have hf : Fit [(size + k, f_ x)] d.safe.length j.from_ j.n := ⟨by simp, by simp, fun p hp => by
    rw [List.mem_singleton.1 hp, h.from0, h.n]
    exact ⟨by show size + k < _; omega, .inr (by show 0 + size ≤ size + k; omega)⟩, fun p hp => by rw [List.mem_singleton.1 hp]; exact f_64 x⟩
  obtain ⟨d', j', m', e, _, qa, qb, q1, q2, q3, q4, q5, q6, q7⟩ := commit_run hfl hS hf (by rw [h.n]; simp; omega) (by omega) (by omega)
  refine ⟨d', j', e, ⟨m', by rw [ht] at q6; exact q6, by omega⟩, by omega, by rw [q2, h.from0], by rw [q3, h.n], by rw [q4, h.next]; omega, by have := h.dn; have := h.ow; omega, by have := h.ow; simp at qb; omega, fun k' hk' => ?_⟩
  rw [q7 (size + k') ⟨by omega, .inr (by rw [h.from0, h.n]; omega)⟩, last_append]
  show (if size + k = size + k' then f_ x else last d.safe j.owed (size + k')) = _
  by_cases hkk : k = k'
  · subst hkk
    rw [if_pos rfl]
    congr 1
    rw [List.getD_eq_getElem?_getD, List.getElem?_set_self (by omega)]
    rfl
  · rw [if_neg (by omega)]
    have := h.eff8 k' hk'
    unfold eff at this
    rw [this]
    congr 1
    rw [List.getD_eq_getElem?_getD, List.getD_eq_getElem?_getD, List.getElem?_set_ne hkk]
/-- Formatted, and opened. -/
theorem many_first {d : S} {size : Nat} (hd : Fl d) (hl : d.safe.length = size + 8) (hs : 5 ≤ size) (hs2 : size ≤ 1000) (h0 : ∀ i, d.safe.getD i [] = f_ 0 ∨ size + 8 ≤ i) (hn : d.n ≤ 10) :
    ∃ d1 d2 j, format d 0 size = (d1, 0) ∧ Fl d1 ∧ (∃ m first at0 ts, Sits d1.safe ⟨0, size, 1, 1, 2, 2, false, [], 0⟩ m first at0 ts) ∧
      openS (sure d1 d1.safe 1) (opened 0 size 1 1 2 [] 0) = (d2, j) ∧ Many d2 j size 0 (List.replicate 8 0) ∧ Fl d2 ∧ d1.n = d.n + 4 ∧ d1.safe.length = size + 8 := by
  obtain ⟨d1, e, qn, q1, q2, q3⟩ := format_run hd hl hs (by omega) (by omega)
  obtain ⟨hfl, first, at0, ts, hS, ht⟩ := q2
  have hS' := hS
  obtain ⟨d2, j, m, o1, _, on, o3, o4, o5, o6, o7, o8, o9, o10⟩ := open_run hfl hS (by decide)
  have on' : d2.n ≤ d1.n + 8 := on
  refine ⟨d1, d2, j, e, hfl, ⟨1, first, at0, ts, hS'⟩, o1, ⟨⟨m, by rw [ht] at o9; exact o9, by omega⟩, by omega, o4, o5, o6, by omega, by rw [o7]; exact Nat.le_refl _, fun k hk => ?_⟩, o9.fl, qn, q1⟩
  unfold eff
  rw [o7]
  show d2.safe.getD (size + k) [] = _
  rw [o10 (size + k) ⟨by omega, .inr (by show 0 + size ≤ size + k; omega)⟩]
  show d1.safe.getD (size + k) [] = _
  rw [q3 _ (by omega)]
  rcases h0 (size + k) with h | h
  · rw [h]
    congr 1
    match k, hk with
    | 0, _ => rfl
    | 1, _ => rfl
    | 2, _ => rfl
    | 3, _ => rfl
    | 4, _ => rfl
    | 5, _ => rfl
    | 6, _ => rfl
    | 7, _ => rfl
  · omega
theorem crash_fl {d : S} (h : Fl d) (keep : List Bool) (torn p : Int) : crash d keep torn p = ⟨d.safe, [], 0, [], -1⟩ ∧ Fl (crash d keep torn p) := by
  have e : crash d keep torn p = ⟨d.safe, [], 0, [], -1⟩ := by
    unfold crash
    rw [h.wait]
    rfl
  exact ⟨e, by rw [e]; exact ⟨⟨rfl, rfl⟩, rfl, h.s64⟩⟩
theorem read_fl {d : S} (h : Fl d) (a k : Nat) (ha : a + k ≤ d.safe.length) : Dv.read d a k = ({ d with n := d.n + 1 }, (List.range k).map (fun i => d.safe.getD (a + i) []), 0) := by
  unfold Dv.read
  rw [call_calm h.calm]
  have h1 : Dv.there d (a : Int) (k : Int) = true := by
    unfold Dv.there
    rw [decide_eq_true_eq]
    omega
  rw [h1]
  simp only [Bool.true_eq_false, if_false, Int.toNat_natCast]
  unfold see
  rw [h.wait]
  rfl
/-- Behind a crash that keeps nothing: opened again, each sector has what is wanted. -/
theorem many_last {d : S} {j : J} {size i : Nat} {want : List UInt8} (h : Many d j size i want) (_hs : 5 ≤ size) (hi : i ≤ 60) :
    ∃ d1 d2 j2, crash d [] (-1) 0 = d1 ∧ Fl d1 ∧ (∃ m first at0 ts, Sits d1.safe j m first at0 ts) ∧ openS (sure d1 d1.safe 1) (opened j.from_ j.n j.mark j.next j.at_ j.owed j.cnt) = (d2, j2) ∧ j2.next = ((i + 1 : Nat) : Int) ∧ Fl d2 ∧
      d2.n ≤ 100 ∧ d1.safe.length = size + 8 ∧ d1.n = 0 ∧ d2.safe.length = size + 8 ∧ Dv.read d2 size 8 = ({ d2 with n := d2.n + 1 }, (List.range 8).map (fun k => f_ (want.getD k 0)), 0) := by
  obtain ⟨m, ⟨hfl, first, at0, ts, hS, ht⟩, hm⟩ := h.is
  obtain ⟨e, hfl1⟩ := crash_fl hfl [] (-1) 0
  rw [e] at hfl1
  have hS1 : Sits (⟨d.safe, [], 0, [], -1⟩ : S).safe j m first at0 ts := hS
  obtain ⟨d2, j2, m2, o1, _, on, o3, o4, o5, o6, o7, o8, o9, o10⟩ := open_run hfl1 hS1 (by omega)
  have on' : d2.n ≤ 0 + j.owed.length + 8 := on
  have how := h.ow
  have hl2 : d2.safe.length = size + 8 := o3.trans h.len
  refine ⟨_, d2, j2, e, hfl1, ⟨m, first, at0, ts, hS1⟩, o1, by rw [o6, h.next], o9.fl, by omega, h.len, rfl, hl2, ?_⟩
  rw [show (8 : Int) = ((8 : Nat) : Int) from rfl, read_fl o9.fl size 8 (by omega)]
  congr 2
  refine List.map_congr_left fun k hk => ?_
  have hk8 := List.mem_range.1 hk
  rw [o10 (size + k) ⟨by show size + k < d.safe.length; have := h.len; omega, .inr (by rw [h.from0, h.n]; omega)⟩]
  exact h.eff8 k hk8
/-- The document's example: two puts, a crash, opened again: devices d1 (formatted), d2 (opened), d3 (behind the commit), d4 (behind the crash), d5 (opened again); journals j, j3, j5. -/
structure Ex (d1 d2 d3 d4 d5 : S) (j j3 j5 : J) : Prop where
  fmt : format (init 30) 0 10 = (d1, 0)
  f1 : Fl d1
  l1 : d1.safe.length = 30
  n1 : d1.n ≤ 100
  s1 : ∃ m first at0 ts, Sits d1.safe ⟨0, 10, 1, 1, 2, 2, false, [], 0⟩ m first at0 ts
  o2 : openS (sure d1 d1.safe 1) (opened 0 10 1 1 2 [] 0) = (d2, j)
  f2 : Fl d2
  l2 : d2.safe.length = 30
  n2 : d2.n ≤ 100
  s2 : ∃ m first at0 ts, Sits d2.safe j m first at0 ts ∧ m + 1 < 1000 ∧ first + ts.length < 1000
  j2 : j.from_ = 0 ∧ j.n = 10 ∧ j.owed = []
  c3 : commit d2 j [(20, f_ 1), (21, f_ 2)] = (d3, j3, true, 0)
  f3 : Fl d3
  l3 : d3.safe.length = 30
  n3 : d3.n ≤ 200
  k4 : crash d3 [] (-1) 0 = d4
  f4 : Fl d4
  l4 : d4.safe.length = 30
  n4 : d4.n ≤ 100
  s4 : ∃ m first at0 ts, Sits d4.safe j3 m first at0 ts
  j4 : j3.from_ = 0 ∧ j3.n = 10 ∧ j3.cnt = 1 ∧ j3.owed.length ≤ 2
  o5 : openS (sure d4 d4.safe 1) (opened j3.from_ j3.n j3.mark j3.next j3.at_ j3.owed j3.cnt) = (d5, j5)
  f5 : Fl d5
  l5 : d5.safe.length = 30
  n5 : d5.n ≤ 100
  r5 : Dv.read d5 20 2 = ({ d5 with n := d5.n + 1 }, [f_ 1, f_ 2], 0)
theorem fit_two (s : Nat) (hs : s = 30) : Fit [(20, f_ 1), (21, f_ 2)] s 0 10 := by
  subst hs
  exact ⟨by decide, by decide, fun p hp => by
    simp only [List.mem_cons, List.not_mem_nil, or_false] at hp
    rcases hp with rfl | rfl
    · exact ⟨by decide, .inr (by decide)⟩
    · exact ⟨by decide, .inr (by decide)⟩, fun p hp => by
    simp only [List.mem_cons, List.not_mem_nil, or_false] at hp
    rcases hp with rfl | rfl <;> exact f_64 _⟩
theorem example_run : ∃ d1 d2 d3 d4 d5 j j3 j5, Ex d1 d2 d3 d4 d5 j j3 j5 := by
  have hd : Fl (init 30) := ⟨calm_init 30, rfl, fun x hx => by rw [(List.mem_replicate.1 hx).2]; exact List.length_replicate⟩
  obtain ⟨d1, e, qn, q1, ⟨hfl, first, at0, ts, hS, ht⟩, q3⟩ := format_run (s := 30) (n := 10) hd List.length_replicate (by decide) (by decide) (by decide)
  obtain ⟨d2, j, m, o1, _, on, o3, o4, o5, o6, o7, o8, o9, o10⟩ := open_run hfl hS (by decide)
  have on' : d2.n ≤ d1.n + 8 := on
  have qn' : d1.n = 4 := qn
  have hj0 : j.cnt = 0 := by
    unfold openS opened at o1
    rw [if_pos rfl] at o1
    rw [← (Prod.mk.inj o1).2]
  obtain ⟨f2, first2, at2, ts2, hS2, ht2⟩ := o9
  have hl2 : d2.safe.length = 30 := o3.trans q1
  have hf : Fit [(20, f_ 1), (21, f_ 2)] d2.safe.length j.from_ j.n := by rw [o4, o5]; exact fit_two _ hl2
  obtain ⟨d3, j3, m3, c1, c2, ca, cb, c3, c4, c5, c6, c7, ⟨f3, first3, at3, ts3, hS3, ht3⟩, c9⟩ := commit_run f2 hS2 hf (by rw [o5]; decide) (by omega) (by omega)
  obtain ⟨k1, k2⟩ := crash_fl f3 [] (-1) 0
  rw [k1] at k2
  have hS4 : Sits (⟨d3.safe, [], 0, [], -1⟩ : S).safe j3 m3 first3 at3 ts3 := hS3
  obtain ⟨d5, j5, m5, p1, _, pn, p3, p4, p5, p6, p7, p8, p9, p10⟩ := open_run k2 hS4 (by omega)
  have pn' : d5.n ≤ 0 + j3.owed.length + 8 := pn
  have cb' : j3.owed.length ≤ 2 := by rw [o7] at cb; exact cb
  have hl5 : d5.safe.length = 30 := p3.trans (c3.trans hl2)
  refine ⟨d1, d2, d3, _, d5, j, j3, j5, { fmt := e, f1 := hfl, l1 := q1, n1 := by omega, s1 := ⟨1, first, at0, ts, hS⟩, o2 := o1, f2 := f2, l2 := hl2, n2 := by omega, s2 := ⟨m, first2, at2, ts2, hS2, by omega, by omega⟩, j2 := ⟨o4, o5, o7⟩, c3 := c1, f3 := f3, l3 := c3.trans hl2, n3 := by rw [o7] at ca; have : ([] : List Put).length = 0 := rfl; omega, k4 := k1, f4 := k2, l4 := c3.trans hl2, n4 := Nat.zero_le _, s4 := ⟨m3, first3, at3, ts3, hS4⟩, j4 := ⟨by rw [c4, o4], by rw [c5, o5], c2 hj0, cb'⟩, o5 := p1, f5 := p9.fl, l5 := hl5, n5 := by omega, r5 := ?_ }⟩
  have hl3 : d3.safe.length = 30 := c3.trans hl2
  rw [show (20 : Int) = ((20 : Nat) : Int) from rfl, show (2 : Int) = ((2 : Nat) : Int) from rfl, read_fl p9.fl 20 2 (by omega)]
  have hg : ∀ i, i < 2 → d5.safe.getD (20 + i) [] = last d2.safe (j.owed ++ [(20, f_ 1), (21, f_ 2)]) (20 + i) := fun i hi => by
    rw [p10 (20 + i) ⟨by show 20 + i < d3.safe.length; omega, .inr (by rw [c4, c5, o4, o5]; show 0 + 10 ≤ 20 + i; omega)⟩]
    exact c9 (20 + i) ⟨by omega, .inr (by rw [o4, o5]; show 0 + 10 ≤ 20 + i; omega)⟩
  congr 2
  show [d5.safe.getD (20 + 0) [], d5.safe.getD (20 + 1) []] = _
  rw [hg 0 (by decide), hg 1 (by decide), last_append, last_append]
  rfl
end Jr
