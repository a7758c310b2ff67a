/- The plain mathematics of journals upon a device whose calls don't fail: a commit keeps what the place says; opened again; formatted. -/
import Derived.Test.YtjdmmnpfjbnhoaaJrMathF
namespace Jr
open Dv

theorem last_append (s : List Sec) (a b : List Put) (i : Nat) : last s (a ++ b) i = b.foldl (fun x w => if w.1 = i then w.2 else x) (last s a i) := by unfold last; rw [List.foldl_append]
theorem last_other (s : List Sec) (l : List Put) (i : Nat) (h : ∀ w ∈ l, w.1 ≠ i) : last s l i = s.getD i [] := by
  unfold last
  generalize s.getD i [] = x
  induction l generalizing x with
  | nil => rfl
  | cons w l ih => rw [List.foldl_cons, if_neg (h w (List.mem_cons_self ..))]; exact ih (fun y hy => h y (List.mem_cons_of_mem _ hy)) _
theorem last_same {s s' : List Sec} (l : List Put) (i : Nat) (h : s'.getD i [] = s.getD i []) : last s' l i = last s l i := by unfold last; rw [h]
section
variable {d : S} {j : J} {m first at0 : Nat} {ts : List Tr}
theorem Sits.owes {s : List Sec} (h : Sits s j m first at0 ts) : ∀ p ∈ j.owed, outside p.1 s.length j.from_ j.n ∧ p.2.length = 64 := by
  intro p hp
  rw [h.owed] at hp
  obtain ⟨t, ht, hpt⟩ := List.mem_flatMap.1 hp
  obtain ⟨k, hk, rfl⟩ := List.getElem_of_mem ht
  have hf := (h.rec_ k hk).2.2.2
  exact ⟨hf.out p hpt, hf.len p hpt⟩
/-- What a sector outside the place has, or is to have. -/
def eff (d : S) (j : J) (i : Nat) : Sec := last d.safe j.owed i
/-- A journal's state upon a device. -/
structure Is (d : S) (j : J) (m t : Nat) : Prop where
  fl : Fl d
  ex : ∃ first at0 ts, Sits d.safe j m first at0 ts ∧ first + ts.length = t
theorem on_calm (hd : Fl d) (h : Sits d.safe j m first at0 ts) {a : Nat} {puts : List Put} (hf : Fit puts d.safe.length j.from_ j.n) (hfull : puts.length + 4 ≤ j.n) (hfit : fits j (puts.length + 2) = some a) (hnn : first + ts.length + 1 < 1000000) :
    ∃ d', putOn d j a puts = (d', added j a puts, true, 0) ∧ d'.n = d.n + 4 ∧ d'.safe.length = d.safe.length ∧ Is d' (added j a puts) m (first + ts.length + 1) ∧ ∀ i, outside i d.safe.length j.from_ j.n → eff d' (added j a puts) i = last d.safe (j.owed ++ puts) i := by
  obtain ⟨r2, rN, _, _⟩ := h.room hfit (by omega)
  have hfi := h.fit
  have hb : j.from_ + a + puts.length + 2 ≤ d.safe.length := by omega
  have hs64 := recS_64 (n := j.next) hb hd.s64 hf.ten hf.len
  refine ⟨_, putOn_calm hd j a hb hf.ten hf.len, rfl, recS_length _ _ _ _, ⟨sure_fl hd hs64 4, first, at0, _, h.commit hf hfull hfit (recS_length _ _ _ _) ?_ ?_ hnn, by rw [List.length_append]; rfl⟩, ?_⟩
  · intro i hi
    rw [record_length] at hi
    rw [pl_at _ _ _ _ (by omega)]
    show (recS d.safe (j.from_ + a) j.next puts).getD _ [] = _
    rw [recS_at hb, if_pos (by omega)]
    congr 1
    omega
  · intro i hi
    show (recS d.safe (j.from_ + a) j.next puts).getD i [] = _
    rw [recS_at hb, if_neg (by omega)]
  · intro i ho
    show last (recS d.safe (j.from_ + a) j.next puts) (j.owed ++ puts) i = _
    refine last_same _ _ ?_
    rw [recS_at hb, if_neg (by have := ho.2; omega)]
/-- All settled, the sectors as setS says. -/
theorem sits_set (h : Sits d.safe j m first at0 ts) (hm : m + 1 < 1000000) : Sits (setS d.safe j m) (settled j) (m + 1) (first + ts.length) j.at_ [] ∧ ∀ i, outside i d.safe.length j.from_ j.n → (setS d.safe j m).getD i [] = last d.safe j.owed i := by
  have hfi := h.fit
  have h5 := h.n5
  have how := h.owes
  have hat := fun i => setS_at (s := d.safe) (j := j) (m := m) (by omega) (fun p hp => (how p hp).1.1) i
  refine ⟨h.settle (setS_length _ _ _) ?_ ?_ ?_ hm, fun i ho => ?_⟩
  · rw [hat, if_pos rfl, h.hm, h.next]
    congr 1
  · rw [hat, if_neg (by omega)]
    exact last_other _ _ _ (fun w hw => by have := (how w hw).1.2; omega)
  · intro i h2 hN
    rw [hat, if_neg (by omega)]
    exact last_other _ _ _ (fun w hw => by have := (how w hw).1.2; omega)
  · rw [hat, if_neg (by have := ho.2; omega)]
/-- A transaction is done, and sure. -/
theorem commit_run (hd : Fl d) (h : Sits d.safe j m first at0 ts) {puts : List Put} (hf : Fit puts d.safe.length j.from_ j.n) (hfull : puts.length + 4 ≤ j.n) (hnn : first + ts.length + 1 < 1000000) (hm : m + 1 < 1000000) :
    ∃ d' j' m', commit d j puts = (d', j', true, 0) ∧ (j.cnt = 0 → j'.cnt = 1) ∧ d'.n ≤ d.n + j.owed.length + 8 ∧ j'.owed.length ≤ j.owed.length + puts.length ∧ d'.safe.length = d.safe.length ∧ j'.from_ = j.from_ ∧ j'.n = j.n ∧ j'.next = j.next + 1 ∧ m' ≤ m + 1 ∧ Is d' j' m' (first + ts.length + 1) ∧ ∀ i, outside i d.safe.length j.from_ j.n → eff d' j' i = last d.safe (j.owed ++ puts) i := by
  unfold commit
  cases hfit : fits j (puts.length + 2) with
  | some a =>
    obtain ⟨d', e, hdn, hl, hi, he⟩ := on_calm hd h hf hfull hfit hnn
    exact ⟨d', _, m, e, fun h0 => by show j.cnt + 1 = 1; omega, by omega, by show (j.owed ++ puts).length ≤ _; rw [List.length_append]; exact Nat.le_refl _, hl, rfl, rfl, rfl, by omega, hi, he⟩
  | none =>
    have hc : j.cnt ≠ 0 := by
      intro hc
      have hts : ts = [] := List.eq_nil_of_length_eq_zero (by rw [← h.cnt]; exact hc)
      have hw : j.wrapped = false := by
        cases hw : j.wrapped with
        | false => rfl
        | true => exact absurd hts (h.round hw).1
      unfold fits at hfit
      rw [if_neg (by rw [hw]; simp)] at hfit
      split at hfit
      · cases hfit
      · rw [if_pos (.inl hc)] at hfit; cases hfit
    have hfi := h.fit
    have h5 := h.n5
    have how := h.owes
    obtain ⟨s1, s2⟩ := settle_calm hd hc h.hm (by omega) (fun p hp => ⟨(how p hp).1.1, (how p hp).2⟩)
    obtain ⟨q1, q2⟩ := sits_set h hm
    rw [s1]
    simp only [if_true]
    have hsl : (sure d (setS d.safe j m) (j.owed.length + 4)).safe.length = d.safe.length := setS_length _ _ _
    have q1' : Sits (sure d (setS d.safe j m) (j.owed.length + 4)).safe (settled j) (m + 1) (first + ts.length) j.at_ [] := q1
    have hf' : Fit puts (sure d (setS d.safe j m) (j.owed.length + 4)).safe.length (settled j).from_ (settled j).n := by rw [hsl]; exact hf
    cases hfit2 : fits (settled j) (puts.length + 2) with
    | none =>
      unfold fits at hfit2
      rw [if_neg (by show ¬ (false = true); simp)] at hfit2
      split at hfit2
      · cases hfit2
      · rw [if_pos (.inl rfl)] at hfit2; cases hfit2
    | some a =>
      obtain ⟨d', e, hdn, hl, hi, he⟩ := on_calm s2 q1' hf' hfull hfit2 (by simpa using hnn)
      have hdn2 : (sure d (setS d.safe j m) (j.owed.length + 4)).n = d.n + (j.owed.length + 4) := rfl
      refine ⟨d', _, m + 1, e, fun h0 => absurd h0 hc, by omega, by show ([] ++ puts).length ≤ _; simp, hl.trans hsl, rfl, rfl, rfl, Nat.le_refl _, by simpa using hi, fun i ho => ?_⟩
      rw [he i (by rw [hsl]; exact ho), last_append d.safe j.owed puts i, ← q2 i ho]
      rfl

/-! ### opened -/
/-- Of two marks the greater one. -/
def best (a b : Option (Int × Int × Nat)) : Option (Int × Int × Nat) :=
  match a, b with
  | none, b => b
  | some a, none => some a
  | some a, some b => if a.1 < b.1 then some b else some a
theorem Sits.best_is {s : List Sec} (h : Sits s j m first at0 ts) : best (readMark (s.getD j.from_ []) 0 j.n) (readMark (s.getD (j.from_ + 1) []) 1 j.n) = some ((m : Int), (first : Int), at0) := by
  have h32 : at0 < 4294967296 := by have := h.aN; have := h.fit; have := h.max; omega
  have hr := readMark_mark (m := m) (first := first) (at_ := at0) (size := j.n) h.m1 (by have := h.mm; omega) (by have := h.nn; omega) h.a2 h.aN h32
  rw [← h.mrk] at hr
  have ho := h.other
  rcases Nat.mod_two_eq_zero_or_one m with h0 | h1
  · rw [h0] at hr
    rw [show (m + 1) % 2 = 1 by omega] at ho
    rw [Nat.add_zero] at hr
    rw [hr]
    cases hb : readMark (s.getD (j.from_ + 1) []) 1 j.n with
    | none => rfl
    | some b =>
      obtain ⟨b1, b2, b3⟩ := b
      have := ho b1 b2 b3 hb
      show (if (m : Int) < b1 then _ else _) = _
      rw [if_neg (by omega)]
  · rw [h1] at hr
    rw [show (m + 1) % 2 = 0 by omega, Nat.add_zero] at ho
    rw [hr]
    cases hb : readMark (s.getD j.from_ []) 0 j.n with
    | none => rfl
    | some b =>
      obtain ⟨b1, b2, b3⟩ := b
      have := ho b1 b2 b3 hb
      show (if b1 < (m : Int) then _ else _) = _
      rw [if_pos (by omega)]
/-- What is found when a journal is opened. -/
def opened (from_ n : Nat) (m n' : Int) (a' : Nat) (ps : List Put) (k : Nat) : J := ⟨from_, n, m, n', a', a', false, ps, k⟩
/-- The device behind an opening that ends well, and the journal. -/
def openS (d : S) (o : J) : S × J := if o.cnt = 0 then (d, o) else ((finish d o).1, settled o)
theorem open_run (hd : Fl d) (h : Sits d.safe j m first at0 ts) (hm : m + 1 < 1000000) :
    ∃ d' j' m', openS (sure d d.safe 1) (opened j.from_ j.n j.mark j.next j.at_ j.owed j.cnt) = (d', j') ∧ (j.cnt ≠ 0 → (finish (sure d d.safe 1) (opened j.from_ j.n j.mark j.next j.at_ j.owed j.cnt)).2 = 0) ∧ d'.n ≤ d.n + j.owed.length + 8 ∧ d'.safe.length = d.safe.length ∧ j'.from_ = j.from_ ∧ j'.n = j.n ∧ j'.next = j.next ∧ j'.owed = [] ∧ m' ≤ m + 1 ∧ Is d' j' m' (first + ts.length) ∧
      ∀ i, outside i d.safe.length j.from_ j.n → d'.safe.getD i [] = last d.safe j.owed i := by
  have hd1 : Fl (sure d d.safe 1) := sure_fl hd hd.s64 1
  by_cases hc : j.cnt = 0
  · have hts : ts = [] := List.eq_nil_of_length_eq_zero (by rw [← h.cnt]; exact hc)
    subst hts
    have ho : j.owed = [] := h.owed
    refine ⟨sure d d.safe 1, opened j.from_ j.n j.mark j.next j.at_ j.owed j.cnt, m, by unfold openS; rw [if_pos (by exact hc)], fun h9 => absurd hc h9, by show d.n + 1 ≤ _; omega, rfl, rfl, rfl, rfl, ho, by omega, ⟨hd1, first, at0, [], ?_, rfl⟩, fun i _ => by rw [ho]; rfl⟩
    exact { n5 := h.n5, fit := h.fit, max := h.max, hm := h.hm, m1 := h.m1, mm := h.mm, mrk := h.mrk, a2 := h.a2, aN := h.aN, other := h.other, next := h.next, nn := h.nn, rec_ := h.rec_, heads := h.heads, chain := h.chain, e2 := h.e2, eN := h.eN, b2 := h.e2, bN := h.eN, flat := fun _ t ht => (by cases ht), round := fun e => (by cases e), owed := ho, cnt := hc }
  · have hfi := h.fit
    have h5 := h.n5
    have how := h.owes
    obtain ⟨f1, f2⟩ := finish_calm hd1 (j := opened j.from_ j.n j.mark j.next j.at_ j.owed j.cnt) (m := m) h.hm (show j.from_ + 2 ≤ d.safe.length by omega) (fun p hp => ⟨(how p hp).1.1, (how p hp).2⟩)
    obtain ⟨q1, q2⟩ := sits_set h hm
    refine ⟨sure (sure d d.safe 1) (setS d.safe j m) (j.owed.length + 3), settled j, m + 1, by unfold openS; rw [if_neg (by exact hc), f1]; rfl, fun _ => by rw [f1], by show d.n + 1 + (j.owed.length + 3) ≤ _; omega, setS_length _ _ _, rfl, rfl, rfl, rfl, Nat.le_refl _, ⟨f2, _, _, [], q1, by simp⟩, fun i ho => q2 i ho⟩
/-- Formatted. -/
theorem format_run {s n : Nat} (hd : Fl d) (hs : d.safe.length = s) (hn : 5 ≤ n) (hns : n ≤ s) (hmax : s ≤ 65536) :
    ∃ d', format d 0 n = (d', 0) ∧ d'.n = d.n + 4 ∧ d'.safe.length = s ∧ Is d' ⟨0, n, 1, 1, 2, 2, false, [], 0⟩ 1 1 ∧ ∀ i, n ≤ i → d'.safe.getD i [] = d.safe.getD i [] := by
  have hz : ∀ x ∈ List.replicate n zero, x.length = 64 := fun x hx => by rw [(List.mem_replicate.1 hx).2]; exact zero_length
  have hmk : ∀ x ∈ [mark 1 1 2], x.length = 64 := fun x hx => by rw [List.mem_singleton.1 hx]; exact mark_length _ _ _
  have hd1 : Fl (sure d (putS d.safe 0 (List.replicate n zero)) 2) := sure_fl hd (putS_64 (by rw [List.length_replicate]; omega) hd.s64 hz) 2
  have hl1 : (putS d.safe 0 (List.replicate n zero)).length = s := by rw [putS_length, hs]
  have e := write_flush hd 0 (List.replicate n zero) (by rw [List.length_replicate]; omega) hz (fun d => seqE (write d (((0 : Nat) : Int) + 1) [mark 1 1 2]) flush)
  have e2 := write_flush_end hd1 1 [mark 1 1 2] (by show _ ≤ (putS _ _ _).length; rw [hl1]; simp only [List.length_singleton]; omega) hmk
  have hl2 : (putS (putS d.safe 0 (List.replicate n zero)) 1 [mark 1 1 2]).length = s := by rw [putS_length, hl1]
  refine ⟨sure (sure d (putS d.safe 0 (List.replicate n zero)) 2) (putS (putS d.safe 0 (List.replicate n zero)) 1 [mark 1 1 2]) 2, ?_, rfl, hl2, ⟨sure_fl hd1 (putS_64 (by show _ ≤ (putS d.safe 0 (List.replicate n zero)).length; rw [hl1]; simp only [List.length_singleton]; omega) hd1.s64 hmk) 2, 1, 2, [], ?_, rfl⟩, ?_⟩
  · unfold format
    rw [if_pos (by unfold room; omega), Int.toNat_natCast]
    exact e.trans e2
  · have hat : ∀ i, (putS (putS d.safe 0 (List.replicate n zero)) 1 [mark 1 1 2]).getD i [] = if 1 ≤ i ∧ i < 2 then [mark 1 1 2].getD (i - 1) [] else if i < n then (List.replicate n zero).getD i [] else d.safe.getD i [] := fun i => by
      rw [putS_at _ _ _ (by rw [hl1]; simp only [List.length_singleton]; omega), putS_at _ _ _ (by rw [List.length_replicate]; omega)]
      simp only [List.length_singleton, List.length_replicate, Nat.zero_add, Nat.zero_le, true_and, Nat.sub_zero]
    refine sits_first 0 n hn (by show 0 + n ≤ (putS (putS d.safe 0 (List.replicate n zero)) 1 [mark 1 1 2]).length; rw [hl2]; omega) (by show (putS (putS d.safe 0 (List.replicate n zero)) 1 [mark 1 1 2]).length ≤ _; rw [hl2]; exact hmax) ?_ ?_
    · show (putS (putS d.safe 0 (List.replicate n zero)) 1 [mark 1 1 2]).getD (0 + 1) [] = _
      rw [hat, if_pos (by omega)]
      rfl
    · intro i hi h1
      show (putS (putS d.safe 0 (List.replicate n zero)) 1 [mark 1 1 2]).getD (0 + i) [] = _
      rw [Nat.zero_add, hat, if_neg (by omega), if_pos hi, List.getD_eq_getElem?_getD, List.getElem?_replicate, if_pos hi]
      rfl
  · intro i hi
    show (putS (putS d.safe 0 (List.replicate n zero)) 1 [mark 1 1 2]).getD i [] = _
    rw [putS_at _ _ _ (by rw [hl1]; simp only [List.length_singleton]; omega), if_neg (by simp only [List.length_singleton]; omega), putS_at _ _ _ (by rw [List.length_replicate]; omega), if_neg (by rw [List.length_replicate]; omega)]
end
end Jr
