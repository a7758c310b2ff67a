/- The plain mathematics of journals upon a device whose calls don't fail: Commit, Settle. -/
import Derived.Test.YtjdmmnpfjbnhoaaJrMathE
namespace Jr
open Dv

theorem zero_length : zero.length = 64 := List.length_replicate
theorem front_length (n : Int) (puts : List Put) : (front n puts).length = puts.length + 2 := by unfold front; simp
theorem front_64 {n : Int} {puts : List Put} (h : puts.length ≤ 10) (h64 : ∀ p ∈ puts, p.2.length = 64) : ∀ x ∈ front n puts, x.length = 64 := by
  intro x hx
  unfold front at hx
  rcases List.mem_cons.1 hx with rfl | hx
  · exact head_length h
  · rcases List.mem_append.1 hx with hx | hx
    · obtain ⟨p, hp, rfl⟩ := List.mem_map.1 hx
      exact content_length (h64 p hp)
    · rw [List.mem_singleton.1 hx]; exact zero_length
theorem front_record (n : Int) (puts : List Put) (i : Nat) (h : i < puts.length + 1) : (front n puts).getD i [] = (record n puts).getD i [] := by
  unfold front record
  cases i with
  | zero => rfl
  | succ i =>
    rw [List.getD_eq_getElem?_getD, List.getD_eq_getElem?_getD, List.getElem?_cons_succ, List.getElem?_cons_succ, List.getElem?_append_left (by simpa using h), List.getElem?_append_left (by simpa using h)]
/-- The sectors behind a record on sector b of the device. -/
def recS (s : List Sec) (b : Nat) (n : Int) (puts : List Put) : List Sec := putS (putS s b (front n puts)) (b + puts.length + 1) [foot n]
theorem recS_length (s : List Sec) (b : Nat) (n : Int) (puts : List Put) : (recS s b n puts).length = s.length := by unfold recS; rw [putS_length, putS_length]
theorem recS_at {s : List Sec} {b : Nat} {n : Int} {puts : List Put} (hb : b + puts.length + 2 ≤ s.length) (i : Nat) : (recS s b n puts).getD i [] = if b ≤ i ∧ i < b + (puts.length + 2) then (record n puts).getD (i - b) [] else s.getD i [] := by
  unfold recS
  rw [putS_at _ _ _ (by rw [putS_length]; simp only [List.length_singleton]; omega), putS_at _ _ _ (by rw [front_length]; omega)]
  simp only [List.length_singleton, front_length]
  by_cases h1 : b + puts.length + 1 ≤ i ∧ i < b + puts.length + 1 + 1
  · rw [if_pos h1, if_pos (by omega), show i - b = puts.length + 1 by omega, record_at_foot, show i - (b + puts.length + 1) = 0 by omega]
    rfl
  · rw [if_neg h1]
    by_cases h2 : b ≤ i ∧ i < b + (puts.length + 2)
    · rw [if_pos h2, if_pos h2]
      exact front_record n puts _ (by omega)
    · rw [if_neg h2, if_neg h2]
theorem recS_64 {s : List Sec} {b : Nat} {n : Int} {puts : List Put} (hb : b + puts.length + 2 ≤ s.length) (hs : ∀ x ∈ s, x.length = 64) (h : puts.length ≤ 10) (h64 : ∀ p ∈ puts, p.2.length = 64) : ∀ x ∈ recS s b n puts, x.length = 64 := by
  unfold recS
  refine putS_64 (by rw [putS_length]; simp only [List.length_singleton]; omega) (putS_64 (by rw [front_length]; omega) hs (front_64 h h64)) ?_
  intro x hx
  rw [List.mem_singleton.1 hx]
  exact foot_length n
theorem sure_sure (d : S) (s t : List Sec) (a b : Nat) : sure (sure d s a) t b = sure d t (a + b) := by
  unfold sure
  simp only [Nat.add_assoc]
theorem putOn_calm {d : S} (hd : Fl d) (j : J) (a : Nat) {puts : List Put} (ha : j.from_ + a + puts.length + 2 ≤ d.safe.length) (h : puts.length ≤ 10) (h64 : ∀ p ∈ puts, p.2.length = 64) :
    putOn d j a puts = (sure d (recS d.safe (j.from_ + a) j.next puts) 4, added j a puts, true, 0) := by
  have e1 : ((j.from_ : Int) + a) = ((j.from_ + a : Nat) : Int) := by omega
  have e2 : ((j.from_ : Int) + a + puts.length + 1) = ((j.from_ + a + puts.length + 1 : Nat) : Int) := by omega
  have hd1 : Fl (sure d (putS d.safe (j.from_ + a) (front j.next puts)) 2) := sure_fl hd (putS_64 (by rw [front_length]; omega) hd.s64 (front_64 h h64)) 2
  have hl : lays d j a puts = ({ sure d (putS d.safe (j.from_ + a) (front j.next puts)) 2 with n := d.n + 2 + 1, wait := [] ++ Dv.lay (j.from_ + a + puts.length + 1) [foot j.next] }, 0) := by
    unfold lays
    rw [e1, write_flush hd _ _ (by rw [front_length]; omega) (front_64 h h64), ← e1, e2, write_calm hd1.calm _ _ (by show _ ≤ (putS _ _ _).length; rw [putS_length]; simp only [List.length_singleton]; omega) (fun x hx => by rw [List.mem_singleton.1 hx]; exact foot_length _)]
    rfl
  unfold putOn
  rw [hl]
  simp only [if_true]
  rw [flush_calm (by exact hd1.calm)]
  rfl
theorem writes_calm : ∀ (l : List Put) (d : S), Calm d → (∀ p ∈ l, p.1 < d.safe.length ∧ p.2.length = 64) → writes d l = ({ d with n := d.n + l.length, wait := d.wait ++ l }, 0)
  | [], d, _, _ => by
    show (d, (0 : Int)) = _
    simp
  | p :: l, d, hc, hp => by
    obtain ⟨h1, h2⟩ := hp p (List.mem_cons_self ..)
    show seqE (write d p.1 [p.2]) (fun d => writes d l) = _
    unfold seqE
    rw [write_one hc p.1 h1 p.2 h2]
    simp only [if_true]
    rw [writes_calm l ({ d with n := d.n + 1, wait := d.wait ++ [(p.1, p.2)] } : S) hc (fun x hx => hp x (List.mem_cons_of_mem _ hx))]
    simp only [List.length_cons, List.append_assoc, List.singleton_append]
    have : d.n + 1 + l.length = d.n + (l.length + 1) := by omega
    rw [this]
/-- The sectors behind a settling. -/
def setS (s : List Sec) (j : J) (m : Nat) : List Sec := putS (j.owed.foldl done s) (j.from_ + (m + 1) % 2) [mark (j.mark + 1) j.next j.at_]
theorem setS_length (s : List Sec) (j : J) (m : Nat) : (setS s j m).length = s.length := by unfold setS; rw [putS_length, done_length]
theorem setS_at {s : List Sec} {j : J} {m : Nat} (hf : j.from_ + 2 ≤ s.length) (ho : ∀ p ∈ j.owed, p.1 < s.length) (i : Nat) : (setS s j m).getD i [] = if i = j.from_ + (m + 1) % 2 then mark (j.mark + 1) j.next j.at_ else last s j.owed i := by
  unfold setS
  rw [putS_at _ _ _ (by rw [done_length]; simp only [List.length_singleton]; omega), flush_last _ _ _ ho]
  simp only [List.length_singleton]
  by_cases h : i = j.from_ + (m + 1) % 2
  · rw [if_pos (by omega), if_pos h, show i - (j.from_ + (m + 1) % 2) = 0 by omega]
    rfl
  · rw [if_neg (by omega), if_neg h]
theorem done_64 : ∀ (l : List Put) (s : List Sec), (∀ x ∈ s, x.length = 64) → (∀ p ∈ l, p.2.length = 64) → ∀ x ∈ l.foldl done s, x.length = 64
  | [], _, hs, _ => hs
  | p :: l, s, hs, hl => by
    show ∀ x ∈ l.foldl done (done s p), x.length = 64
    refine done_64 l _ (fun x hx => ?_) (fun q hq => hl q (List.mem_cons_of_mem _ hq))
    unfold done at hx
    rcases List.mem_or_eq_of_mem_set hx with h | h
    · exact hs x h
    · rw [h]; exact hl p (List.mem_cons_self ..)
theorem finish_calm {d : S} (hd : Fl d) {j : J} {m : Nat} (hm : j.mark = m) (hf : j.from_ + 2 ≤ d.safe.length) (ho : ∀ p ∈ j.owed, p.1 < d.safe.length ∧ p.2.length = 64) :
    finish d j = (sure d (setS d.safe j m) (j.owed.length + 3), 0) ∧ Fl (sure d (setS d.safe j m) (j.owed.length + 3)) := by
  have e1 : ((j.from_ : Int) + (j.mark + 1) % 2) = ((j.from_ + (m + 1) % 2 : Nat) : Int) := by rw [hm]; omega
  have hd1 : Fl (sure d (j.owed.foldl done d.safe) (j.owed.length + 1)) := sure_fl hd (done_64 _ _ hd.s64 (fun p hp => (ho p hp).2)) _
  have hmk : ∀ x ∈ [mark (j.mark + 1) j.next j.at_], x.length = 64 := fun x hx => by rw [List.mem_singleton.1 hx]; exact mark_length _ _ _
  refine ⟨?_, sure_fl hd (putS_64 (by rw [done_length]; simp only [List.length_singleton]; omega) (done_64 _ _ hd.s64 (fun p hp => (ho p hp).2)) hmk) _⟩
  unfold finish
  rw [writes_calm _ _ hd.calm ho]
  unfold seqE
  simp only [if_true]
  rw [flush_calm (by exact hd.calm)]
  simp only [if_true]
  rw [hd.wait, List.nil_append]
  have := write_flush_end hd1 (j.from_ + (m + 1) % 2) [mark (j.mark + 1) j.next j.at_] (by show _ ≤ (j.owed.foldl done d.safe).length; rw [done_length]; simp only [List.length_singleton]; omega) hmk
  unfold seqE at this
  rw [e1]
  exact this
theorem settle_calm {d : S} (hd : Fl d) {j : J} {m : Nat} (hc : j.cnt ≠ 0) (hm : j.mark = m) (hf : j.from_ + 2 ≤ d.safe.length) (ho : ∀ p ∈ j.owed, p.1 < d.safe.length ∧ p.2.length = 64) :
    settle d j = (sure d (setS d.safe j m) (j.owed.length + 4), settled j, 0) ∧ Fl (sure d (setS d.safe j m) (j.owed.length + 4)) := by
  have h1 : flush d = (sure d d.safe 1, 0) := by
    rw [flush_calm hd.calm, hd.wait]; rfl
  have hd1 : Fl (sure d d.safe 1) := sure_fl hd hd.s64 1
  obtain ⟨f1, f2⟩ := finish_calm hd1 (j := j) hm hf ho
  rw [sure_sure] at f1 f2
  have en : 1 + (j.owed.length + 3) = j.owed.length + 4 := by omega
  rw [en] at f1 f2
  have h2 : seqE (flush d) (fun d => finish d j) = (sure d (setS d.safe j m) (j.owed.length + 4), 0) := by
    unfold seqE
    rw [h1]
    simp only [if_true]
    exact f1
  refine ⟨?_, f2⟩
  unfold settle
  rw [if_neg hc, h2]
  simp only [if_true]
end Jr
