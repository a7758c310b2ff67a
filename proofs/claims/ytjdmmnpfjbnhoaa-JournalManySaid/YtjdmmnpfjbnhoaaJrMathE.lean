/- The plain mathematics of journals: Format, Open, Commit, Settle upon a device, after the chapter's words; upon a device whose calls don't fail. -/
import Derived.Test.YtjdmmnpfjbnhoaaJrMathD
import Derived.Test.YtjdmmnpfjbnhoaaDvFlat
namespace Jr
open Dv

/-- One behind the other, as long as there is no error. -/
def seqE (r : S × Int) (f : S → S × Int) : S × Int := if r.2 = 0 then f r.1 else r
def zero : Sec := List.replicate 64 0
def room (size from_ n : Int) : Prop := 5 ≤ n ∧ 0 ≤ from_ ∧ from_ ≤ size ∧ n ≤ size - from_
instance (a b c : Int) : Decidable (room a b c) := by unfold room; infer_instance
def format (d : S) (from_ n : Int) : S × Int :=
  if room d.safe.length from_ n then seqE (write d from_ (List.replicate n.toNat zero)) fun d => seqE (flush d) fun d => seqE (write d (from_ + 1) [mark 1 1 2]) flush
  else (d, 2)
def writes : S → List Put → S × Int
  | d, [] => (d, 0)
  | d, p :: l => seqE (write d p.1 [p.2]) fun d => writes d l
def finish (d : S) (j : J) : S × Int :=
  seqE (writes d j.owed) fun d => seqE (flush d) fun d => seqE (write d ((j.from_ : Int) + (j.mark + 1) % 2) [mark (j.mark + 1) j.next j.at_]) flush
def settle (d : S) (j : J) : S × J × Int :=
  if j.cnt = 0 then (d, j, 0)
  else ((seqE (flush d) fun d => finish d j).1, if (seqE (flush d) fun d => finish d j).2 = 0 then settled j else j, (seqE (flush d) fun d => finish d j).2)
/-- Head, contents, noughts where the foot belongs. -/
def front (n : Int) (puts : List Put) : List Sec := head n puts :: (puts.map (fun p => content p.2) ++ [zero])
def lays (d : S) (j : J) (a : Nat) (puts : List Put) : S × Int :=
  seqE (write d ((j.from_ : Int) + a) (front j.next puts)) fun d => seqE (flush d) fun d => write d ((j.from_ : Int) + a + puts.length + 1) [foot j.next]
/-- Upon sector a. -/
def putOn (d : S) (j : J) (a : Nat) (puts : List Put) : S × J × Bool × Int :=
  if (lays d j a puts).2 = 0 then ((flush (lays d j a puts).1).1, added j a puts, true, (flush (lays d j a puts).1).2)
  else ((lays d j a puts).1, j, false, (lays d j a puts).2)
/-- Commit of puts that are right. -/
def commit (d : S) (j : J) (puts : List Put) : S × J × Bool × Int :=
  match fits j (puts.length + 2) with
  | some a => putOn d j a puts
  | none => if (settle d j).2.2 = 0 then (match fits (settle d j).2.1 (puts.length + 2) with
      | some a => putOn (settle d j).1 (settle d j).2.1 a puts
      | none => ((settle d j).1, (settle d j).2.1, false, 0))
    else ((settle d j).1, (settle d j).2.1, false, (settle d j).2.2)

/-! ### without failures -/
/-- No call fails, nothing waits, sectors are sectors. -/
structure Fl (d : S) : Prop where
  calm : Calm d
  wait : d.wait = []
  s64 : ∀ x ∈ d.safe, x.length = 64
theorem write_calm {d : S} (h : Calm d) (a : Nat) (l : List Sec) (ha : a + l.length ≤ d.safe.length) (h64 : ∀ x ∈ l, x.length = 64) : write d a l = ({ d with n := d.n + 1, wait := d.wait ++ Dv.lay a l }, 0) := by
  unfold write
  rw [call_calm h]
  have h1 : Dv.there d (a : Int) (l.length : Int) = true := by
    unfold Dv.there
    rw [decide_eq_true_eq]
    omega
  rw [h1]
  have h2 : l.all (fun x => decide (x.length = 64)) = true := by
    rw [List.all_eq_true]; intro x hx; exact decide_eq_true (h64 x hx)
  rw [h2]
  simp
/-- What sectors are behind what is written. -/
def putS (s : List Sec) (a : Nat) (l : List Sec) : List Sec := (Dv.lay a l).foldl done s
theorem putS_length (s : List Sec) (a : Nat) (l : List Sec) : (putS s a l).length = s.length := done_length _ _
theorem last_lay (s : List Sec) (i : Nat) : ∀ (l : List Sec) (a : Nat) (w : List (Nat × Sec)), last s (w ++ Dv.lay a l) i = if a ≤ i ∧ i < a + l.length then l.getD (i - a) [] else last s w i
  | [], a, w => by
    rw [if_neg (by simp only [List.length_nil]; omega)]
    show last s (w ++ []) i = _
    rw [List.append_nil]
  | x :: l, a, w => by
    show last s (w ++ (a, x) :: Dv.lay (a + 1) l) i = _
    rw [show w ++ (a, x) :: Dv.lay (a + 1) l = (w ++ [(a, x)]) ++ Dv.lay (a + 1) l by simp, last_lay s i l (a + 1) (w ++ [(a, x)]), last_snoc]
    simp only [List.length_cons]
    by_cases h1 : a + 1 ≤ i ∧ i < a + 1 + l.length
    · rw [if_pos h1, if_pos (by omega), show i - a = (i - (a + 1)) + 1 by omega]
      rfl
    · rw [if_neg h1]
      by_cases h2 : a = i
      · rw [if_pos h2, if_pos (by omega), h2, Nat.sub_self]
        rfl
      · rw [if_neg h2, if_neg (by omega)]
theorem putS_at (s : List Sec) (a : Nat) (l : List Sec) (ha : a + l.length ≤ s.length) (i : Nat) : (putS s a l).getD i [] = if a ≤ i ∧ i < a + l.length then l.getD (i - a) [] else s.getD i [] := by
  unfold putS
  rw [flush_last _ _ _ (fun w hw => by have := lay_mem l a w hw; omega)]
  have := last_lay s i l a []
  rw [List.nil_append] at this
  rw [this, last_nil]
theorem mem_getD {s : List Sec} {x : Sec} (h : x ∈ s) : ∃ i, i < s.length ∧ s.getD i [] = x := by
  obtain ⟨i, hi, rfl⟩ := List.getElem_of_mem h
  exact ⟨i, hi, by simp [hi]⟩
theorem getD_mem {s : List Sec} {i : Nat} (h : i < s.length) : s.getD i [] ∈ s := by
  rw [List.getD_eq_getElem?_getD, List.getElem?_eq_getElem h]
  exact List.getElem_mem h
theorem putS_64 {s : List Sec} {a : Nat} {l : List Sec} (ha : a + l.length ≤ s.length) (hs : ∀ x ∈ s, x.length = 64) (hl : ∀ x ∈ l, x.length = 64) : ∀ x ∈ putS s a l, x.length = 64 := by
  intro x hx
  obtain ⟨i, hi, rfl⟩ := mem_getD hx
  rw [putS_length] at hi
  rw [putS_at s a l ha]
  split
  · exact hl _ (getD_mem (by omega))
  · exact hs _ (getD_mem hi)
/-- Written and flushed. -/
def sure (d : S) (s : List Sec) (k : Nat) : S := { d with n := d.n + k, safe := s, wait := [] }
theorem sure_fl {d : S} (h : Fl d) {s : List Sec} (hs : ∀ x ∈ s, x.length = 64) (k : Nat) : Fl (sure d s k) := ⟨h.calm, rfl, hs⟩
theorem write_flush {d : S} (h : Fl d) (a : Nat) (l : List Sec) (ha : a + l.length ≤ d.safe.length) (h64 : ∀ x ∈ l, x.length = 64) (f : S → S × Int) :
    seqE (write d a l) (fun d => seqE (flush d) f) = f (sure d (putS d.safe a l) 2) := by
  unfold seqE
  rw [write_calm h.calm a l ha h64]
  have hc : Calm ({ d with n := d.n + 1, wait := d.wait ++ Dv.lay a l } : S) := h.calm
  simp only [if_true]
  rw [flush_calm hc]
  simp only [if_true]
  rw [h.wait]
  rfl
theorem write_flush_end {d : S} (h : Fl d) (a : Nat) (l : List Sec) (ha : a + l.length ≤ d.safe.length) (h64 : ∀ x ∈ l, x.length = 64) :
    seqE (write d a l) flush = (sure d (putS d.safe a l) 2, 0) := by
  unfold seqE
  rw [write_calm h.calm a l ha h64]
  have hc : Calm ({ d with n := d.n + 1, wait := d.wait ++ Dv.lay a l } : S) := h.calm
  simp only [if_true]
  rw [flush_calm hc, h.wait]
  rfl
end Jr
