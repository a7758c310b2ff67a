/- The plain mathematics of package message: pieces and their lengths; framing, way by way. -/
import Derived.Test.YtlbjjeonchcgbaaGreatDoorMsMathB
namespace Ms
open Oct (splitAll splitText scan scan1 emit trim_len)
/-- No piece is longer than its text. -/
theorem scan_piece (M : Nat) : ∀ (l : List UInt8) (st : List (List UInt8) × List UInt8 × Bool × Bool), (∀ p ∈ st.1, p.length ≤ M) → st.2.1.length + l.length ≤ M → (∀ p ∈ (l.foldl scan1 st).1, p.length ≤ M) ∧ (l.foldl scan1 st).2.1.length ≤ M
  | [], st, h1, h2 => ⟨h1, by simpa using h2⟩
  | c :: l, st, h1, h2 => by
    have h2' : st.2.1.length + (l.length + 1) ≤ M := by simpa using h2
    refine scan_piece M l (scan1 st c) ?_ ?_
    · unfold scan1
      split
      · intro p hp
        rcases List.mem_append.1 hp with hp | hp
        · exact h1 p hp
        · unfold emit at hp
          split at hp
          · cases hp
          · rw [List.mem_singleton] at hp; subst hp
            have := trim_len st.2.1; omega
      · exact h1
    · unfold scan1
      split
      · simp; omega
      · simp; omega
theorem splitText_piece {l p : List UInt8} (h : p ∈ splitText l) : p.length ≤ l.length := by
  have hs := scan_piece l.length l ([], [], false, false) (fun p hp => by cases hp) (by simp)
  unfold splitText scan at h
  rcases List.mem_append.1 h with h | h
  · exact hs.1 p h
  · unfold emit at h
    split at h
    · cases h
    · rw [List.mem_singleton] at h; subst h
      have := trim_len (l.foldl scan1 ([], [], false, false)).2.1
      have := hs.2; omega
theorem splitAll_piece {ls : List (List UInt8)} {M : Nat} (hM : ∀ l ∈ ls, l.length ≤ M) {p : List UInt8} (h : p ∈ splitAll ls) : p.length ≤ M := by
  unfold splitAll at h
  obtain ⟨l, hl, hp⟩ := List.mem_flatMap.1 h
  exact Nat.le_trans (splitText_piece hp) (hM l hl)


theorem framed_bare {s : St.S} {fs : List Fld.F} {m : L} (h : bare s.status m = true) : framed s fs m = (0, 0, 0) := bare_framed h
section
variable {s : St.S} {fs : List Fld.F} {m : L}
theorem framed_te (h : bare s.status m = false) (ht : Fld.get fs kTE ≠ []) : framed s fs m = if s.minor = 0 ∨ Fld.get fs kCL ≠ [] ∨ chunkedB (Fld.get fs kTE) = false then (0, 0, 10) else (2, 0, 0) := by
  unfold framed framing; rw [h, if_neg (by decide), if_pos ht]
theorem framed_cl (h : bare s.status m = false) (ht : Fld.get fs kTE = []) (hc : Fld.get fs kCL ≠ []) : framed s fs m = sized (Fld.get fs kCL) := by
  unfold framed framing; rw [h, if_neg (by decide), if_neg (by rw [ht]; simp), if_pos hc]
theorem framed_none (h : bare s.status m = false) (ht : Fld.get fs kTE = []) (hc : Fld.get fs kCL = []) : framed s fs m = if s.status = 0 then (0, 0, 0) else (0, 0, 10) := by
  unfold framed framing; rw [h, if_neg (by decide), if_neg (by rw [ht]; simp), if_neg (by rw [hc]; simp)]
end
theorem sized_nil {cl : List L} (h : Oct.splitAll cl = []) : sized cl = (0, 0, 10) := by unfold sized; rw [h]
theorem sized_odd {cl : List L} (l : List L) (h : Oct.splitAll cl = l) (j : Nat) (hj : j < l.length) (h0 : 0 < l.length) (hne : l[j] ≠ l[0]) : sized cl = (0, 0, 10) := by
  unfold sized
  rw [h]
  cases l with
  | nil => simp at h0
  | cons a r =>
    simp only []
    rw [if_pos]
    cases j with
    | zero => exact absurd rfl hne
    | succ k =>
      rw [List.any_eq_true]
      have hk : k < r.length := by simpa using hj
      exact ⟨r[k], List.getElem_mem hk, by simpa using hne⟩
theorem sized_all {cl : List L} (l : List L) (h : Oct.splitAll cl = l) (h0 : 0 < l.length) (hall : ∀ j (hj : j < l.length), l[j] = l[0]) : sized cl = if (Oct.number 10 1048576 l[0]).2 ≠ 0 then ((0 : Int), (0 : Int), (Oct.number 10 1048576 l[0]).2) else (1, (Oct.number 10 1048576 l[0]).1, 0) := by
  unfold sized
  rw [h]
  cases l with
  | nil => simp at h0
  | cons a r =>
    simp only []
    rw [if_neg]
    · rfl
    · intro hr
      rw [List.any_eq_true] at hr
      obtain ⟨x, hx, hxa⟩ := hr
      obtain ⟨k, hk, rfl⟩ := List.mem_iff_getElem.1 hx
      have := hall (k + 1) (by simpa using hk)
      simp at this hxa
      exact hxa this
theorem chunked_one {te : List L} {a : L} (h : Oct.splitAll te = [a]) : chunkedB te = decide (Oct.lower a = kChunked) := by unfold chunkedB; rw [h]
theorem chunked_not {te : List L} (l : List L) (h : Oct.splitAll te = l) (hl : l.length ≠ 1) : chunkedB te = false := by
  unfold chunkedB
  rw [h]
  match l, hl with
  | [], _ => rfl
  | [a], hl => exact absurd rfl hl
  | a :: b :: r, _ => rfl
end Ms
namespace Fld
/-- What is read is no longer than what it is read of. -/
theorem fieldOf_small {l : List UInt8} {f : F} (h : fieldOf l = some f) : f.1.length ≤ l.length ∧ f.2.length ≤ l.length := by
  unfold fieldOf at h
  split at h
  · cases h
  · split at h
    · cases h
      refine ⟨?_, ?_⟩
      · show (l.take (colon l)).length ≤ _
        rw [List.length_take]; omega
      · show (Oct.trim (l.drop (colon l + 1))).length ≤ _
        have := Oct.trim_len (l.drop (colon l + 1))
        rw [List.length_drop] at this
        omega
    · cases h
theorem go_small (b : List UInt8) : ∀ (k n : Nat) (acc : List F), acc.length ≤ 128 → (∀ f ∈ acc, f.1.length ≤ b.length ∧ f.2.length ≤ b.length) → (go b k n acc).1.length ≤ 128 ∧ ∀ f ∈ (go b k n acc).1, f.1.length ≤ b.length ∧ f.2.length ≤ b.length
  | 0, n, acc, _, _ => ⟨Nat.zero_le _, fun f h => by cases h⟩
  | k + 1, n, acc, hl, hs => by
    unfold go
    cases he : endAt b n with
    | none => exact ⟨Nat.zero_le _, fun f h => by cases h⟩
    | some e =>
      simp only []
      split
      · exact ⟨Nat.zero_le _, fun f h => by cases h⟩
      · split
        · exact ⟨hl, hs⟩
        · cases hf : fieldOf ((b.take e).drop n) with
          | none => exact ⟨Nat.zero_le _, fun f h => by cases h⟩
          | some f =>
            simp only []
            split
            · exact ⟨Nat.zero_le _, fun f h => by cases h⟩
            · refine go_small b k (e + 2) _ (by rw [List.length_append]; show acc.length + 1 ≤ _; omega) (fun x hx => ?_)
              rcases List.mem_append.1 hx with hx | hx
              · exact hs x hx
              · rw [List.mem_singleton] at hx
                subst hx
                have := fieldOf_small hf
                rw [List.length_drop, List.length_take] at this
                omega
theorem parse_small (b : List UInt8) : (parse b).1.length ≤ 128 ∧ ∀ f ∈ (parse b).1, f.1.length ≤ b.length ∧ f.2.length ≤ b.length := go_small b _ 0 [] (Nat.zero_le _) (fun f h => by cases h)
end Fld
namespace Ms
theorem line_nat (asks : Bool) (b : L) : ∃ n : Nat, (line asks b).2.1 = n ∧ n ≤ b.length := by
  have key : ∀ (most : Nat) (f : L → St.S × Int), ∃ n : Nat, (St.whole (St.line most b) f).2.1 = n := by
    intro most f
    unfold St.whole
    rcases Ck.line_cases most b with ⟨e, _⟩ | ⟨e, _⟩ | ⟨e, _⟩ | ⟨e, _, _, _⟩
    · rw [e, if_pos (by decide)]; exact ⟨0, rfl⟩
    · rw [e, if_pos (by decide)]; exact ⟨0, rfl⟩
    · rw [e, if_pos (by decide)]; exact ⟨0, rfl⟩
    · rw [e, if_neg (by simp)]
      simp only []
      split
      · exact ⟨0, rfl⟩
      · exact ⟨_, rfl⟩
  have hex : ∃ n : Nat, (line asks b).2.1 = n := by
    unfold line
    cases asks with
    | true => exact key 8200 St.reqOf
    | false => exact key 300 St.resOf
  obtain ⟨n, hn⟩ := hex
  have := line_le (asks := asks) b
  rw [hn] at this
  exact ⟨n, hn, by simpa using this⟩
end Ms
namespace Ck
theorem told_len (b : L) : (told b).2.1 ≤ b.length := by
  unfold told
  split
  · exact Nat.zero_le _
  · exact (go_len (.size 0) b).1
end Ck
