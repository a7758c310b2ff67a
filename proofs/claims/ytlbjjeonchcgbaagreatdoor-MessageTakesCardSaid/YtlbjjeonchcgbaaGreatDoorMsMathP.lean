/- The plain mathematics of package message, as the program reckons: names in small letters, texts of which each is the same, what a method counts for. -/
import Derived.Test.YtlbjjeonchcgbaaGreatDoorMsMathC
import Derived.Lib.SlicesCompact
namespace Fld
theorem get_lower {n m : List UInt8} (h : Oct.lower n = Oct.lower m) (fs : List F) : get fs n = get fs m := by
  have e : named n = named m := by funext f; unfold named; rw [h]
  unfold get
  rw [e]
end Fld
namespace Ms
open Go.Lib (compact compactUpTo keeps keeps_lt_one keeps_pos keeps_neg compactUpTo_succ)
theorem compact_same (d : Array L) : ∀ m, (∀ j, j ≤ m → d[j]! = d[0]!) → compactUpTo d (m + 1) = [d[0]!]
  | 0, _ => by rw [compactUpTo_succ, keeps_lt_one d 0 (by omega)]; rfl
  | m + 1, h => by
    rw [compactUpTo_succ, compact_same d m (fun j hj => h j (by omega)), keeps_neg (by omega) (by rw [h (m + 1) (Nat.le_refl _), Nat.add_sub_cancel, h m (by omega)])]
    rfl
theorem compact_two (d : Array L) : ∀ m, 1 ≤ (compactUpTo d (m + 1)).length ∧ ((∃ j, j ≤ m ∧ d[j]! ≠ d[0]!) → 2 ≤ (compactUpTo d (m + 1)).length)
  | 0 => by
    refine ⟨by rw [compactUpTo_succ, keeps_lt_one d 0 (by omega)]; simp, ?_⟩
    rintro ⟨j, hj, hne⟩
    have : j = 0 := by omega
    subst this
    exact absurd rfl hne
  | m + 1 => by
    obtain ⟨h1, h2⟩ := compact_two d m
    rw [compactUpTo_succ, List.length_append]
    refine ⟨by omega, ?_⟩
    rintro ⟨j, hj, hne⟩
    by_cases hk : d[m + 1]! = d[m + 1 - 1]!
    · have : 2 ≤ (compactUpTo d (m + 1)).length := by
        refine h2 ?_
        by_cases hjm : j = m + 1
        · subst hjm
          rw [hk, Nat.add_sub_cancel] at hne
          exact ⟨m, Nat.le_refl _, hne⟩
        · exact ⟨j, by omega, hne⟩
      omega
    · rw [keeps_pos hk, if_pos rfl]
      show 2 ≤ _ + 1
      omega
theorem get_bang (ls : List L) (j : Nat) (hj : j < ls.length) : ls.toArray[j]! = ls[j] := by
  rw [getElem!_pos _ j (by simpa using hj)]
  simp
/-- All the same: one is left, the first. -/
theorem compact_all_same {ls : List L} (h0 : 0 < ls.length) (h : ∀ j (hj : j < ls.length), ls[j] = ls[0]) : compact ls = [ls[0]] := by
  unfold compact
  obtain ⟨m, hm⟩ : ∃ m, ls.length = m + 1 := ⟨ls.length - 1, by omega⟩
  rw [hm, compact_same ls.toArray m (fun j hj => by rw [get_bang ls j (by omega), get_bang ls 0 h0]; exact h j (by omega)), get_bang ls 0 h0]
theorem compact_odd {ls : List L} (h0 : 0 < ls.length) (j : Nat) (hj : j < ls.length) (hne : ls[j] ≠ ls[0]) : 2 ≤ (compact ls).length := by
  unfold compact
  obtain ⟨m, hm⟩ : ∃ m, ls.length = m + 1 := ⟨ls.length - 1, by omega⟩
  rw [hm]
  exact (compact_two ls.toArray m).2 ⟨j, by omega, by rw [get_bang ls j hj, get_bang ls 0 h0]; exact hne⟩
theorem compact_mem {ls : List L} {p : L} (h : p ∈ compact ls) : p ∈ ls := by
  unfold compact compactUpTo at h
  obtain ⟨j, hj, rfl⟩ := List.mem_map.1 h
  have hj' : j < ls.length := List.mem_range.1 (List.mem_filter.1 hj).1
  rw [get_bang ls j hj']
  exact List.getElem_mem hj'
theorem compact_le (ls : List L) : (compact ls).length ≤ ls.length := by
  unfold compact compactUpTo
  rw [List.length_map]
  exact Nat.le_trans (List.length_filter_le _ _) (by simp)
theorem compact_nil : compact ([] : List L) = [] := rfl
/-- What the values of content-length say, as the program reckons. -/
def lengthOf (cl : List L) : Int × Int := if (compact (Oct.splitAll cl)).length = 1 then Oct.number 10 1048576 ((compact (Oct.splitAll cl)).headD []) else (0, 10)
theorem sized_of (cl : List L) : sized cl = if (lengthOf cl).2 ≠ 0 then (0, 0, (lengthOf cl).2) else (1, (lengthOf cl).1, 0) := by
  obtain ⟨l, hl⟩ : ∃ l, Oct.splitAll cl = l := ⟨_, rfl⟩
  unfold lengthOf
  rw [hl]
  by_cases h0 : 0 < l.length
  · by_cases hall : ∀ j (hj : j < l.length), l[j] = l[0]
    · rw [sized_all l hl h0 hall, compact_all_same h0 hall]
      rfl
    · have : ∃ j, ∃ hj : j < l.length, l[j] ≠ l[0] := by
        refine Decidable.byContradiction fun hc => hall fun j hj => ?_
        exact Decidable.byContradiction fun hne => hc ⟨j, hj, hne⟩
      obtain ⟨j, hj, hne⟩ := this
      have h2 := compact_odd h0 j hj hne
      rw [sized_odd l hl j hj h0 hne]
      simp only [if_neg (show ¬ (compact l).length = 1 by omega)]
      rfl
  · have : l = [] := by cases l with
      | nil => rfl
      | cons a r => simp at h0
    subst this
    rw [sized_nil hl, compact_nil]
    rfl
/-- A method counts for HEAD, or for none. -/
def asHead (h : Bool) : L := if h then kHead else []
theorem bare_head (st : Int) (m : L) : bare st m = bare st (asHead (decide (m = kHead))) := by
  unfold bare asHead
  by_cases h : m = kHead
  · rw [decide_eq_true h, if_pos rfl, decide_eq_true (rfl : kHead = kHead)]
  · rw [decide_eq_false h, show (if false = true then kHead else []) = ([] : L) from rfl, decide_eq_false (show ¬ ([] : L) = kHead by decide)]
theorem framed_head (s : St.S) (fs : List Fld.F) (m : L) : framed s fs m = framed s fs (asHead (decide (m = kHead))) := by
  unfold framed framing
  rw [bare_head]
def bodiless (st : Int) : Bool := decide (st < 200) || decide (st = 204) || decide (st = 304)
theorem bare_asHead (st : Int) (h : Bool) : bare st (asHead h) = (decide (st ≠ 0) && (h || bodiless st)) := by
  unfold bare asHead bodiless
  cases h with
  | true => rw [if_pos rfl, decide_eq_true (rfl : kHead = kHead)]; simp
  | false => rw [show (if false = true then kHead else []) = ([] : L) from rfl, decide_eq_false (show ¬ ([] : L) = kHead by decide)]; simp
section
variable {asks : Bool} {m : L} {s : St.S} {fs : List Fld.F} {b : L} {k : Nat}
theorem gh_wait {e : Int} (hp : Fld.parse b = (fs, k, e)) (he : e = 11) : goHead m s b = ([], 0, .head s, 0) := head_wait (by rw [hp]; exact he)
theorem gh_bad {e : Int} (hp : Fld.parse b = (fs, k, e)) (h0 : e ≠ 0) (h1 : e ≠ 11) : goHead m s b = ([], 0, .head s, e) := by
  have := head_bad (method := m) (s := s) (b := b) (by rw [hp]; exact h1) (by rw [hp]; exact h0)
  rw [hp] at this; exact this
theorem gh_frame {kd sz e : Int} (hp : Fld.parse b = (fs, k, 0)) (hf : framed s fs m = (kd, sz, e)) (h0 : e ≠ 0) : goHead m s b = ([], 0, .head s, e) := by
  have := head_frame (method := m) (s := s) (b := b) (by rw [hp]) (by rw [hp, hf]; exact h0)
  rw [hp, hf] at this; exact this
theorem gh_sized {kd sz : Int} (hp : Fld.parse b = (fs, k, 0)) (hf : framed s fs m = (kd, sz, 0)) (hk : kd ≠ 2) {y : L} (hy : b.drop k = y) :
    goHead m s b = (y.take sz.toNat, k + (y.take sz.toNat).length, .sized s fs (sz.toNat - (y.take sz.toNat).length), 0) := by
  subst hy
  have := head_ok (method := m) (s := s) (b := b) (by rw [hp]) (by rw [hp, hf])
  rw [hp] at this
  rw [this]
  unfold begins
  rw [hf, if_neg hk]
  rfl
theorem gh_chunk {sz : Int} (hp : Fld.parse b = (fs, k, 0)) (hf : framed s fs m = (2, sz, 0)) {y : L} (hy : b.drop k = y) {x : L} {t : Nat} {c : Ck.S} {e : Int} (hg : Ck.go (.size 0) y = (x, t, c, e)) :
    goHead m s b = (x, k + t, .chunk s fs c, e) := by
  subst hy
  have := head_ok (method := m) (s := s) (b := b) (by rw [hp]) (by rw [hp, hf])
  rw [hp] at this
  rw [this]
  unfold begins
  rw [hf, if_pos rfl]
  show sh k (goBody (.chunk s fs (.size 0)) (b.drop k)) = _
  unfold sh
  show ((Ck.go (.size 0) (b.drop k)).1, k + (Ck.go (.size 0) (b.drop k)).2.1, S.chunk s fs (Ck.go (.size 0) (b.drop k)).2.2.1, (Ck.go (.size 0) (b.drop k)).2.2.2) = _
  rw [hg]
theorem gf_ok {n : Nat} (hq : line asks b = (s, (n : Int), 0)) {x : L} {t : Nat} {st : S} {e : Int} (hg : goHead m s (b.drop n) = (x, t, st, e)) : goFirst asks m b = (x, n + t, st, e) := by
  have := first_ok (method := m) (b := b) (asks := asks) (by rw [hq])
  rw [hq] at this
  simp only [Int.toNat_natCast] at this
  rw [this, hg]
  rfl
theorem gf_wait {n : Int} (hq : line asks b = (s, n, 11)) : goFirst asks m b = ([], 0, .first, 0) := first_wait (by rw [hq])
theorem gf_bad {n e : Int} (hq : line asks b = (s, n, e)) (h0 : e ≠ 0) (h1 : e ≠ 11) : goFirst asks m b = ([], 0, .first, e) := by
  have := first_bad (method := m) (b := b) (asks := asks) (by rw [hq]; exact h1) (by rw [hq]; exact h0)
  rw [hq] at this; exact this
theorem framed_left {kd sz e : Int} (hf : framed s fs m = (kd, sz, e)) : 0 ≤ sz ∧ sz ≤ 1048576 := by
  have := framing_kinds s.status s.minor (Fld.get fs kTE) (Fld.get fs kCL) m
  unfold framed at hf
  rw [hf] at this
  simp only [] at this
  omega
end
theorem reqAt_short (m t v : L) : (St.reqAt m t v).1.method.length ≤ 32 ∧ (St.reqAt m t v).1.target.length ≤ 8000 ∧ (St.reqAt m t v).1.reason.length ≤ 200 := by
  unfold St.reqAt
  split
  · exact ⟨Nat.zero_le _, Nat.zero_le _, Nat.zero_le _⟩
  · split
    · exact ⟨Nat.zero_le _, Nat.zero_le _, Nat.zero_le _⟩
    · rename_i h
      exact ⟨by show m.length ≤ _; omega, by show t.length ≤ _; omega, Nat.zero_le _⟩
theorem resAt_short (v d r : L) : (St.resAt v d r).1.method.length ≤ 32 ∧ (St.resAt v d r).1.target.length ≤ 8000 ∧ (St.resAt v d r).1.reason.length ≤ 200 := by
  unfold St.resAt
  split
  · exact ⟨Nat.zero_le _, Nat.zero_le _, Nat.zero_le _⟩
  · split
    · exact ⟨Nat.zero_le _, Nat.zero_le _, Nat.zero_le _⟩
    · rename_i h
      exact ⟨Nat.zero_le _, Nat.zero_le _, by show r.length ≤ _; omega⟩
/-- What is read of a first line isn't long. -/
def Short (s : St.S) : Prop := s.method.length ≤ 1000000 ∧ s.target.length ≤ 1000000 ∧ s.reason.length ≤ 1000000
theorem Short.zero : Short St.zero := ⟨Nat.zero_le _, Nat.zero_le _, Nat.zero_le _⟩
theorem line_short {asks : Bool} {b : L} {s : St.S} {n e : Int} (h : line asks b = (s, n, e)) : Short s := by
  have key : ∀ (x : L × Int × Int) (f : L → St.S × Int), (∀ l, (f l).1.method.length ≤ 32 ∧ (f l).1.target.length ≤ 8000 ∧ (f l).1.reason.length ≤ 200) → Short (St.whole x f).1 := by
    intro x f hf
    unfold St.whole
    split
    · exact Short.zero
    · split
      · exact Short.zero
      · have := hf x.1
        exact ⟨by show (f x.1).1.method.length ≤ _; omega, by show (f x.1).1.target.length ≤ _; omega, by show (f x.1).1.reason.length ≤ _; omega⟩
  have hs : s = (line asks b).1 := by rw [h]
  rw [hs]
  unfold line
  cases asks with
  | true =>
    refine key _ St.reqOf (fun l => ?_)
    unfold St.reqOf
    split
    · exact ⟨Nat.zero_le _, Nat.zero_le _, Nat.zero_le _⟩
    · split
      · exact ⟨Nat.zero_le _, Nat.zero_le _, Nat.zero_le _⟩
      · exact reqAt_short _ _ _
  | false =>
    refine key _ St.resOf (fun l => ?_)
    unfold St.resOf
    split
    · exact ⟨Nat.zero_le _, Nat.zero_le _, Nat.zero_le _⟩
    · exact resAt_short _ _ _
def nTE : L := [116, 114, 97, 110, 115, 102, 101, 114, 45, 101, 110, 99, 111, 100, 105, 110, 103]
def nCL : L := [99, 111, 110, 116, 101, 110, 116, 45, 108, 101, 110, 103, 116, 104]
theorem get_te (fs : List Fld.F) : Fld.get fs nTE = Fld.get fs kTE := Fld.get_lower (by decide) fs
theorem get_cl (fs : List Fld.F) : Fld.get fs nCL = Fld.get fs kCL := Fld.get_lower (by decide) fs
end Ms
