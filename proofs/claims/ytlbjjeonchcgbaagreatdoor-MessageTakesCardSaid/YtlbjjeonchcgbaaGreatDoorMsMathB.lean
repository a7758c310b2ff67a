/- The plain mathematics of package message: however octets come in pieces, the same is told. -/
import Derived.Test.YtlbjjeonchcgbaaGreatDoorMsMath
namespace Fld
theorem crlf_bound : ∀ (l : List UInt8) (i : Nat), crlf l = some i → i + 2 ≤ l.length
  | [], i, h => by cases h
  | x :: r, i, h => by
    unfold crlf at h
    split at h
    · rename_i hc
      cases h
      cases r with
      | nil => simp at hc
      | cons y r => simp
    · rw [Option.map_eq_some_iff] at h
      obtain ⟨j, hj, rfl⟩ := h
      have := crlf_bound r j hj
      simp; omega
theorem crlf_more (c : List UInt8) : ∀ (l : List UInt8) (i : Nat), crlf l = some i → crlf (l ++ c) = some i
  | [], i, h => by cases h
  | x :: r, i, h => by
    have h0 := h
    unfold crlf at h
    show crlf (x :: (r ++ c)) = some i
    unfold crlf
    have hr : r ≠ [] := by
      intro e
      have := crlf_bound (x :: r) i h0
      rw [e] at this; simp at this
    have hh : (r ++ c).head? = r.head? := by
      cases r with
      | nil => exact absurd rfl hr
      | cons y r => rfl
    rw [hh]
    split at h
    · rename_i hc; rw [if_pos hc]; exact h
    · rename_i hc
      rw [if_neg hc]
      rw [Option.map_eq_some_iff] at h ⊢
      obtain ⟨j, hj, rfl⟩ := h
      exact ⟨j, crlf_more c r j hj, rfl⟩
theorem crlf_isC : ∀ (l : List UInt8) (i : Nat), crlf l = some i → isC l i
  | [], i, h => by cases h
  | c :: r, i, h => by
    unfold crlf at h
    split at h
    · rename_i hc; cases h; exact (isC_zero c r).2 hc
    · rw [Option.map_eq_some_iff] at h
      obtain ⟨j, hj, rfl⟩ := h
      exact (isC_succ c r j).2 (crlf_isC r j hj)
theorem endAt_more {b : List UInt8} {n e : Nat} (c : List UInt8) (hn : n ≤ b.length) (h : endAt b n = some e) : endAt (b ++ c) n = some e := by
  unfold endAt at h ⊢
  rw [Option.map_eq_some_iff] at h ⊢
  obtain ⟨i, hi, rfl⟩ := h
  exact ⟨i, by rw [List.drop_append_of_le_length hn]; exact crlf_more c _ i hi, rfl⟩
theorem endAt_bound {b : List UInt8} {n e : Nat} (hn : n ≤ b.length) (h : endAt b n = some e) : n ≤ e ∧ e + 2 ≤ b.length := by
  unfold endAt at h
  rw [Option.map_eq_some_iff] at h
  obtain ⟨i, hi, rfl⟩ := h
  have := crlf_bound _ i hi
  rw [List.length_drop] at this
  omega
/-- No line's end, and then one: it lies where the octets were not yet. -/
theorem endAt_new {b c : List UInt8} {n e : Nat} (_hn : n ≤ b.length) (h : endAt b n = none) (h2 : endAt (b ++ c) n = some e) : b.length < e + 2 := by
  rcases Nat.lt_or_ge b.length (e + 2) with h3 | h3
  · exact h3
  · exfalso
    unfold endAt at h2
    rw [Option.map_eq_some_iff] at h2
    obtain ⟨i, hi, rfl⟩ := h2
    have h4 := (isC_drop (b ++ c) n i).1 (crlf_isC _ i hi)
    have h5 : isC b (n + i) := by
      unfold isC at h4 ⊢
      rw [List.getElem?_append_left (by omega), List.getElem?_append_left (by omega)] at h4
      exact h4
    have h6 : ∀ (l : List UInt8) (i : Nat), crlf l = none → ¬ isC l i := by
      intro l
      induction l with
      | nil => intro i _ hc; have := isC_lt hc; simp at this
      | cons x r ih =>
        intro i hl hc
        unfold crlf at hl
        split at hl
        · cases hl
        · rename_i hx
          rw [Option.map_eq_none_iff] at hl
          cases i with
          | zero => exact hx ((isC_zero x r).1 hc)
          | succ j => exact ih j hl ((isC_succ x r j).1 hc)
    unfold endAt at h
    rw [Option.map_eq_none_iff] at h
    exact h6 _ i h ((isC_drop b n i).2 h5)
theorem go_more (b c : List UInt8) : ∀ (k n : Nat) (acc : List F) (k' : Nat), n ≤ b.length → b.length < n + k → (b ++ c).length < n + k' → (go b k n acc).2.2 ≠ 11 → go (b ++ c) k' n acc = go b k n acc
  | 0, n, acc, k', hn, hk, _, _ => by omega
  | k + 1, n, acc, 0, hn, _, hk', _ => by rw [List.length_append] at hk'; omega
  | k + 1, n, acc, k' + 1, hn, hk, hk', h => by
    unfold go at h ⊢
    cases he : endAt b n with
    | none =>
      rw [he] at h
      simp only [] at h ⊢
      have hl : b.length > 65536 := by
        rcases Nat.lt_or_ge 65536 b.length with h1 | h1
        · exact h1
        · rw [if_neg (by omega)] at h; exact absurd rfl h
      rw [if_pos hl]
      cases he2 : endAt (b ++ c) n with
      | none => simp only []; rw [if_pos (by rw [List.length_append]; omega)]
      | some e =>
        have := endAt_new hn he he2
        simp only []
        rw [if_pos (by omega)]
    | some e =>
      have hb := endAt_bound hn he
      rw [endAt_more c hn he]
      rw [he] at h
      simp only [] at h ⊢
      split
      · rfl
      · rename_i g1
        rw [if_neg g1] at h
        split
        · rfl
        · rename_i g2
          rw [if_neg g2] at h
          have e3 : ((b ++ c).take e).drop n = (b.take e).drop n := by rw [List.take_append_of_le_length (by omega)]
          rw [e3]
          cases hf : fieldOf ((b.take e).drop n) with
          | none => rfl
          | some f =>
            rw [hf] at h
            simp only [] at h ⊢
            split
            · rfl
            · rename_i g3
              rw [if_neg g3] at h
              exact go_more b c k (e + 2) (acc ++ [f]) k' (by omega) (by omega) (by rw [List.length_append] at hk' ⊢; omega) h
theorem parse_more {b : List UInt8} (c : List UInt8) (h : (parse b).2.2 ≠ 11) : parse (b ++ c) = parse b :=
  go_more b c (b.length + 1) 0 [] ((b ++ c).length + 1) (Nat.zero_le _) (by omega) (by omega) h
theorem go_le (b : List UInt8) : ∀ (k n : Nat) (acc : List F), n ≤ b.length → (go b k n acc).2.1 ≤ b.length
  | 0, n, acc, _ => Nat.zero_le _
  | k + 1, n, acc, hn => by
    unfold go
    cases he : endAt b n with
    | none => exact Nat.zero_le _
    | some e =>
      have hb := endAt_bound hn he
      simp only []
      split
      · exact Nat.zero_le _
      · split
        · exact hb.2
        · split
          · exact Nat.zero_le _
          · split
            · exact Nat.zero_le _
            · exact go_le b k (e + 2) _ hb.2
theorem parse_le (b : List UInt8) : (parse b).2.1 ≤ b.length := go_le b _ 0 [] (Nat.zero_le _)
end Fld
namespace Ms

/-- Where a reader stands: ahead of the first line, of the header, in a body of so many octets more, in a chunked one. -/
inductive S where
  | first
  | head (s : St.S)
  | sized (s : St.S) (fs : List Fld.F) (n : Nat)
  | chunk (s : St.S) (fs : List Fld.F) (c : Ck.S)
deriving DecidableEq
def sh (n : Nat) (r : L × Nat × S × Int) : L × Nat × S × Int := (r.1, n + r.2.1, r.2.2)
def begins (s : St.S) (fs : List Fld.F) (method : L) : S := if (framed s fs method).1 = 2 then .chunk s fs (.size 0) else .sized s fs (framed s fs method).2.1.toNat
def goBody : S → L → L × Nat × S × Int
  | .sized s fs n, b => (b.take n, (b.take n).length, .sized s fs (n - (b.take n).length), 0)
  | .chunk s fs c, b => ((Ck.go c b).1, (Ck.go c b).2.1, .chunk s fs (Ck.go c b).2.2.1, (Ck.go c b).2.2.2)
  | st, _ => ([], 0, st, 0)
def goHead (method : L) (s : St.S) (b : L) : L × Nat × S × Int :=
  if (Fld.parse b).2.2 = 11 then ([], 0, .head s, 0)
  else if (Fld.parse b).2.2 ≠ 0 then ([], 0, .head s, (Fld.parse b).2.2)
  else if (framed s (Fld.parse b).1 method).2.2 ≠ 0 then ([], 0, .head s, (framed s (Fld.parse b).1 method).2.2)
  else sh (Fld.parse b).2.1 (goBody (begins s (Fld.parse b).1 method) (b.drop (Fld.parse b).2.1))
def goFirst (asks : Bool) (method : L) (b : L) : L × Nat × S × Int :=
  if (line asks b).2.2 = 11 then ([], 0, .first, 0)
  else if (line asks b).2.2 ≠ 0 then ([], 0, .first, (line asks b).2.2)
  else sh (line asks b).2.1.toNat (goHead method (line asks b).1 (b.drop (line asks b).2.1.toNat))
def go (asks : Bool) (method : L) : S → L → L × Nat × S × Int
  | .first, b => goFirst asks method b
  | .head s, b => goHead method s b
  | st, b => goBody st b
def Body : S → Prop
  | .sized _ _ _ => True
  | .chunk _ _ _ => True
  | _ => False
theorem begins_body (s : St.S) (fs : List Fld.F) (method : L) : Body (begins s fs method) := by unfold begins; split <;> trivial
theorem go_body (asks : Bool) (method : L) {st : S} (h : Body st) (b : L) : go asks method st b = goBody st b := by
  cases st with
  | first => cases h
  | head s => cases h
  | sized s fs n => rfl
  | chunk s fs c => rfl
theorem goBody_body {st : S} (h : Body st) (b : L) : Body (goBody st b).2.2.1 := by
  cases st with
  | first => cases h
  | head s => cases h
  | sized s fs n => trivial
  | chunk s fs c => trivial
/-- What was taken ahead, and what is taken then. -/
def onto (r : L × Nat × S × Int) (q : L × Nat × S × Int) : L × Nat × S × Int := (r.1 ++ q.1, r.2.1 + q.2.1, q.2.2)
theorem goBody_app {st : S} (h : Body st) (b c : L) (h0 : (goBody st b).2.2.2 = 0) : goBody st (b ++ c) = onto (goBody st b) (goBody (goBody st b).2.2.1 (b.drop (goBody st b).2.1 ++ c)) := by
  cases st with
  | first => cases h
  | head s => cases h
  | sized s fs n =>
    unfold onto
    simp only [goBody]
    by_cases hn : n ≤ b.length
    · have e1 : (b.take n).length = n := by rw [List.length_take]; omega
      have e2 : (b ++ c).take n = b.take n := List.take_append_of_le_length hn
      rw [e2, e1, Nat.sub_self]
      simp
    · have e1 : b.take n = b := List.take_of_length_le (by omega)
      rw [e1, List.drop_length, List.nil_append]
      have e2 : (b ++ c).take n = b ++ c.take (n - b.length) := by rw [List.take_append, e1]
      rw [e2, List.length_append, Nat.sub_sub]
  | chunk s fs k =>
    have h0 : (Ck.go k b).2.2.2 = 0 := h0
    have := Ck.go_app k b c h0
    unfold onto
    simp only [goBody]
    rw [this]
theorem goBody_err {st : S} (h : Body st) (b c : L) (h0 : (goBody st b).2.2.2 ≠ 0) : (goBody st (b ++ c)).2.2.2 = (goBody st b).2.2.2 := by
  cases st with
  | first => cases h
  | head s => cases h
  | sized s fs n => exact absurd rfl h0
  | chunk s fs k => exact Ck.go_app_err k b c h0
theorem goBody_len {st : S} (b : L) : (goBody st b).2.1 ≤ b.length ∧ (goBody st b).1.length ≤ (goBody st b).2.1 := by
  cases st with
  | first => exact ⟨Nat.zero_le _, Nat.le_refl _⟩
  | head s => exact ⟨Nat.zero_le _, Nat.le_refl _⟩
  | sized s fs n => exact ⟨by show (b.take n).length ≤ _; rw [List.length_take]; omega, Nat.le_refl _⟩
  | chunk s fs k => exact Ck.go_len k b
section
variable {asks : Bool} {method : L} {s : St.S} {b : L}
theorem head_wait (h : (Fld.parse b).2.2 = 11) : goHead method s b = ([], 0, .head s, 0) := by unfold goHead; rw [if_pos h]
theorem head_bad (h : (Fld.parse b).2.2 ≠ 11) (h0 : (Fld.parse b).2.2 ≠ 0) : goHead method s b = ([], 0, .head s, (Fld.parse b).2.2) := by unfold goHead; rw [if_neg h, if_pos h0]
theorem head_frame (h : (Fld.parse b).2.2 = 0) (h0 : (framed s (Fld.parse b).1 method).2.2 ≠ 0) : goHead method s b = ([], 0, .head s, (framed s (Fld.parse b).1 method).2.2) := by
  unfold goHead; rw [if_neg (by rw [h]; decide), if_neg (by rw [h]; decide), if_pos h0]
theorem head_ok (h : (Fld.parse b).2.2 = 0) (h0 : (framed s (Fld.parse b).1 method).2.2 = 0) : goHead method s b = sh (Fld.parse b).2.1 (goBody (begins s (Fld.parse b).1 method) (b.drop (Fld.parse b).2.1)) := by
  unfold goHead; rw [if_neg (by rw [h]; decide), if_neg (by rw [h]; decide), if_neg (by rw [h0]; decide)]
theorem first_wait (h : (line asks b).2.2 = 11) : goFirst asks method b = ([], 0, .first, 0) := by unfold goFirst; rw [if_pos h]
theorem first_bad (h : (line asks b).2.2 ≠ 11) (h0 : (line asks b).2.2 ≠ 0) : goFirst asks method b = ([], 0, .first, (line asks b).2.2) := by unfold goFirst; rw [if_neg h, if_pos h0]
theorem first_ok (h : (line asks b).2.2 = 0) : goFirst asks method b = sh (line asks b).2.1.toNat (goHead method (line asks b).1 (b.drop (line asks b).2.1.toNat)) := by
  unfold goFirst; rw [if_neg (by rw [h]; decide), if_neg (by rw [h]; decide)]
end
theorem sh_onto (n : Nat) (r q : L × Nat × S × Int) : sh n (onto r q) = onto (sh n r) q := by unfold sh onto; simp only [Nat.add_assoc]
theorem onto_none (st : S) (q : L × Nat × S × Int) : onto ([], 0, st, 0) q = q := by unfold onto; simp
theorem goHead_app (asks : Bool) (method : L) (s : St.S) (b c : L) (h0 : (goHead method s b).2.2.2 = 0) : goHead method s (b ++ c) = onto (goHead method s b) (go asks method (goHead method s b).2.2.1 (b.drop (goHead method s b).2.1 ++ c)) := by
  by_cases h1 : (Fld.parse b).2.2 = 11
  · rw [head_wait h1, onto_none]; rfl
  · have hm := Fld.parse_more c h1
    by_cases h2 : (Fld.parse b).2.2 = 0
    · by_cases h3 : (framed s (Fld.parse b).1 method).2.2 = 0
      · have hle := Fld.parse_le b
        have e1 := head_ok (s := s) h2 h3
        have e2 : goHead method s (b ++ c) = _ := head_ok (by rw [hm]; exact h2) (by rw [hm]; exact h3)
        rw [hm, List.drop_append_of_le_length hle] at e2
        rw [e1] at h0
        have e3 := goBody_app (begins_body s (Fld.parse b).1 method) (b.drop (Fld.parse b).2.1) c h0
        rw [e2, e3, e1, sh_onto]
        congr 1
        show goBody _ _ = go asks method (goBody _ _).2.2.1 _
        rw [go_body asks method (goBody_body (begins_body _ _ _) _)]
        show _ = goBody _ (b.drop ((Fld.parse b).2.1 + _) ++ c)
        rw [List.drop_drop]
      · rw [head_frame h2 h3] at h0; exact absurd h0 h3
    · rw [head_bad h1 h2] at h0; exact absurd h0 h2
theorem goHead_err (method : L) (s : St.S) (b c : L) (h0 : (goHead method s b).2.2.2 ≠ 0) : (goHead method s (b ++ c)).2.2.2 = (goHead method s b).2.2.2 := by
  by_cases h1 : (Fld.parse b).2.2 = 11
  · rw [head_wait h1] at h0; exact absurd rfl h0
  · have hm := Fld.parse_more c h1
    by_cases h2 : (Fld.parse b).2.2 = 0
    · by_cases h3 : (framed s (Fld.parse b).1 method).2.2 = 0
      · have hle := Fld.parse_le b
        have e1 := head_ok (s := s) h2 h3
        have e2 : goHead method s (b ++ c) = _ := head_ok (by rw [hm]; exact h2) (by rw [hm]; exact h3)
        rw [hm, List.drop_append_of_le_length hle] at e2
        rw [e1] at h0
        rw [e2, e1]
        exact goBody_err (begins_body _ _ _) _ _ h0
      · rw [head_frame h2 h3, head_frame (by rw [hm]; exact h2) (by rw [hm]; exact h3), hm]
    · rw [head_bad h1 h2, head_bad (by rw [hm]; exact h1) (by rw [hm]; exact h2), hm]
theorem line_more {asks : Bool} {b : L} (c : L) (h : (line asks b).2.2 ≠ 11) : line asks (b ++ c) = line asks b := by
  have key : ∀ (most : Nat) (f : L → St.S × Int), (St.whole (St.line most b) f).2.2 ≠ 11 → St.whole (St.line most (b ++ c)) f = St.whole (St.line most b) f := by
    intro most f h
    rw [Ck.line_more most b c]
    intro e
    apply h
    unfold St.whole
    rw [if_pos (by rw [e]; decide)]
    exact e
  unfold line at h ⊢
  cases asks with
  | true => rw [if_pos rfl] at h; exact key 8200 St.reqOf h
  | false => exact key 300 St.resOf h
theorem line_le {asks : Bool} (b : L) : (line asks b).2.1.toNat ≤ b.length := by
  have key : ∀ (most : Nat) (f : L → St.S × Int), (St.whole (St.line most b) f).2.1.toNat ≤ b.length := by
    intro most f
    unfold St.whole
    rcases Ck.line_cases most b with ⟨e, _⟩ | ⟨e, _⟩ | ⟨e, _⟩ | ⟨e, h1, h2, h3⟩
    · rw [e, if_pos (by decide)]; exact Nat.zero_le _
    · rw [e, if_pos (by decide)]; exact Nat.zero_le _
    · rw [e, if_pos (by decide)]; exact Nat.zero_le _
    · rw [e, if_neg (by simp)]
      simp only []
      split <;> first | exact Nat.zero_le _ | (simp only [Int.toNat_natCast]; omega)
  unfold line
  cases asks with
  | true => exact key 8200 St.reqOf
  | false => exact key 300 St.resOf
/-- However octets come. -/
theorem go_app (asks : Bool) (method : L) (st : S) (b c : L) (h0 : (go asks method st b).2.2.2 = 0) : go asks method st (b ++ c) = onto (go asks method st b) (go asks method (go asks method st b).2.2.1 (b.drop (go asks method st b).2.1 ++ c)) := by
  cases st with
  | first =>
    have h0 : (goFirst asks method b).2.2.2 = 0 := h0
    show goFirst asks method (b ++ c) = onto (goFirst asks method b) (go asks method (goFirst asks method b).2.2.1 (b.drop (goFirst asks method b).2.1 ++ c))
    by_cases h1 : (line asks b).2.2 = 11
    · rw [first_wait h1, onto_none]; rfl
    · have hm := line_more c h1
      by_cases h2 : (line asks b).2.2 = 0
      · have hle := line_le (asks := asks) b
        have e1 := first_ok (method := method) h2
        have e2 : goFirst asks method (b ++ c) = _ := first_ok (by rw [hm]; exact h2)
        rw [hm, List.drop_append_of_le_length hle] at e2
        rw [e1] at h0
        have e3 := goHead_app asks method (line asks b).1 (b.drop (line asks b).2.1.toNat) c h0
        rw [e2, e3, e1, sh_onto]
        congr 1
        show go asks method (goHead _ _ _).2.2.1 _ = go asks method (goHead _ _ _).2.2.1 (b.drop ((line asks b).2.1.toNat + _) ++ c)
        rw [List.drop_drop]
      · rw [first_bad h1 h2] at h0; exact absurd h0 h2
  | head s => exact goHead_app asks method s b c h0
  | sized s fs n =>
    have := goBody_app (st := .sized s fs n) trivial b c rfl
    exact this
  | chunk s fs k =>
    have := goBody_app (st := .chunk s fs k) trivial b c h0
    exact this
theorem go_err (asks : Bool) (method : L) (st : S) (b c : L) (h0 : (go asks method st b).2.2.2 ≠ 0) : (go asks method st (b ++ c)).2.2.2 = (go asks method st b).2.2.2 := by
  cases st with
  | first =>
    have h0 : (goFirst asks method b).2.2.2 ≠ 0 := h0
    show (goFirst asks method (b ++ c)).2.2.2 = (goFirst asks method b).2.2.2
    by_cases h1 : (line asks b).2.2 = 11
    · rw [first_wait h1] at h0; exact absurd rfl h0
    · have hm := line_more c h1
      by_cases h2 : (line asks b).2.2 = 0
      · have hle := line_le (asks := asks) b
        have e1 := first_ok (method := method) h2
        have e2 : goFirst asks method (b ++ c) = _ := first_ok (by rw [hm]; exact h2)
        rw [hm, List.drop_append_of_le_length hle] at e2
        rw [e1] at h0
        rw [e2, e1]
        exact goHead_err method _ _ _ h0
      · rw [first_bad h1 h2, first_bad (by rw [hm]; exact h1) (by rw [hm]; exact h2), hm]
  | head s => exact goHead_err method s b c h0
  | sized s fs n => exact absurd rfl h0
  | chunk s fs k => exact goBody_err (st := .chunk s fs k) trivial b c h0
theorem go_len (asks : Bool) (method : L) (st : S) (b : L) : (go asks method st b).2.1 ≤ b.length ∧ (go asks method st b).1.length ≤ (go asks method st b).2.1 := by
  have hh : ∀ s b, (goHead method s b).2.1 ≤ b.length ∧ (goHead method s b).1.length ≤ (goHead method s b).2.1 := by
    intro s b
    have hle := Fld.parse_le b
    have hb := goBody_len (st := begins s (Fld.parse b).1 method) (b.drop (Fld.parse b).2.1)
    rw [List.length_drop] at hb
    unfold goHead
    split
    · exact ⟨Nat.zero_le _, Nat.le_refl _⟩
    · split
      · exact ⟨Nat.zero_le _, Nat.le_refl _⟩
      · split
        · exact ⟨Nat.zero_le _, Nat.le_refl _⟩
        · unfold sh; exact ⟨by show _ + _ ≤ _; omega, Nat.le_trans hb.2 (Nat.le_add_left _ _)⟩
  cases st with
  | first =>
    show (goFirst asks method b).2.1 ≤ _ ∧ _
    have hle := line_le (asks := asks) b
    have hb := hh (line asks b).1 (b.drop (line asks b).2.1.toNat)
    rw [List.length_drop] at hb
    show (goFirst asks method b).2.1 ≤ b.length ∧ (goFirst asks method b).1.length ≤ (goFirst asks method b).2.1
    unfold goFirst
    split
    · exact ⟨Nat.zero_le _, Nat.le_refl _⟩
    · split
      · exact ⟨Nat.zero_le _, Nat.le_refl _⟩
      · unfold sh; exact ⟨by show _ + _ ≤ _; omega, Nat.le_trans hb.2 (Nat.le_add_left _ _)⟩
  | head s => exact hh s b
  | sized s fs n => exact goBody_len (st := .sized s fs n) b
  | chunk s fs k => exact goBody_len (st := .chunk s fs k) b

/-! What is told is what a reader has taken. -/
def headOf : S → M × Bool
  | .sized s fs _ => (⟨s, fs, []⟩, true)
  | .chunk s fs _ => (⟨s, fs, []⟩, true)
  | _ => (zero, false)
def isDone : S → Bool
  | .sized _ _ n => decide (n = 0)
  | .chunk _ _ c => Ck.isOver c
  | _ => false
def toldOf (r : L × Nat × S × Int) : M × Bool × Nat × Bool × Int :=
  if r.2.2.2 ≠ 0 then (zero, false, 0, false, r.2.2.2) else (⟨(headOf r.2.2.1).1.start, (headOf r.2.2.1).1.fields, r.1⟩, (headOf r.2.2.1).2, r.2.1, isDone r.2.2.1, 0)
theorem told_go (asks : Bool) (method : L) (b : L) : told b asks method = toldOf (go asks method .first b) := by
  show _ = toldOf (goFirst asks method b)
  by_cases h1 : (line asks b).2.2 = 11
  · rw [told_more h1, first_wait h1]; rfl
  · by_cases h2 : (line asks b).2.2 = 0
    · obtain ⟨n, hn⟩ : ∃ n : Nat, (line asks b).2.1 = n := by
        have key : ∀ (most : Nat) (f : L → St.S × Int), ∃ n : Nat, (St.whole (St.line most b) f).2.1 = n := by
          intro most f
          unfold St.whole
          rcases Ck.line_cases most b with ⟨e, _⟩ | ⟨e, _⟩ | ⟨e, _⟩ | ⟨e, _, _, _⟩
          · rw [e, if_pos (by decide)]; exact ⟨0, rfl⟩
          · rw [e, if_pos (by decide)]; exact ⟨0, rfl⟩
          · rw [e, if_pos (by decide)]; exact ⟨0, rfl⟩
          · rw [e, if_neg (by simp)]
            simp only []
            split
            · exact ⟨0, rfl⟩
            · exact ⟨_, rfl⟩
        unfold line
        cases asks with
        | true => exact key 8200 St.reqOf
        | false => exact key 300 St.resOf
      have hl : line asks b = ((line asks b).1, (n : Int), 0) := by rw [← hn, ← h2]
      rw [first_ok h2, hn, Int.toNat_natCast]
      by_cases h3 : (Fld.parse (b.drop n)).2.2 = 11
      · rw [told_wait hl h3, head_wait h3]; rfl
      · by_cases h4 : (Fld.parse (b.drop n)).2.2 = 0
        · have hp : Fld.parse (b.drop n) = ((Fld.parse (b.drop n)).1, (Fld.parse (b.drop n)).2.1, 0) := by rw [← h4]
          generalize (Fld.parse (b.drop n)).1 = fs at *
          generalize (Fld.parse (b.drop n)).2.1 = k at *
          by_cases h5 : (framed (line asks b).1 fs method).2.2 = 0
          · obtain ⟨⟨kd, sz, e⟩, hf⟩ : ∃ x, framed (line asks b).1 fs method = x := ⟨_, rfl⟩
            rw [hf] at h5
            have h5 : e = 0 := h5
            subst h5
            have hok := head_ok (s := (line asks b).1) (method := method) (b := b.drop n) (by rw [hp]) (by rw [hp, hf])
            rw [hp] at hok
            simp only [] at hok
            rw [List.drop_drop] at hok
            rw [hok]
            unfold begins
            rw [hf]
            simp only []
            by_cases h6 : kd = 2
            · rw [if_pos h6]
              obtain ⟨⟨x, t, c, e⟩, hg⟩ : ∃ y, Ck.go (.size 0) (b.drop (n + k)) = y := ⟨_, rfl⟩
              have hbt : bodyTold kd sz.toNat (b.drop (n + k)) = if e ≠ 0 then ([], 0, false, e) else (x, t, Ck.isOver c, 0) := by
                unfold bodyTold
                rw [if_pos h6]
                unfold Ck.told
                rw [hg]
              by_cases h7 : e = 0
              · rw [if_neg (by simpa using h7)] at hbt
                rw [told_body hl hp hf hbt]
                unfold toldOf sh goBody
                simp only [hg]
                rw [if_neg (by simpa using h7)]
                simp only [headOf, isDone, Nat.add_assoc]
              · rw [if_pos h7] at hbt
                rw [told_bodyBad hl hp hf (by rw [hbt]) h7]
                unfold toldOf sh goBody
                simp only [hg]
                rw [if_pos h7]
            · rw [if_neg h6]
              have hbt : bodyTold kd sz.toNat (b.drop (n + k)) = ((b.drop (n + k)).take sz.toNat, ((b.drop (n + k)).take sz.toNat).length, decide (((b.drop (n + k)).take sz.toNat).length = sz.toNat), 0) := by
                unfold bodyTold; rw [if_neg h6]
              rw [told_body hl hp hf hbt]
              unfold toldOf sh goBody
              simp only []
              rw [if_neg (by simp)]
              simp only [headOf, isDone, Nat.add_assoc]
              have hlt : ((b.drop (n + k)).take sz.toNat).length ≤ sz.toNat := by rw [List.length_take]; omega
              congr 4
              rw [decide_eq_decide]
              omega
          · rw [told_frame hl hp rfl h5, head_frame (by rw [hp]) (by rw [hp]; exact h5)]
            rw [hp]
            unfold toldOf sh
            rw [if_pos h5]
        · rw [told_fault hl rfl h4 h3, head_bad h3 h4]
          unfold toldOf sh
          rw [if_pos h4]
    · rw [told_bad rfl h2 h1, first_bad h1 h2]
      unfold toldOf
      rw [if_pos h2]
end Ms
