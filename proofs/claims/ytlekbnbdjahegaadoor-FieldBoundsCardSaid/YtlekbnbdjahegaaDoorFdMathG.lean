/- The plain mathematics of package field: what is written is read; headers up to the document's numbers. -/
import Derived.Test.YtlekbnbdjahegaaDoorFdMathB
namespace Fld
open Oct (token value lower trim)

theorem right_tok {f : F} (h : right f = true) : token f.1 = true ∧ value f.2 = true := by
  unfold right at h; simpa using h
theorem tch_not (c : UInt8) (h : Oct.tch c = true) : c ≠ 13 ∧ c ≠ 58 := by
  have := Oct.all_octets (fun c => !Oct.tch c || (c != 13 && c != 58)) (by decide +kernel) c
  rw [h] at this
  simpa using this
theorem plain_not (c : UInt8) (h : Oct.plain c = true) : c ≠ 13 := by
  have := Oct.all_octets (fun c => !Oct.plain c || c != 13) (by decide +kernel) c
  rw [h] at this
  simpa using this
theorem value_all {v : List UInt8} (h : value v = true) : (∀ c ∈ v, Oct.plain c = true) ∧ trim v = v := by
  unfold value at h
  simp only [Bool.and_eq_true, List.all_eq_true, beq_iff_eq] at h
  exact h
/-- The octets of a line ahead of its end. -/
def body (f : F) : List UInt8 := f.1 ++ [58, 32] ++ f.2
theorem line_body (f : F) : line f = body f ++ [13, 10] := rfl
theorem body_no {f : F} (h : right f = true) : ∀ c ∈ body f, c ≠ 13 := by
  obtain ⟨h1, h2⟩ := right_tok h
  obtain ⟨h2, _⟩ := value_all h2
  intro c hc
  unfold body at hc
  simp only [List.mem_append, List.mem_cons, List.not_mem_nil, or_false] at hc
  rcases hc with (hc | rfl | rfl) | hc
  · exact (tch_not c ((Oct.token_all _ h1).2 c hc)).1
  · decide
  · decide
  · exact plain_not c (h2 c hc)
theorem body_length (f : F) : (body f).length + 2 = weight f := by unfold body weight; simp; omega
theorem crlf_body : ∀ (b r : List UInt8), (∀ c ∈ b, c ≠ 13) → crlf (b ++ 13 :: 10 :: r) = some b.length
  | [], r, _ => rfl
  | c :: b, r, h => by
    show crlf (c :: (b ++ 13 :: 10 :: r)) = _
    unfold crlf
    rw [if_neg (fun e => h c (by simp) e.1), crlf_body b r (fun d hd => h d (List.mem_cons_of_mem _ hd))]
    rfl
theorem endAt_body (p b r : List UInt8) (h : ∀ c ∈ b, c ≠ 13) : endAt (p ++ (b ++ 13 :: 10 :: r)) p.length = some (p.length + b.length) := by
  unfold endAt
  rw [List.drop_left, crlf_body b r h]; rfl
theorem colon_body {f : F} (h : right f = true) : colon (body f) = f.1.length := by
  have key : ∀ (n r : List UInt8), (∀ c ∈ n, c ≠ 58) → colon (n ++ 58 :: r) = n.length := by
    intro n r
    induction n with
    | nil => intro _; rfl
    | cons c n ih =>
      intro hn
      show colon (c :: (n ++ 58 :: r)) = _
      unfold colon
      rw [if_neg (hn c (by simp)), ih (fun d hd => hn d (List.mem_cons_of_mem _ hd))]; rfl
  have e : body f = f.1 ++ 58 :: (32 :: f.2) := by unfold body; simp
  rw [e]
  exact key _ _ (fun c hc => (tch_not c ((Oct.token_all _ (right_tok h).1).2 c hc)).2)
theorem fieldOf_body {f : F} (h : right f = true) : fieldOf (body f) = some f := by
  have hc := colon_body h
  have hv := (value_all (right_tok h).2).2
  have e : cutField (body f) = f := by
    unfold cutField
    rw [hc]
    have e1 : (body f).take f.1.length = f.1 := by unfold body; rw [List.append_assoc, List.take_left]
    have e2 : (body f).drop (f.1.length + 1) = [32] ++ f.2 := by
      have : body f = (f.1 ++ [58]) ++ ([32] ++ f.2) := by unfold body; simp
      rw [this, show f.1.length + 1 = (f.1 ++ [58]).length by simp, List.drop_left]
    rw [e1, e2]
    have := Oct.trim_blanks [32] f.2 [] (by decide) (by decide)
    rw [List.append_nil] at this
    rw [this, hv]
  rw [fieldOf_yes (by rw [hc, ← body_length' f]; omega) (by rw [e]; exact h), e]
where
  body_length' (f : F) : f.1.length + 2 + f.2.length = (body f).length := by unfold body; simp; omega
/-- One line read. -/
theorem go_line (p r : List UInt8) {f : F} (h : right f = true) (k : Nat) (acc : List F) (hl : p.length + weight f ≤ 65536) (ha : acc.length < 128) :
    go (p ++ (line f ++ r)) (k + 1) p.length acc = go (p ++ (line f ++ r)) k (p.length + weight f) (acc ++ [f]) := by
  have e : p ++ (line f ++ r) = p ++ (body f ++ 13 :: 10 :: r) := by rw [line_body]; simp
  have hw := body_length f
  have he := endAt_body p (body f) r (body_no h)
  have hb : ((p ++ (body f ++ 13 :: 10 :: r)).take (p.length + (body f).length)).drop p.length = body f := by
    rw [List.take_length_add_append, List.drop_left, List.take_left]
  have hpos : 0 < (body f).length := by unfold body; simp; omega
  rw [e, go, he]
  simp only []
  rw [if_neg (by omega), if_neg (by omega), hb, fieldOf_body h]
  simp only []
  rw [if_neg (by omega), show p.length + (body f).length + 2 = p.length + weight f by omega]
theorem go_many (p r : List UInt8) {f : F} (h : right f = true) (k : Nat) (acc : List F) (hl : p.length + weight f ≤ 65536) (ha : 128 ≤ acc.length) :
    go (p ++ (line f ++ r)) (k + 1) p.length acc = ([], 0, 13) := by
  have e : p ++ (line f ++ r) = p ++ (body f ++ 13 :: 10 :: r) := by rw [line_body]; simp
  have hw := body_length f
  have he := endAt_body p (body f) r (body_no h)
  have hb : ((p ++ (body f ++ 13 :: 10 :: r)).take (p.length + (body f).length)).drop p.length = body f := by
    rw [List.take_length_add_append, List.drop_left, List.take_left]
  have hpos : 0 < (body f).length := by unfold body; simp; omega
  rw [e, go, he]
  simp only []
  rw [if_neg (by omega), if_neg (by omega), hb, fieldOf_body h]
  simp only []
  rw [if_pos ha]
theorem go_long (p r : List UInt8) {f : F} (h : right f = true) (k : Nat) (acc : List F) (hl : 65536 < p.length + weight f) :
    go (p ++ (line f ++ r)) (k + 1) p.length acc = ([], 0, 12) := by
  have e : p ++ (line f ++ r) = p ++ (body f ++ 13 :: 10 :: r) := by rw [line_body]; simp
  have hw := body_length f
  rw [e, go, endAt_body p (body f) r (body_no h)]
  simp only []
  rw [if_pos (by omega)]
theorem go_end (p r : List UInt8) (k : Nat) (acc : List F) (hl : p.length + 2 ≤ 65536) : go (p ++ (13 :: 10 :: r)) (k + 1) p.length acc = (acc, p.length + 2, 0) := by
  have he := endAt_body p [] r (fun c hc => by cases hc)
  rw [List.nil_append, List.length_nil, Nat.add_zero] at he
  rw [go, he]
  simp only []
  rw [if_neg (by omega), if_pos trivial]
theorem go_end_long (p r : List UInt8) (k : Nat) (acc : List F) (hl : 65536 < p.length + 2) : go (p ++ (13 :: 10 :: r)) (k + 1) p.length acc = ([], 0, 12) := by
  have he := endAt_body p [] r (fun c hc => by cases hc)
  rw [List.nil_append, List.length_nil, Nat.add_zero] at he
  rw [go, he]
  simp only []
  rw [if_pos (by omega)]
/-- Right lines, and what comes behind. -/
theorem go_lines (r : List UInt8) : ∀ (fs : List F) (p : List UInt8) (k : Nat) (acc : List F), allRight fs = true → p.length + (fs.map weight).sum ≤ 65536 → acc.length + fs.length ≤ 128 →
    go (p ++ (lines fs ++ r)) (k + fs.length) p.length acc = go (p ++ (lines fs ++ r)) k (p.length + (fs.map weight).sum) (acc ++ fs)
  | [], p, k, acc, _, _, _ => by simp
  | f :: fs, p, k, acc, h, hs, ha => by
    have hr : right f = true ∧ allRight fs = true := by unfold allRight at h ⊢; simpa using h
    simp only [List.map_cons, List.sum_cons] at hs
    simp only [List.length_cons] at ha
    have e : p ++ (lines (f :: fs) ++ r) = p ++ (line f ++ (lines fs ++ r)) := by unfold lines; simp
    have e2 : p ++ (line f ++ (lines fs ++ r)) = (p ++ line f) ++ (lines fs ++ r) := by simp
    have e3 : (p ++ line f).length = p.length + weight f := by rw [List.length_append, line_length]
    rw [e, List.length_cons, ← Nat.add_assoc, go_line p _ hr.1 _ acc (by omega) (by omega), e2, ← e3, go_lines r fs (p ++ line f) k (acc ++ [f]) hr.2 (by rw [e3]; omega) (by rw [List.length_append]; simp; omega)]
    simp only [List.map_cons, List.sum_cons, e3, List.append_assoc, List.singleton_append, Nat.add_assoc]
theorem go_lines_many (r : List UInt8) : ∀ (fs : List F) (p : List UInt8) (k : Nat) (acc : List F), allRight fs = true → p.length + (fs.map weight).sum ≤ 65536 → acc.length ≤ 128 → 128 < acc.length + fs.length →
    go (p ++ (lines fs ++ r)) (k + fs.length) p.length acc = ([], 0, 13)
  | [], p, k, acc, _, _, h1, h2 => by simp at h2; omega
  | f :: fs, p, k, acc, h, hs, h1, h2 => by
    have hr : right f = true ∧ allRight fs = true := by unfold allRight at h ⊢; simpa using h
    simp only [List.map_cons, List.sum_cons] at hs
    simp only [List.length_cons] at h2
    have e : p ++ (lines (f :: fs) ++ r) = p ++ (line f ++ (lines fs ++ r)) := by unfold lines; simp
    rw [e, List.length_cons, ← Nat.add_assoc]
    by_cases ha : 128 ≤ acc.length
    · exact go_many p _ hr.1 _ acc (by omega) ha
    · have e2 : p ++ (line f ++ (lines fs ++ r)) = (p ++ line f) ++ (lines fs ++ r) := by simp
      have e3 : (p ++ line f).length = p.length + weight f := by rw [List.length_append, line_length]
      rw [go_line p _ hr.1 _ acc (by omega) (by omega), e2, ← e3]
      exact go_lines_many r fs (p ++ line f) k (acc ++ [f]) hr.2 (by rw [e3]; omega) (by rw [List.length_append]; simp; omega) (by rw [List.length_append]; simp; omega)
theorem sum_le (fs : List F) : fs.length ≤ (fs.map weight).sum := by
  induction fs with
  | nil => simp
  | cons f r ih => simp only [List.map_cons, List.sum_cons, List.length_cons]; unfold weight at *; omega
theorem lines_sum (fs : List F) : (lines fs).length = (fs.map weight).sum := by have := lines_length fs; unfold size at this; omega
/-- What is written is read, whatever stands behind. -/
theorem parse_print {fs : List F} (h : fault fs = 0) (t : List UInt8) : parse (print fs ++ t) = (fs, (print fs).length, 0) := by
  obtain ⟨h1, h2, h3⟩ := fault_zero h
  have hs := lines_sum fs
  have hsz : size fs = 2 + (fs.map weight).sum := rfl
  have e : print fs ++ t = [] ++ (lines fs ++ (13 :: 10 :: t)) := by unfold print; simp
  have hle := sum_le fs
  unfold parse
  rw [e]
  have hk : ∃ k, ([] ++ (lines fs ++ (13 :: 10 :: t)) : List UInt8).length + 1 = (k + 1) + fs.length := ⟨(lines fs).length + t.length + 2 - fs.length, by simp; omega⟩
  obtain ⟨k, hk⟩ := hk
  rw [hk]
  have := go_lines (13 :: 10 :: t) fs [] (k + 1) [] h1 (by simp; omega) (by simp; omega)
  rw [List.length_nil] at this
  rw [this, List.nil_append, List.nil_append, Nat.zero_add, ← hs]
  have := go_end (lines fs) t k fs (by omega)
  rw [this]
  unfold print; simp
theorem parse_many {fs : List F} (h : allRight fs = true) (hl : 128 < fs.length) (hs : (fs.map weight).sum ≤ 65536) (t : List UInt8) : parse (lines fs ++ t) = ([], 0, 13) := by
  have hle := sum_le fs
  have hls := lines_sum fs
  unfold parse
  obtain ⟨k, hk⟩ : ∃ k, (lines fs ++ t).length + 1 = k + fs.length := ⟨(lines fs ++ t).length + 1 - fs.length, by rw [List.length_append]; omega⟩
  rw [hk]
  have := go_lines_many t fs [] k [] h (by simp; omega) (by simp) (by simp; omega)
  rw [List.nil_append, List.length_nil] at this
  exact this
/-- One field that is too long. -/
theorem parse_long {f : F} (h : right f = true) (hs : 65536 < weight f + 2) : parse (line f ++ [13, 10]) = ([], 0, 12) := by
  unfold parse
  have e : line f ++ [13, 10] = [] ++ (line f ++ [13, 10]) := rfl
  have hll : (line f ++ [13, 10]).length = weight f + 2 := by rw [List.length_append, line_length]; rfl
  rw [hll, show weight f + 2 + 1 = (weight f + 1 + 1) + 1 by omega, e]
  by_cases hw : weight f ≤ 65536
  · have := go_line [] [13, 10] h (weight f + 1 + 1) [] (by simp; omega) (by simp)
    rw [List.length_nil] at this
    rw [this]
    have e2 : ([] ++ (line f ++ [13, 10]) : List UInt8) = line f ++ 13 :: 10 :: [] := rfl
    have e3 : 0 + weight f = (line f).length := by rw [line_length]; omega
    rw [e2, e3]
    exact go_end_long (line f) [] _ _ (by rw [line_length]; omega)
  · have := go_long [] [13, 10] h (weight f + 1 + 1) [] (by simp; omega)
    rw [List.length_nil] at this
    exact this
/-- No line's end. -/
theorem parse_none {b : List UInt8} (h : ∀ c ∈ b, c ≠ 13) (hl : b.length ≤ 65536) : parse b = ([], 0, 11) := by
  have hn : endAt b 0 = none := endAt_none (fun j _ hc => by
    have := hc.1
    obtain ⟨hj, he⟩ := List.getElem?_eq_some_iff.1 this
    exact h _ (List.getElem_mem hj) he)
  unfold parse
  rw [go, hn]
  simp only []
  rw [if_neg (by omega)]
end Fld
