/- The plain mathematics of package message: framing, what is right, how it is written, what is told; what is written is read. -/
import Derived.Test.YtlbjjeonchcgbaaGreatDoorCkMathC
namespace Ms
abbrev L := List UInt8

structure M where
  start : St.S
  fields : List Fld.F
  body : L
deriving DecidableEq
def zero : M := ⟨St.zero, [], []⟩
def kTE : L := [84, 114, 97, 110, 115, 102, 101, 114, 45, 69, 110, 99, 111, 100, 105, 110, 103]
def kCL : L := [67, 111, 110, 116, 101, 110, 116, 45, 76, 101, 110, 103, 116, 104]
def kHead : L := [72, 69, 65, 68]
def kChunked : L := [99, 104, 117, 110, 107, 101, 100]

/-- A response of which the body is none, whatever its fields. -/
def bare (st : Int) (method : L) : Bool := decide (st ≠ 0) && (decide (method = kHead) || decide (st < 200) || decide (st = 204) || decide (st = 304))
/-- What the values of content-length say. -/
def sized (cl : List L) : Int × Int × Int := match Oct.splitAll cl with
  | [] => (0, 0, 10)
  | a :: r => if r.any (fun x => decide (x ≠ a)) = true then (0, 0, 10) else if (Oct.number 10 1048576 a).2 ≠ 0 then (0, 0, (Oct.number 10 1048576 a).2) else (1, (Oct.number 10 1048576 a).1, 0)
/-- Do the values of transfer-encoding say chunked, and it alone? -/
def chunkedB (te : List L) : Bool := match Oct.splitAll te with
  | [a] => decide (Oct.lower a = kChunked)
  | _ => false
/-- The kind, the length, the error. -/
def framing (st minor : Int) (te cl : List L) (method : L) : Int × Int × Int :=
  if bare st method = true then (0, 0, 0)
  else if te ≠ [] then (if minor = 0 ∨ cl ≠ [] ∨ chunkedB te = false then (0, 0, 10) else (2, 0, 0))
  else if cl ≠ [] then sized cl
  else if st = 0 then (0, 0, 0) else (0, 0, 10)
def framed (s : St.S) (fs : List Fld.F) (method : L) : Int × Int × Int := framing s.status s.minor (Fld.get fs kTE) (Fld.get fs kCL) method
def kind (m : M) (method : L) : Int := (framed m.start m.fields method).1
def right (m : M) (method : L) : Bool :=
  if (framed m.start m.fields method).2.2 ≠ 0 ∨ St.right m.start = false ∨ Fld.fault m.fields ≠ 0 then false
  else if (framed m.start m.fields method).1 = 2 then decide (m.body.length ≤ 1048576) else decide ((m.body.length : Int) = (framed m.start m.fields method).2.1)
def head (m : M) : L := St.text m.start ++ Fld.print m.fields
def print (m : M) (method : L) : L := head m ++ (if kind m method = 2 then Ck.encode [m.body] else m.body)

theorem framing_kinds (st minor : Int) (te cl : List L) (method : L) : (framing st minor te cl method).1 = 0 ∧ (framing st minor te cl method).2.1 = 0 ∨ ((framing st minor te cl method).1 = 1 ∧ (framing st minor te cl method).2.2 = 0 ∧ 0 ≤ (framing st minor te cl method).2.1 ∧ (framing st minor te cl method).2.1 ≤ 1048576) ∨ (framing st minor te cl method).1 = 2 ∧ (framing st minor te cl method).2.1 = 0 := by
  unfold framing
  by_cases h1 : bare st method = true
  · rw [if_pos h1]; exact .inl ⟨rfl, rfl⟩
  · rw [if_neg h1]
    by_cases h2 : te ≠ []
    · rw [if_pos h2]
      split
      · exact .inl ⟨rfl, rfl⟩
      · exact .inr (.inr ⟨rfl, rfl⟩)
    · rw [if_neg h2]
      by_cases h3 : cl ≠ []
      · rw [if_pos h3]
        unfold sized
        split
        · exact .inl ⟨rfl, rfl⟩
        · rename_i a r _
          split
          · exact .inl ⟨rfl, rfl⟩
          · split
            · exact .inl ⟨rfl, rfl⟩
            · rename_i hn
              refine .inr (.inl ⟨rfl, rfl, ?_⟩)
              exact number_le 10 (by decide) 1048576 (by decide) a
      · rw [if_neg h3]
        split
        · exact .inl ⟨rfl, rfl⟩
        · exact .inl ⟨rfl, rfl⟩
where
  num_le (b : Nat) (most : Int) : ∀ (l : L) (n : Int), 0 ≤ n → n ≤ most → ∀ v, Oct.num b most n l = some v → 0 ≤ v ∧ v ≤ most
    | [], n, h0, h1, v, h => by cases h; exact ⟨h0, h1⟩
    | c :: l, n, h0, h1, v, h => by
      by_cases hm : most < n * b + Oct.worth c
      · rw [Oct.num_more b most n c l hm] at h; cases h
      · rw [Oct.num_on b most n c l hm] at h
        exact num_le b most l _ (Int.add_nonneg (Int.mul_nonneg h0 (Int.natCast_nonneg b)) (Int.natCast_nonneg _)) (by omega) v h
  number_le (b : Nat) (_hb : 2 ≤ b) (most : Int) (h0 : 0 ≤ most) (a : L) : 0 ≤ (Oct.number b most a).1 ∧ (Oct.number b most a).1 ≤ most := by
    unfold Oct.number
    split
    · exact ⟨Int.le_refl _, h0⟩
    · split
      · exact ⟨Int.le_refl _, h0⟩
      · split
        · exact ⟨Int.le_refl _, h0⟩
        · rename_i n hn
          exact num_le b most a 0 (Int.le_refl _) h0 n hn

/-! What is told of octets so far. -/
/-- Behind the header: the body as far as it is there, how much of it was taken, is it whole, the error. -/
def bodyTold (k : Int) (n : Nat) (b : L) : L × Nat × Bool × Int :=
  if k = 2 then Ck.told b else (b.take n, (b.take n).length, decide ((b.take n).length = n), 0)
def line (asks : Bool) (b : L) : St.S × Int × Int := if asks then St.request b else St.response b
def told (b : L) (asks : Bool) (method : L) : M × Bool × Nat × Bool × Int :=
  if (line asks b).2.2 = 11 then (zero, false, 0, false, 0)
  else if (line asks b).2.2 ≠ 0 then (zero, false, 0, false, (line asks b).2.2)
  else if (Fld.parse (b.drop (line asks b).2.1.toNat)).2.2 = 11 then (zero, false, (line asks b).2.1.toNat, false, 0)
  else if (Fld.parse (b.drop (line asks b).2.1.toNat)).2.2 ≠ 0 then (zero, false, 0, false, (Fld.parse (b.drop (line asks b).2.1.toNat)).2.2)
  else if (framed (line asks b).1 (Fld.parse (b.drop (line asks b).2.1.toNat)).1 method).2.2 ≠ 0 then (zero, false, 0, false, (framed (line asks b).1 (Fld.parse (b.drop (line asks b).2.1.toNat)).1 method).2.2)
  else
    if (bodyTold (framed (line asks b).1 (Fld.parse (b.drop (line asks b).2.1.toNat)).1 method).1 (framed (line asks b).1 (Fld.parse (b.drop (line asks b).2.1.toNat)).1 method).2.1.toNat (b.drop ((line asks b).2.1.toNat + (Fld.parse (b.drop (line asks b).2.1.toNat)).2.1))).2.2.2 ≠ 0
    then (zero, false, 0, false, (bodyTold (framed (line asks b).1 (Fld.parse (b.drop (line asks b).2.1.toNat)).1 method).1 (framed (line asks b).1 (Fld.parse (b.drop (line asks b).2.1.toNat)).1 method).2.1.toNat (b.drop ((line asks b).2.1.toNat + (Fld.parse (b.drop (line asks b).2.1.toNat)).2.1))).2.2.2)
    else (⟨(line asks b).1, (Fld.parse (b.drop (line asks b).2.1.toNat)).1, (bodyTold (framed (line asks b).1 (Fld.parse (b.drop (line asks b).2.1.toNat)).1 method).1 (framed (line asks b).1 (Fld.parse (b.drop (line asks b).2.1.toNat)).1 method).2.1.toNat (b.drop ((line asks b).2.1.toNat + (Fld.parse (b.drop (line asks b).2.1.toNat)).2.1))).1⟩, true,
      (line asks b).2.1.toNat + (Fld.parse (b.drop (line asks b).2.1.toNat)).2.1 + (bodyTold (framed (line asks b).1 (Fld.parse (b.drop (line asks b).2.1.toNat)).1 method).1 (framed (line asks b).1 (Fld.parse (b.drop (line asks b).2.1.toNat)).1 method).2.1.toNat (b.drop ((line asks b).2.1.toNat + (Fld.parse (b.drop (line asks b).2.1.toNat)).2.1))).2.1,
      (bodyTold (framed (line asks b).1 (Fld.parse (b.drop (line asks b).2.1.toNat)).1 method).1 (framed (line asks b).1 (Fld.parse (b.drop (line asks b).2.1.toNat)).1 method).2.1.toNat (b.drop ((line asks b).2.1.toNat + (Fld.parse (b.drop (line asks b).2.1.toNat)).2.1))).2.2.1, 0)
section
variable {b : L} {asks : Bool} {method : L}
theorem told_more (h : (line asks b).2.2 = 11) : told b asks method = (zero, false, 0, false, 0) := by unfold told; rw [if_pos h]
theorem told_bad {e : Int} (h : (line asks b).2.2 = e) (h0 : e ≠ 0) (h1 : e ≠ 11) : told b asks method = (zero, false, 0, false, e) := by
  subst h; unfold told; rw [if_neg h1, if_pos h0]
theorem told_wait {s : St.S} {n : Nat} (hl : line asks b = (s, (n : Int), 0)) (hp : (Fld.parse (b.drop n)).2.2 = 11) : told b asks method = (zero, false, n, false, 0) := by
  unfold told; rw [hl]; simp only [Int.toNat_natCast]; rw [if_neg (by decide), if_neg (by decide), if_pos hp]
theorem told_fault {s : St.S} {n : Nat} {e : Int} (hl : line asks b = (s, (n : Int), 0)) (hp : (Fld.parse (b.drop n)).2.2 = e) (h0 : e ≠ 0) (h1 : e ≠ 11) : told b asks method = (zero, false, 0, false, e) := by
  subst hp; unfold told; rw [hl]; simp only [Int.toNat_natCast]; rw [if_neg (by decide), if_neg (by decide), if_neg h1, if_pos h0]
theorem told_frame {s : St.S} {n : Nat} {fs : List Fld.F} {k : Nat} {e : Int} (hl : line asks b = (s, (n : Int), 0)) (hp : Fld.parse (b.drop n) = (fs, k, 0)) (he : (framed s fs method).2.2 = e) (h0 : e ≠ 0) : told b asks method = (zero, false, 0, false, e) := by
  subst he; unfold told; rw [hl]; simp only [Int.toNat_natCast]; rw [hp]; simp only []; rw [if_neg (by decide), if_neg (by decide), if_neg (by decide), if_neg (by decide), if_pos h0]
theorem told_body {s : St.S} {n : Nat} {fs : List Fld.F} {k : Nat} {kd : Int} {sz : Int} {x : L} {t : Nat} {d : Bool} (hl : line asks b = (s, (n : Int), 0)) (hp : Fld.parse (b.drop n) = (fs, k, 0)) (hf : framed s fs method = (kd, sz, 0))
    (hb : bodyTold kd sz.toNat (b.drop (n + k)) = (x, t, d, 0)) : told b asks method = (⟨s, fs, x⟩, true, n + k + t, d, 0) := by
  unfold told; rw [hl]; simp only [Int.toNat_natCast]; rw [hp]; simp only []; rw [hf]; simp only []; rw [hb]
  rfl
theorem told_bodyBad {s : St.S} {n : Nat} {fs : List Fld.F} {k : Nat} {kd : Int} {sz : Int} {e : Int} (hl : line asks b = (s, (n : Int), 0)) (hp : Fld.parse (b.drop n) = (fs, k, 0)) (hf : framed s fs method = (kd, sz, 0))
    (hb : (bodyTold kd sz.toNat (b.drop (n + k))).2.2.2 = e) (h0 : e ≠ 0) : told b asks method = (zero, false, 0, false, e) := by
  subst hb; unfold told; rw [hl]; simp only [Int.toNat_natCast]; rw [hp]; simp only []; rw [hf]; simp only []
  rw [if_neg (by decide), if_neg (by decide), if_neg (by decide), if_neg (by decide), if_neg (by decide), if_pos h0]
end
/-- What Parse answers. -/
def parse (b : L) (asks : Bool) (method : L) : M × Nat × Int :=
  if (told b asks method).2.2.2.2 ≠ 0 then (zero, 0, (told b asks method).2.2.2.2)
  else if (told b asks method).2.2.2.1 = true then ((told b asks method).1, (told b asks method).2.2.1, 0) else (zero, 0, 11)
theorem parse_of {b : L} {asks : Bool} {method : L} {m : M} {f : Bool} {n : Nat} (h : told b asks method = (m, f, n, true, 0)) : parse b asks method = (m, n, 0) := by
  unfold parse; rw [h]; rfl

/-! What is written is read. -/
theorem right_parts {m : M} {method : L} (h : right m method = true) : (framed m.start m.fields method).2.2 = 0 ∧ St.right m.start = true ∧ Fld.fault m.fields = 0 ∧
    (if (framed m.start m.fields method).1 = 2 then m.body.length ≤ 1048576 else (m.body.length : Int) = (framed m.start m.fields method).2.1) := by
  unfold right at h
  by_cases h1 : (framed m.start m.fields method).2.2 ≠ 0 ∨ St.right m.start = false ∨ Fld.fault m.fields ≠ 0
  · rw [if_pos h1] at h; cases h
  · rw [if_neg h1] at h
    refine ⟨Decidable.of_not_not (fun e => h1 (.inl e)), ?_, Decidable.of_not_not (fun e => h1 (.inr (.inr e))), ?_⟩
    · cases hr : St.right m.start with
      | true => rfl
      | false => exact absurd (.inr (.inl hr)) h1
    · split at h
      · rename_i h2; rw [if_pos h2]; simpa using h
      · rename_i h2; rw [if_neg h2]; simpa using h
theorem line_text {s : St.S} (hr : St.right s = true) (tail : L) : line (decide (s.status = 0)) (St.text s ++ tail) = (s, ((St.text s).length : Int), 0) := by
  unfold line
  by_cases h0 : s.status = 0
  · rw [decide_eq_true h0, if_pos rfl]; exact St.request_text hr h0 tail
  · rw [decide_eq_false h0]
    exact St.response_text hr h0 tail
/-- A right head, and what stands behind it. -/
theorem told_head {s : St.S} {fs : List Fld.F} {method : L} {kd sz : Int} {x : L} {t : Nat} {d : Bool} (hr : St.right s = true) (hf : Fld.fault fs = 0) (hk : framed s fs method = (kd, sz, 0)) (b : L) (hb : bodyTold kd sz.toNat b = (x, t, d, 0)) :
    told (St.text s ++ Fld.print fs ++ b) (decide (s.status = 0)) method = (⟨s, fs, x⟩, true, (St.text s ++ Fld.print fs).length + t, d, 0) := by
  have hl := line_text hr (Fld.print fs ++ b)
  rw [← List.append_assoc] at hl
  have hd : (St.text s ++ Fld.print fs ++ b).drop (St.text s).length = Fld.print fs ++ b := by rw [List.append_assoc, List.drop_left]
  have hp : Fld.parse ((St.text s ++ Fld.print fs ++ b).drop (St.text s).length) = (fs, (Fld.print fs).length, 0) := by rw [hd]; exact Fld.parse_print hf b
  have hd2 : (St.text s ++ Fld.print fs ++ b).drop ((St.text s).length + (Fld.print fs).length) = b := by
    rw [← List.length_append, List.drop_left]
  have := told_body (method := method) hl hp hk (by rw [hd2]; exact hb)
  rw [this, List.length_append]
theorem told_print {m : M} {method : L} (h : right m method = true) (tail : L) : told (print m method ++ tail) (decide (m.start.status = 0)) method = (m, true, (print m method).length, true, 0) := by
  obtain ⟨h1, h2, h3, h4⟩ := right_parts h
  obtain ⟨⟨kd, sz, e⟩, hk⟩ : ∃ x, framed m.start m.fields method = x := ⟨_, rfl⟩
  rw [hk] at h1 h4
  have h1 : e = 0 := h1
  subst h1
  unfold print kind head
  rw [hk]
  simp only [] at h4 ⊢
  by_cases h5 : kd = 2
  · rw [if_pos h5] at h4 ⊢
    have hb : bodyTold kd sz.toNat (Ck.encode [m.body] ++ tail) = (m.body, (Ck.encode [m.body]).length, true, 0) := by
      unfold bodyTold
      rw [if_pos h5, Ck.told_encode [m.body] tail (by simpa using h4)]
      simp
    have := told_head h2 h3 hk _ hb
    rw [List.append_assoc _ _ tail, this]
    simp only [List.length_append]
  · rw [if_neg h5] at h4 ⊢
    have hsz : sz.toNat = m.body.length := by omega
    have hb : bodyTold kd sz.toNat (m.body ++ tail) = (m.body, m.body.length, true, 0) := by
      unfold bodyTold
      rw [if_neg h5, hsz, List.take_left]
      simp
    have := told_head h2 h3 hk _ hb
    rw [List.append_assoc _ _ tail, this]
    simp only [List.length_append]
theorem parse_print {m : M} {method : L} (h : right m method = true) (tail : L) : parse (print m method ++ tail) (decide (m.start.status = 0)) method = (m, (print m method).length, 0) := parse_of (told_print h tail)

/-! In whichever chunks; without a body. -/
theorem told_chunks (ls : List Ck.L) (h : ls.flatten.length ≤ 1048576) : Ck.told (ls.flatMap Ck.chunkOf ++ [48, 13, 10, 120, 58, 32, 121, 13, 10, 13, 10]) = (ls.flatten, (ls.flatMap Ck.chunkOf).length + 11, true, 0) := by
  have e : ls.flatMap Ck.chunkOf ++ [48, 13, 10, 120, 58, 32, 121, 13, 10, 13, 10] = ls.flatMap Ck.chunkOf ++ ([48] ++ 13 :: 10 :: ([120, 58, 32, 121] ++ 13 :: 10 :: (13 :: 10 :: []))) := rfl
  unfold Ck.told
  rw [e, Ck.go_chunks ls 0 _ (by omega), Ck.go_last (by decide) (by decide) (by decide +kernel), Ck.go_line (by decide) (by decide) (by decide) Ck.field_xy (by decide), Ck.go_end]
  simp [Ck.sh, Ck.isOver]
theorem parse_chunks {m : M} {method : L} (h : right m method = true) (hk : kind m method = 2) (ls : List Ck.L) (hls : ls.flatten = m.body) :
    parse (head m ++ (ls.flatMap Ck.chunkOf ++ [48, 13, 10, 120, 58, 32, 121, 13, 10, 13, 10])) (decide (m.start.status = 0)) method = (m, (head m).length + (ls.flatMap Ck.chunkOf).length + 11, 0) := by
  obtain ⟨h1, h2, h3, h4⟩ := right_parts h
  obtain ⟨⟨kd, sz, e⟩, hf⟩ : ∃ x, framed m.start m.fields method = x := ⟨_, rfl⟩
  unfold kind at hk
  rw [hf] at h1 h4 hk
  have h1 : e = 0 := h1
  have hk : kd = 2 := hk
  subst h1 hk
  simp only [] at h4
  rw [if_pos trivial] at h4
  have hb : bodyTold 2 sz.toNat (ls.flatMap Ck.chunkOf ++ [48, 13, 10, 120, 58, 32, 121, 13, 10, 13, 10]) = (m.body, (ls.flatMap Ck.chunkOf).length + 11, true, 0) := by
    unfold bodyTold
    rw [if_pos rfl, told_chunks ls (by rw [hls]; exact h4), hls]
  have := parse_of (told_head h2 h3 hf _ hb)
  unfold head
  rw [this, Nat.add_assoc]
theorem bare_framed {s : St.S} {fs : List Fld.F} {method : L} (h : bare s.status method = true) : framed s fs method = (0, 0, 0) := by unfold framed framing; rw [if_pos h]
end Ms
