/- The plain mathematics of package octet: lists, cut at commas. -/
import Derived.Test.YtljpidpddlgkpaaDoorOctMathD
namespace Oct

def emit (l : List UInt8) : List (List UInt8) := if trim l = [] then [] else [trim l]
theorem emit_no {l : List UInt8} (h : trim l = []) : emit l = [] := by unfold emit; rw [if_pos h]
theorem emit_yes {l : List UInt8} (h : ¬ trim l = []) : emit l = [trim l] := by unfold emit; rw [if_neg h]

/-- Within quotation marks? Does the next octet count for nothing? Behind one octet. -/
def nq (q e : Bool) (c : UInt8) : Bool × Bool := if e then (q, false) else if q && c == 92 then (q, true) else if c == 34 then (!q, false) else (q, false)

theorem u8_eq {c : UInt8} {n : UInt8} (h : (c.toNat : Int) = n.toNat) : c = n := UInt8.toNat_inj.1 (by omega)
theorem nq_esc (q : Bool) (c : UInt8) : nq q true c = (q, false) := rfl
theorem nq_quote (q : Bool) (c : UInt8) (h : (c.toNat : Int) = 34) : nq q false c = (!q, false) := by
  rw [u8_eq (n := 34) h]; cases q <;> rfl
theorem nq_mark (c : UInt8) (h : (c.toNat : Int) = 92) : nq true false c = (true, true) := by
  rw [u8_eq (n := 92) h]; rfl
theorem nq_out (c : UInt8) (h : ¬ (c.toNat : Int) = 34) : nq false false c = (false, false) := by
  have : (c == 34) = false := beq_eq_false_iff_ne.2 (fun e => h (by rw [e]; rfl))
  simp [nq, this]
theorem nq_else (q : Bool) (c : UInt8) (h : ¬ (c.toNat : Int) = 34) (h2 : ¬ (c.toNat : Int) = 92) : nq q false c = (q, false) := by
  have h1 : (c == 34) = false := beq_eq_false_iff_ne.2 (fun e => h (by rw [e]; rfl))
  have h3 : (c == 92) = false := beq_eq_false_iff_ne.2 (fun e => h2 (by rw [e]; rfl))
  simp [nq, h1, h3]

/-- What a text's octets have come to: the pieces, the piece that is begun, within marks, escaped. -/
def scan1 (st : List (List UInt8) × List UInt8 × Bool × Bool) (c : UInt8) : List (List UInt8) × List UInt8 × Bool × Bool :=
  if (nq st.2.2.1 st.2.2.2 c).1 = false ∧ c = 44 then (st.1 ++ emit st.2.1, [], nq st.2.2.1 st.2.2.2 c) else (st.1, st.2.1 ++ [c], nq st.2.2.1 st.2.2.2 c)
def scan (l : List UInt8) : List (List UInt8) × List UInt8 × Bool × Bool := l.foldl scan1 ([], [], false, false)
def splitText (l : List UInt8) : List (List UInt8) := (scan l).1 ++ emit (scan l).2.1
def splitAll (ls : List (List UInt8)) : List (List UInt8) := ls.flatMap splitText

theorem scan_snoc (s : ByteArray) (k : Nat) (h : k < s.size) : scan (s.data.toList.take (k + 1)) = scan1 (scan (s.data.toList.take k)) s[k] := by
  unfold scan; rw [take_snoc s k h, List.foldl_append]; rfl
/-- The state behind k octets, the piece begun at place f. -/
def At (s : ByteArray) (f k : Nat) (out : List (List UInt8)) (q e : Bool) : Prop := f ≤ k ∧ scan (s.data.toList.take k) = (out, (s.data.toList.take k).drop f, q, e)
theorem At.zero (s : ByteArray) : At s 0 0 [] false false := ⟨Nat.le_refl 0, rfl⟩
theorem drop_snoc (s : ByteArray) (f k : Nat) (hf : f ≤ k) (h : k < s.size) : (s.data.toList.take (k + 1)).drop f = (s.data.toList.take k).drop f ++ [s[k]] := by
  rw [take_snoc s k h, List.drop_append_of_le_length]
  rw [List.length_take, length_size]; omega
theorem drop_self (s : ByteArray) (k : Nat) : (s.data.toList.take k).drop k = [] := List.drop_of_length_le (List.length_take_le k _)
theorem At.cut {s : ByteArray} {f k : Nat} {out : List (List UInt8)} {q e : Bool} (h : At s f k out q e) (hk : k < s.size) (hq : (nq q e s[k]).1 = false) (hc : s[k] = 44) : At s (k + 1) (k + 1) (out ++ emit ((s.data.toList.take k).drop f)) (nq q e s[k]).1 (nq q e s[k]).2 := by
  refine ⟨Nat.le_refl _, ?_⟩
  rw [scan_snoc s k hk, h.2, drop_self]
  unfold scan1
  rw [if_pos ⟨hq, hc⟩]
theorem At.on {s : ByteArray} {f k : Nat} {out : List (List UInt8)} {q e : Bool} (h : At s f k out q e) (hk : k < s.size) (hq : ¬ ((nq q e s[k]).1 = false ∧ s[k] = 44)) : At s f (k + 1) out (nq q e s[k]).1 (nq q e s[k]).2 := by
  refine ⟨Nat.le_succ_of_le h.1, ?_⟩
  rw [scan_snoc s k hk, h.2, drop_snoc s f k h.1 hk]
  unfold scan1
  rw [if_neg hq]
theorem At.done {s : ByteArray} {f : Nat} {out : List (List UInt8)} {q e : Bool} (h : At s f s.size out q e) : splitText s.data.toList = out ++ emit (s.data.toList.drop f) := by
  have h2 := h.2
  rw [take_all s s.size (Nat.le_refl _)] at h2
  unfold splitText; rw [h2]

/-- How many pieces there are at most. -/
theorem emit_len (l : List UInt8) : (emit l).length ≤ 1 := by unfold emit; split <;> simp
theorem scan_len : ∀ (l : List UInt8) (st : List (List UInt8) × List UInt8 × Bool × Bool), (l.foldl scan1 st).1.length ≤ st.1.length + l.length
  | [], st => by simp
  | c :: l, st => by
    have h := scan_len l (scan1 st c)
    have h1 : (scan1 st c).1.length ≤ st.1.length + 1 := by
      unfold scan1
      split
      · have := emit_len st.2.1; simp; omega
      · simp
    simp only [List.foldl_cons, List.length_cons]; omega
theorem At.len {s : ByteArray} {f k : Nat} {out : List (List UInt8)} {q e : Bool} (h : At s f k out q e) : out.length ≤ k := by
  have h1 := scan_len (s.data.toList.take k) ([], [], false, false)
  have h2 := h.2
  unfold scan at h2
  rw [h2] at h1
  have := List.length_take_le k s.data.toList
  simp only [List.length_nil] at h1; omega
theorem splitText_len (l : List UInt8) : (splitText l).length ≤ l.length + 1 := by
  have h1 := scan_len l ([], [], false, false)
  have h2 := emit_len (scan l).2.1
  unfold splitText
  rw [List.length_append]
  unfold scan at h2 ⊢
  simp only [List.length_nil] at h1; omega
theorem splitAll_len (ls : List (List UInt8)) (h : ∀ l ∈ ls, l.length ≤ 1000000) : (splitAll ls).length ≤ 1000001 * ls.length := by
  induction ls with
  | nil => simp [splitAll]
  | cons l ls ih =>
    have h1 := splitText_len l
    have h2 := h l (by simp)
    have h3 := ih (fun l' hl' => h l' (by simp [hl']))
    have e : splitAll (l :: ls) = splitText l ++ splitAll ls := by simp [splitAll]
    rw [e, List.length_append, List.length_cons]; omega
theorem splitAll_snoc (ls : List (List UInt8)) (k : Nat) (h : k < ls.length) : splitAll (ls.take (k + 1)) = splitAll (ls.take k) ++ splitText ls[k] := by
  have e := List.take_succ_eq_append_getElem h
  unfold splitAll
  rw [e, List.flatMap_append, List.flatMap_cons, List.flatMap_nil, List.append_nil]

end Oct
