/- The plain mathematics of package chunk: the whole body; extensions and noughts ahead; octet by octet; as much as may be. -/
import Derived.Test.YtlbjjeonchcgbaaGreatDoorCkMathB
namespace Ck

/-- All octets of the body, how many octets it has, the error. -/
def decode (b : L) : L × Nat × Int :=
  if (told b).2.2.2 ≠ 0 then ([], 0, (told b).2.2.2) else if (told b).2.2.1 = true then ((told b).1, (told b).2.1, 0) else ([], 0, 11)
theorem decode_encode (ls : List L) (tail : L) (h : ls.flatten.length ≤ 1048576) : decode (encode ls ++ tail) = (ls.flatten, (encode ls).length, 0) := by
  unfold decode; rw [told_encode ls tail h]; rfl

/-! With noughts ahead, and extensions. -/
def ext5 : L := [32, 59, 120, 61, 34, 121, 34]
def oddLine (z : Nat) (p : L) : L := List.replicate z 48 ++ (Oct.print p.length 16 ++ ext5)
def oddOf (z : Nat) (p : L) : L := if p = [] then [] else oddLine z p ++ [13, 10] ++ p ++ [13, 10]
def oddEnd : L := [48, 48, 48, 59, 97, 13, 10, 120, 58, 32, 121, 13, 10, 13, 10]
def odd (z : Nat) (ls : List L) : L := ls.flatMap (oddOf z) ++ oddEnd
theorem oddLine_no (z : Nat) (p : L) : ∀ c ∈ oddLine z p, c ≠ 10 := by
  intro c hc
  rcases List.mem_append.1 hc with h | h
  · rw [(List.mem_replicate.1 h).2]; decide
  · rcases List.mem_append.1 h with h | h
    · exact hex_no _ c h
    · have : ∀ c ∈ ext5, c ≠ 10 := by decide
      exact this c h
theorem go_odd (z : Nat) (hz : z ≤ 4) : ∀ (ls : List L) (t : Nat) (rest : L), (∀ p ∈ ls, p.length ≤ 500) → t + ls.flatten.length ≤ 1048576 → go (.size t) (ls.flatMap (oddOf z) ++ rest) = sh ls.flatten (ls.flatMap (oddOf z)).length (go (.size (t + ls.flatten.length)) rest)
  | [], t, rest, _, _ => by
    show go (.size t) rest = sh [] 0 (go (.size t) rest)
    rw [sh_none]
  | p :: ls, t, rest, hp, h => by
    rw [List.flatten_cons, List.length_append] at h
    rw [List.flatMap_cons, List.flatten_cons]
    have hp' : ∀ q ∈ ls, q.length ≤ 500 := fun q hq => hp q (by simp [hq])
    by_cases h0 : p = []
    · subst h0
      have := go_odd z hz ls t rest hp' (by simpa using h)
      simpa [oddOf] using this
    · have h5 := hp p (by simp)
      have h3 : (Oct.print p.length 16).length ≤ 3 := hex_len 2 p.length (by omega)
      have e : oddOf z p ++ ls.flatMap (oddOf z) ++ rest = oddLine z p ++ 13 :: 10 :: (p ++ 13 :: 10 :: (ls.flatMap (oddOf z) ++ rest)) := by
        unfold oddOf; rw [if_neg h0]; simp
      have hl : (oddLine z p).length ≤ 254 := by unfold oddLine ext5; simp; omega
      have hs : sizeOf (oddLine z p) = (p.length : Int) := sizeOf_hex z p.length ext5 (by omega) (by omega) (by decide) (by decide)
      rw [e, go_chunk (oddLine_no z p) hl hs h0 (by omega), go_odd z hz ls _ rest hp' (by omega), sh_sh]
      have el : (oddOf z p).length = (oddLine z p).length + 2 + p.length + 2 := by unfold oddOf; rw [if_neg h0]; simp; omega
      rw [List.length_append, List.length_append, el, Nat.add_assoc t]
theorem field_xy : fieldBad [120, 58, 32, 121] = false := by decide +kernel
theorem field_ab : fieldBad [97, 58, 32, 98] = false := by decide +kernel
theorem decode_odd (z : Nat) (hz : z ≤ 4) (ls : List L) (tail : L) (hp : ∀ p ∈ ls, p.length ≤ 500) (h : ls.flatten.length ≤ 1048576) : decode (odd z ls ++ tail) = (ls.flatten, (odd z ls).length, 0) := by
  have e : odd z ls ++ tail = ls.flatMap (oddOf z) ++ ([48, 48, 48, 59, 97] ++ 13 :: 10 :: ([120, 58, 32, 121] ++ 13 :: 10 :: (13 :: 10 :: tail))) := by unfold odd oddEnd; simp
  have hg : go (.size 0) (odd z ls ++ tail) = (ls.flatten, (odd z ls).length, .over, 0) := by
    rw [e, go_odd z hz ls 0 _ hp (by omega), go_last (by decide) (by decide) (by decide +kernel), go_line (by decide) (by decide) (by decide) field_xy (by decide), go_end, sh_sh, sh_sh]
    unfold sh odd oddEnd
    simp
  unfold decode told
  rw [hg]; rfl

/-! Octet by octet. -/
def singles (b : L) : List L := b.map fun c => [c]
theorem singles_flat : ∀ b : L, (singles b).flatten = b
  | [] => rfl
  | c :: t => by
    show [c] ++ (singles t).flatten = c :: t
    rw [singles_flat t]; rfl
theorem singles_snoc (b : L) (k : Nat) (hk : k < b.length) : singles (b.take (k + 1)) = singles (b.take k) ++ [[b[k]]] := by
  unfold singles
  rw [List.take_add_one, List.getElem?_eq_getElem hk, List.map_append]
  rfl
theorem singles_len : ∀ b : L, ((singles b).flatMap chunkOf).length = 6 * b.length
  | [] => rfl
  | c :: t => by
    show (chunkOf [c] ++ (singles t).flatMap chunkOf).length = _
    rw [List.length_append, singles_len t]
    have : (chunkOf [c]).length = 6 := by
      have e : Oct.print (([c] : L).length : Nat) 16 = [49] := (by decide +kernel : Oct.print (1 : Nat) 16 = [49])
      unfold chunkOf
      rw [if_neg (by simp), e]; rfl
    rw [this, List.length_cons]; omega
theorem encode_singles (b : L) : (encode (singles b)).length = 6 * b.length + 5 := by
  unfold encode
  rw [List.length_append, singles_len]; rfl

/-! As much as may be. -/
theorem decode_three {p q r : L} (hp : p.length + q.length + r.length ≤ 1048576) (tail : L) : (decode (encode [p, q, r] ++ tail)).2.2 = 0 := by
  rw [decode_encode [p, q, r] tail (by simp; omega)]
theorem decode_over {p q r : L} (hp : p.length + q.length ≤ 1048576) (hr : r ≠ []) (hr1 : r.length ≤ 1048576) (h : 1048576 < p.length + q.length + r.length) : (decode (encode [p, q, r])).2.2 = 12 := by
  have h0 : 0 < r.length := List.length_pos_iff.2 hr
  have e : encode [p, q, r] = [p, q].flatMap chunkOf ++ (Oct.print r.length 16 ++ 13 :: 10 :: (r ++ [13, 10] ++ [48, 13, 10, 13, 10])) := by
    unfold encode
    have : chunkOf r = Oct.print r.length 16 ++ [13, 10] ++ r ++ [13, 10] := by unfold chunkOf; rw [if_neg hr]
    simp [this]
  have hg : (go (.size 0) (encode [p, q, r])).2.2.2 = 12 := by
    rw [e, go_chunks [p, q] 0 _ (by simp; omega), go_long (hex_no _) (by have := hex_len8 (n := r.length) hr1; omega) (sizeOf_print hr1) h0 (by simp; omega)]
    rfl
  unfold decode told
  rw [hg]; rfl
def xs (n : Nat) : L := List.replicate n 120
theorem ext_xs (n : Nat) : ext (59 :: xs n) = true := by
  have : (59 :: xs n).dropWhile blank = 59 :: xs n := rfl
  unfold ext
  split
  · rfl
  · rename_i s hs
    rw [this]
    simp only [decide_true, Bool.true_and]
    unfold Oct.allOf xs
    rw [List.all_eq_true]
    intro c hc
    rw [(List.mem_replicate.1 hc).2]; decide
theorem sizeOf_xs (n : Nat) : sizeOf (49 :: 59 :: xs n) = 1 := by
  have e : Oct.print (1 : Nat) 16 = [49] := by decide +kernel
  have := sizeOf_hex 0 1 (59 :: xs n) (by decide) (by rw [e]; decide) (fun c h => by simp at h; subst h; decide) (ext_xs n)
  rw [e] at this
  exact this
theorem xs_no (n : Nat) : ∀ c ∈ (49 :: 59 :: xs n : L), c ≠ 10 := by
  intro c hc
  simp only [List.mem_cons] at hc
  rcases hc with rfl | rfl | hc
  · decide
  · decide
  · rw [(List.mem_replicate.1 hc).2]; decide
def longLine (n : Nat) : L := 49 :: 59 :: (xs n ++ [13, 10, 97, 13, 10, 48, 13, 10, 13, 10])
theorem decode_line (n : Nat) (hn : n ≤ 252) : (decode (longLine n)).2.2 = 0 := by
  have e : longLine n = (49 :: 59 :: xs n) ++ 13 :: 10 :: ([97] ++ 13 :: 10 :: ([48] ++ 13 :: 10 :: (13 :: 10 :: []))) := by unfold longLine; simp
  have hg : go (.size 0) (longLine n) = ([97], (longLine n).length, .over, 0) := by
    rw [e, go_chunk (p := [97]) (xs_no n) (by simp [xs]; omega) (sizeOf_xs n) (by decide) (by decide), go_last (by decide) (by decide) (by decide +kernel), go_end, sh_sh]
    unfold sh
    simp
  unfold decode told
  rw [hg]; rfl
theorem decode_long (n : Nat) (hn : 252 < n) : (decode (longLine n)).2.2 = 12 := by
  have hu : 255 < St.upto 10 (longLine n) := by
    have e : longLine n = (49 :: 59 :: (xs n ++ [13])) ++ 10 :: [97, 13, 10, 48, 13, 10, 13, 10] := by unfold longLine; simp
    rw [e, St.upto_app 10 _ _ (fun c hc => by
      simp only [List.mem_cons, List.mem_append, List.not_mem_nil, or_false] at hc
      rcases hc with rfl | rfl | hc | rfl
      · decide
      · decide
      · rw [(List.mem_replicate.1 hc).2]; decide
      · decide)]
    simp [xs]; omega
  have hL : (lineAt (longLine n)).2.2 = 12 := by
    unfold lineAt St.line
    rw [if_neg (by omega), if_neg (by unfold longLine xs; simp; omega)]
  have hg : (go (.size 0) (longLine n)).2.2.2 = 12 := by
    rw [go_err (size_err (by rw [hL]; decide) (by rw [hL]; decide)), hL]
  unfold decode told
  rw [hg]; rfl
def abLines (n : Nat) : L := (List.replicate n [97, 58, 32, 98, 13, 10]).flatten
theorem abLines_succ (n : Nat) : abLines (n + 1) = [97, 58, 32, 98] ++ 13 :: 10 :: abLines n := rfl
theorem abLines_snoc (n : Nat) : abLines (n + 1) = abLines n ++ [97, 58, 32, 98, 13, 10] := by
  unfold abLines
  rw [List.replicate_succ', List.flatten_append]; rfl
theorem go_lines : ∀ (n k : Nat) (rest : L), k + n ≤ 128 → go (.trail k) (abLines n ++ rest) = sh [] (6 * n) (go (.trail (k + n)) rest)
  | 0, k, rest, _ => by
    show go (.trail k) rest = sh [] 0 (go (.trail k) rest)
    rw [sh_none]
  | n + 1, k, rest, h => by
    rw [abLines_succ, List.append_assoc]
    show go (.trail k) ([97, 58, 32, 98] ++ 13 :: 10 :: (abLines n ++ rest)) = _
    rw [go_line (by decide) (by decide) (by decide) field_ab (by omega), go_lines n (k + 1) rest (by omega), sh_sh]
    rw [show k + 1 + n = k + (n + 1) by omega, show ([97, 58, 32, 98] : L).length + 2 + 6 * n = 6 * (n + 1) by simp; omega]
    rfl
def manyLines (n : Nat) : L := [48, 13, 10] ++ abLines n ++ [13, 10]
theorem decode_fields (n : Nat) (hn : n ≤ 128) : (decode (manyLines n)).2.2 = 0 := by
  have e : manyLines n = [48] ++ 13 :: 10 :: (abLines n ++ 13 :: 10 :: []) := by unfold manyLines; simp
  have hg : (go (.size 0) (manyLines n)).2.2 = (.over, 0) := by
    rw [e, go_last (by decide) (by decide) (by decide +kernel), go_lines n 0 _ (by omega), go_end]
    rfl
  have hg1 : (go (.size 0) (manyLines n)).2.2.1 = .over := by rw [hg]
  have hg2 : (go (.size 0) (manyLines n)).2.2.2 = 0 := by rw [hg]
  unfold decode told
  rw [hg1, hg2]; rfl
theorem decode_many (n : Nat) (hn : 128 < n) : (decode (manyLines n)).2.2 = 13 := by
  obtain ⟨m, rfl⟩ : ∃ m, n = 128 + (m + 1) := ⟨n - 129, by omega⟩
  have ha : abLines (128 + (m + 1)) = abLines 128 ++ ([97, 58, 32, 98] ++ 13 :: 10 :: abLines m) := by
    have : List.replicate (128 + (m + 1)) [97, 58, 32, 98, 13, 10] = List.replicate 128 [97, 58, 32, 98, 13, 10] ++ List.replicate (m + 1) ([97, 58, 32, 98, 13, 10] : L) := by rw [List.replicate_append_replicate]
    rw [← abLines_succ]
    unfold abLines
    rw [this, List.flatten_append]
  have e : manyLines (128 + (m + 1)) = [48] ++ 13 :: 10 :: (abLines 128 ++ ([97, 58, 32, 98] ++ 13 :: 10 :: (abLines m ++ [13, 10]))) := by
    unfold manyLines; rw [ha]; simp
  have hg : (go (.size 0) (manyLines (128 + (m + 1)))).2.2.2 = 13 := by
    rw [e, go_last (by decide) (by decide) (by decide +kernel), go_lines 128 0 _ (by omega), go_many (by decide) (by decide) (by decide) field_ab (by omega)]
    rfl
  unfold decode told
  rw [hg]; rfl
end Ck
