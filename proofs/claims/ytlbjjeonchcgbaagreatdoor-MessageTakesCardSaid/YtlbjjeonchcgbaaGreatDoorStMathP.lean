/- The plain mathematics of package start, as the program goes about it: a line cut at its first two spaces. -/
import Derived.Test.YtlbjjeonchcgbaaGreatDoorStMath
import Derived.Lib.Split
import Derived.Lib.Strings
namespace St

/-- A request's pieces. -/
def rdQ (m t v : L) : S × Bool := (⟨m, t, 0, [], if minorOf v < 0 then 0 else minorOf v⟩, decide (0 ≤ minorOf v))
/-- A response's pieces. -/
def rdA (v c r : L) : S × Bool := if 0 ≤ minorOf v ∧ (Oct.number 10 999 c).2 = 0 ∧ c.length = 3 then (⟨[], [], (Oct.number 10 999 c).1, r, minorOf v⟩, true) else (zero, false)
def formedQ (s : S) : Bool := Oct.token s.method && !s.target.isEmpty && s.target.all vis && s.reason.isEmpty
def formedA (s : S) : Bool := s.method.isEmpty && s.target.isEmpty && decide (100 ≤ s.status) && decide (s.status ≤ 999) && Oct.value s.reason
def formed (s : S) : Bool := decide (0 ≤ s.minor) && decide (s.minor ≤ 1) && (if s.status = 0 then formedQ s else formedA s)
def long (s : S) : Bool := decide (32 < s.method.length) || decide (8000 < s.target.length) || decide (200 < s.reason.length)
theorem right_formed (s : S) : right s = (formed s && !long s) := by
  obtain ⟨m, t, st, r, k⟩ := s
  unfold right formed rightQ formedQ rightA formedA long visible
  rw [Bool.eq_iff_iff]
  by_cases h0 : st = 0
  · subst h0
    simp only [if_true, Bool.and_eq_true, Bool.not_eq_true', Bool.or_eq_false_iff, decide_eq_true_eq, decide_eq_false_iff_not, List.isEmpty_iff]
    constructor
    · rintro ⟨⟨a, b⟩, ⟨⟨⟨c, d⟩, e, e2⟩, f⟩, g⟩
      subst g
      exact ⟨⟨⟨a, b⟩, ⟨⟨c, e⟩, e2⟩, rfl⟩, ⟨by omega, by omega⟩, by simp⟩
    · rintro ⟨⟨⟨a, b⟩, ⟨⟨c, e⟩, e2⟩, g⟩, ⟨d, f⟩, _⟩
      exact ⟨⟨a, b⟩, ⟨⟨⟨c, by omega⟩, e, e2⟩, by omega⟩, g⟩
  · simp only [if_neg h0, Bool.and_eq_true, Bool.not_eq_true', Bool.or_eq_false_iff, decide_eq_true_eq, decide_eq_false_iff_not, List.isEmpty_iff]
    constructor
    · rintro ⟨⟨a, b⟩, ⟨⟨⟨⟨c, d⟩, e⟩, f⟩, g⟩, i⟩
      subst c d
      exact ⟨⟨⟨a, b⟩, ⟨⟨⟨rfl, rfl⟩, e⟩, f⟩, g⟩, ⟨by simp, by simp⟩, by omega⟩
    · rintro ⟨⟨⟨a, b⟩, ⟨⟨⟨c, d⟩, e⟩, f⟩, g⟩, ⟨_, _⟩, i⟩
      exact ⟨⟨a, b⟩, ⟨⟨⟨⟨c, d⟩, e⟩, f⟩, g⟩, by omega⟩

/-- A line's pieces: three at most. -/
def cut3 (l : L) : List L :=
  if upto 32 l = l.length then [l]
  else if upto 32 (l.drop (upto 32 l + 1)) = (l.drop (upto 32 l + 1)).length then [l.take (upto 32 l), l.drop (upto 32 l + 1)]
  else [l.take (upto 32 l), (l.drop (upto 32 l + 1)).take (upto 32 (l.drop (upto 32 l + 1))), (l.drop (upto 32 l + 1)).drop (upto 32 (l.drop (upto 32 l + 1)) + 1)]
theorem index_upto (d : UInt8) : ∀ l : L, Go.Lib.indexByte l d = if upto d l = l.length then -1 else (upto d l : Int)
  | [] => rfl
  | c :: t => by
    have ih := index_upto d t
    have hle := upto_le d t
    by_cases hc : c = d
    · subst hc
      rw [upto_hit]
      simp [Go.Lib.indexByte]
    · have hb : (c == d) = false := beq_eq_false_iff_ne.2 hc
      rw [upto_miss d c t hc, show Go.Lib.indexByte (c :: t) d = if (c == d) = true then 0 else if (Go.Lib.indexByte t d == -1) = true then -1 else Go.Lib.indexByte t d + 1 from rfl, hb, ih, List.length_cons]
      by_cases h : upto d t = t.length
      · rw [if_pos h, if_pos (by omega : upto d t + 1 = t.length + 1)]; rfl
      · rw [if_neg h, if_neg (by omega : ¬ upto d t + 1 = t.length + 1)]
        have : ((upto d t : Int) == -1) = false := beq_eq_false_iff_ne.2 (by omega)
        rw [this]; rfl
theorem splitK_miss (k : Nat) (l : L) (h : upto 32 l = l.length) : Go.Lib.splitK [32] 0 k l = [l] := by
  cases k with
  | zero => rfl
  | succ k =>
    unfold Go.Lib.splitK
    rw [Go.Lib.index_one, index_upto, if_pos h]; rfl
theorem splitK_hit (k : Nat) (l : L) (h : upto 32 l ≠ l.length) : Go.Lib.splitK [32] 0 (k + 1) l = l.take (upto 32 l) :: Go.Lib.splitK [32] 0 k (l.drop (upto 32 l + 1)) := by
  conv => lhs; unfold Go.Lib.splitK
  rw [Go.Lib.index_one, index_upto, if_neg h]
  have : ((upto 32 l : Int) == -1) = false := beq_eq_false_iff_ne.2 (by omega)
  simp [this]
theorem split_cut3 (l : L) : Go.Lib.splitK [32] 0 (min 3 (l.length + 1) - 1) l = cut3 l := by
  unfold cut3
  by_cases h1 : upto 32 l = l.length
  · rw [if_pos h1, splitK_miss _ l h1]
  · rw [if_neg h1]
    have hle := upto_le 32 l
    have hd : (l.drop (upto 32 l + 1)).length = l.length - (upto 32 l + 1) := List.length_drop
    by_cases h2 : upto 32 (l.drop (upto 32 l + 1)) = (l.drop (upto 32 l + 1)).length
    · rw [if_pos h2]
      obtain ⟨k, hk⟩ : ∃ k, min 3 (l.length + 1) - 1 = k + 1 := ⟨min 3 (l.length + 1) - 2, by omega⟩
      rw [hk, splitK_hit k l h1, splitK_miss k _ h2]
    · rw [if_neg h2]
      have hle2 := upto_le 32 (l.drop (upto 32 l + 1))
      have hk : min 3 (l.length + 1) - 1 = 2 := by omega
      rw [hk, splitK_hit 1 l h1, splitK_hit 0 _ h2]
      rfl

theorem num_most (b : Nat) (most : Int) : ∀ (l : L) (n v : Int), n ≤ most → Oct.num b most n l = some v → v ≤ most
  | [], n, v, hn, h => by
    simp only [Oct.num, Option.some.injEq] at h; omega
  | c :: r, n, v, hn, h => by
    simp only [Oct.num] at h
    split at h
    · cases h
    · exact num_most b most r _ v (by omega) h
theorem number_most (l : L) : (Oct.number 10 999 l).1 ≤ 999 := by
  unfold Oct.number
  split
  · decide
  · split
    · decide
    · split
      · decide
      · rename_i n hn
        exact num_most 10 999 l 0 n (by decide) hn
theorem cut3_cases (l : L) : (cut3 l).length < 3 ∨ ∃ a b c, cut3 l = [a, b, c] := by
  unfold cut3
  split
  · left; simp
  · split
    · left; simp
    · right; exact ⟨_, _, _, rfl⟩
/-- What a line's pieces say. -/
def says (x : S × Bool) : S × Int := if x.2 = false ∨ formed x.1 = false then (zero, 10) else if long x.1 = true then (zero, 12) else (x.1, 0)
def ofPieces (rd : L → L → L → S × Bool) : List L → S × Int
  | [a, b, c] => says (rd a b c)
  | _ => (zero, 10)
theorem ofPieces_short {rd : L → L → L → S × Bool} {ps : List L} (h : ps.length < 3) : ofPieces rd ps = (zero, 10) := by
  unfold ofPieces
  split
  · simp at h
  · rfl
theorem says_no {x : S × Bool} (h : x.2 = false ∨ formed x.1 = false) : says x = (zero, 10) := by unfold says; rw [if_pos h]
theorem says_long {x : S × Bool} (h : x.2 = true) (h2 : formed x.1 = true) (h3 : long x.1 = true) : says x = (zero, 12) := by unfold says; rw [if_neg (by rw [h, h2]; simp), if_pos h3]
theorem says_ok {x : S × Bool} (h : x.2 = true) (h2 : formed x.1 = true) (h3 : long x.1 = false) : says x = (x.1, 0) := by unfold says; rw [if_neg (by rw [h, h2]; simp), if_neg (by rw [h3]; simp)]
theorem says_q (m t v : L) : says (rdQ m t v) = reqAt m t v := by
  have hr := minor_range v
  unfold reqAt
  by_cases hv : minorOf v < 0
  · rw [says_no (by left; show decide (0 ≤ minorOf v) = false; simpa using hv), if_pos (.inl hv)]
  · have e : rdQ m t v = (⟨m, t, 0, [], minorOf v⟩, true) := by
      unfold rdQ
      rw [if_neg hv, decide_eq_true (by omega)]
    rw [e]
    by_cases hf : Oct.token m = false ∨ visible t = false
    · rw [says_no, if_pos (.inr hf)]
      right
      unfold formed formedQ
      unfold visible at hf
      simp only [if_true]
      rcases hf with hf | hf
      · rw [hf]; simp
      · rw [Bool.and_eq_false_iff] at hf
        rcases hf with hf | hf <;> rw [hf] <;> simp
    · rw [not_or] at hf
      obtain ⟨h1, h2⟩ := hf
      have h1 : Oct.token m = true := by simpa using h1
      have h2 : visible t = true := by simpa using h2
      have h3 : formed ⟨m, t, 0, [], minorOf v⟩ = true := by
        unfold formed formedQ
        unfold visible at h2
        rw [Bool.and_eq_true] at h2
        simp only [if_true]
        rw [h1, h2.1, h2.2]
        simp; omega
      rw [if_neg (by rw [h1, h2]; simp; omega)]
      by_cases hl : 32 < m.length ∨ 8000 < t.length
      · rw [says_long rfl h3 (by unfold long; simpa using hl), if_pos hl]
      · rw [says_ok rfl h3 (by unfold long; simpa using hl), if_neg hl]
theorem says_a (v c r : L) : says (rdA v c r) = if c.length = 3 then resAt v c r else (zero, 10) := by
  have hr := minor_range v
  by_cases h3 : c.length = 3
  · rw [if_pos h3]
    unfold resAt
    by_cases hn : (Oct.number 10 999 c).2 = 0
    · by_cases hv : minorOf v < 0
      · have e : rdA v c r = (zero, false) := by unfold rdA; rw [if_neg (by omega)]
        rw [e, says_no (.inl rfl), if_pos (by right; right; left; exact hv)]
      · have e : rdA v c r = (⟨[], [], (Oct.number 10 999 c).1, r, minorOf v⟩, true) := by unfold rdA; rw [if_pos ⟨by omega, hn, h3⟩]
        rw [e]
        have hlo := hr.1
        by_cases hf : (Oct.number 10 999 c).1 < 100 ∨ Oct.value r = false
        · have h4 : formed ⟨[], [], (Oct.number 10 999 c).1, r, minorOf v⟩ = false := by
            unfold formed formedQ formedA
            simp only []
            split
            · simp [Oct.token]
            · rcases hf with hf | hf
              · have : decide (100 ≤ (Oct.number 10 999 c).1) = false := by simp; omega
                rw [this]; simp
              · rw [hf]; simp
          rw [says_no (.inr h4), if_pos]
          rcases hf with hf | hf
          · exact .inr (.inl hf)
          · exact .inr (.inr (.inr hf))
        · rw [not_or] at hf
          obtain ⟨h1, h2⟩ := hf
          have h2 : Oct.value r = true := by simpa using h2
          have hm : (Oct.number 10 999 c).1 ≤ 999 := number_most c
          have h4 : formed ⟨[], [], (Oct.number 10 999 c).1, r, minorOf v⟩ = true := by
            unfold formed formedA
            simp only []
            rw [if_neg (by omega), h2]
            simp; omega
          rw [if_neg (by rw [h2, hn]; simp; omega)]
          by_cases hl : 200 < r.length
          · rw [says_long rfl h4 (by unfold long; simpa using hl), if_pos hl]
          · rw [says_ok rfl h4 (by unfold long; simpa using hl), if_neg hl]
    · have e : rdA v c r = (zero, false) := by unfold rdA; rw [if_neg (by simp [hn])]
      rw [e, says_no (.inl rfl), if_pos (.inl hn)]
  · have e : rdA v c r = (zero, false) := by unfold rdA; rw [if_neg (by simp [h3])]
    rw [if_neg h3, e, says_no (.inl rfl)]
theorem reqOf_pieces (l : L) : reqOf l = ofPieces rdQ (cut3 l) := by
  unfold reqOf cut3
  split
  · rfl
  · split
    · rfl
    · exact (says_q _ _ _).symm
theorem minor_len {v : L} (h : 0 ≤ minorOf v) : v.length = 8 ∧ ∀ c ∈ v, c ≠ 32 := by
  unfold minorOf at h
  split at h
  · rename_i e; rw [e]; decide
  · split at h
    · rename_i e; rw [e]; decide
    · exact absurd h (by decide)
theorem number_no {d : L} (h : (Oct.number 10 999 d).2 = 0) : ∀ c ∈ d, c ≠ 32 := by
  have h1 : ¬ (d = [] ∨ Oct.allOf (Oct.dig 10) d = false) := fun e => by
    unfold Oct.number at h
    rw [if_pos e] at h
    exact absurd h (by decide)
  rw [not_or] at h1
  have h2 : Oct.allOf (Oct.dig 10) d = true := by simpa using h1.2
  unfold Oct.allOf at h2
  exact fun c hc => (dig_facts c (List.all_eq_true.1 h2 c hc)).2
theorem cut3_form {m t v : L} (hm : ∀ c ∈ m, c ≠ 32) (ht : ∀ c ∈ t, c ≠ 32) : cut3 (m ++ 32 :: (t ++ 32 :: v)) = [m, t, v] := by
  have h1 := upto_app 32 (t ++ 32 :: v) m hm
  have h2 := upto_app 32 v t ht
  have hd : (m ++ 32 :: (t ++ 32 :: v)).drop (m.length + 1) = t ++ 32 :: v := by
    rw [show m ++ 32 :: (t ++ 32 :: v) = (m ++ [32]) ++ (t ++ 32 :: v) by simp, show m.length + 1 = (m ++ [32]).length by simp, List.drop_left]
  have hd2 : (t ++ 32 :: v).drop (t.length + 1) = v := by
    rw [show t ++ 32 :: v = (t ++ [32]) ++ v by simp, show t.length + 1 = (t ++ [32]).length by simp, List.drop_left]
  unfold cut3
  rw [h1, if_neg (by simp), hd, h2, if_neg (by simp), hd2, List.take_left, List.take_left]
/-- A line of three pieces is put together of them. -/
theorem cut3_back {l a b c : L} (h : cut3 l = [a, b, c]) : l = a ++ 32 :: (b ++ 32 :: c) := by
  unfold cut3 at h
  split at h
  · cases h
  · rename_i h1
    split at h
    · cases h
    · rename_i h2
      have e1 := upto_drop 32 l (by have := upto_le 32 l; omega)
      have e2 := upto_drop 32 (l.drop (upto 32 l + 1)) (by have := upto_le 32 (l.drop (upto 32 l + 1)); omega)
      injection h with ha h
      injection h with hb h
      injection h with hc h
      rw [← ha, ← hb, ← hc, ← e2, List.take_append_drop, ← e1, List.take_append_drop]
theorem resOf_pieces (l : L) : resOf l = ofPieces rdA (cut3 l) := by
  by_cases hp : ∃ a b c, cut3 l = [a, b, c]
  · obtain ⟨a, b, c, hp⟩ := hp
    have hl := cut3_back hp
    rw [hp]
    show _ = says (rdA a b c)
    rw [says_a]
    by_cases hv : 0 ≤ minorOf a
    · have hv8 := (minor_len hv).1
      by_cases h3 : b.length = 3
      · rw [if_pos h3, hl, resOf_form hv8 h3]
      · rw [if_neg h3]
        by_cases h8 : l.length < 13 ∨ l[8]? ≠ some 32 ∨ l[12]? ≠ some 32
        · unfold resOf; rw [if_pos h8]
        · unfold resOf
          rw [if_neg h8]
          unfold resAt
          rw [if_pos]
          left
          intro hn
          -- the octets between are no digits
          rw [not_or, not_or] at h8
          obtain ⟨h13, _, h12⟩ := h8
          have h12 : l[12]? = some 32 := Decidable.of_not_not h12
          have hno := number_no hn
          have hd : l = a ++ 32 :: (b ++ 32 :: c) := hl
          have g : ∀ k, k < 3 → l[9 + k]? ≠ some 32 := by
            intro k hk e
            have hlt : 9 + k < l.length := by omega
            refine hno 32 ?_ rfl
            have : ((l.take 12).drop 9)[k]? = some 32 := by
              rw [List.getElem?_drop, List.getElem?_take_of_lt (by omega)]; exact e
            exact List.mem_of_getElem? this
          have gb : l[9 + b.length]? = some 32 := by
            rw [hd, show a ++ 32 :: (b ++ 32 :: c) = (a ++ 32 :: b) ++ 32 :: c by simp, List.getElem?_append_right (by simp; omega)]
            simp [show 9 + b.length - (a.length + (b.length + 1)) = 0 by omega]
          have hb3 : 3 < b.length := by
            by_cases hlt : b.length < 3
            · exact absurd gb (g b.length hlt)
            · omega
          have hb32 : ∀ x ∈ b, x ≠ 32 := by
            intro x hx
            have hc3 : cut3 l = [a, b, c] := hp
            unfold cut3 at hc3
            split at hc3
            · cases hc3
            · split at hc3
              · cases hc3
              · injection hc3 with ha hc3
                injection hc3 with hb hc3
                rw [← hb] at hx
                exact upto_take 32 _ x hx
          have h12b : l[12]? = b[3]? := by
            rw [hd, List.getElem?_append_right (by omega), hv8]
            show (b ++ 32 :: c)[3]? = _
            rw [List.getElem?_append_left hb3]
          rw [h12b] at h12
          exact hb32 32 (List.mem_of_getElem? h12) rfl
    · have e : (if b.length = 3 then resAt a b c else (zero, 10)) = (zero, 10) := by
        split
        · unfold resAt; rw [if_pos (.inr (.inr (.inl (by omega))))]
        · rfl
      rw [e]
      unfold resOf
      split
      · rfl
      · rename_i h8
        unfold resAt
        rw [if_pos]
        right; right; left
        -- else the first piece were these eight
        refine Decidable.byContradiction fun hm => ?_
        have hm : 0 ≤ minorOf (l.take 8) := by omega
        have hno := (minor_len hm).2
        rw [not_or, not_or] at h8
        obtain ⟨h13, h8, _⟩ := h8
        have h8 : l[8]? = some 32 := Decidable.of_not_not h8
        have e8 : l = l.take 8 ++ 32 :: l.drop 9 := by
          have hlt : 8 < l.length := by omega
          have : l[8] = 32 := by rw [List.getElem?_eq_getElem hlt] at h8; exact Option.some.inj h8
          conv => lhs; rw [← List.take_append_drop 8 l, List.drop_eq_getElem_cons hlt, this]
        have hu : upto 32 l = 8 := by
          rw [e8, upto_app 32 _ _ hno]
          rw [List.length_take]; omega
        have ha : a = l.take 8 := by
          have hc3 : cut3 l = [a, b, c] := hp
          unfold cut3 at hc3
          split at hc3
          · cases hc3
          · split at hc3
            · cases hc3
            · injection hc3 with ha hc3
              rw [← ha, hu]
        rw [ha] at hv
        exact hv hm
  · have e : ofPieces rdA (cut3 l) = (zero, 10) := by
      unfold ofPieces
      split
      · rename_i a b c h; exact absurd ⟨a, b, c, h⟩ hp
      · rfl
    rw [e]
    unfold resOf
    split
    · rfl
    · rename_i h8
      unfold resAt
      by_cases hn : (Oct.number 10 999 ((l.take 12).drop 9)).2 = 0 ∧ 0 ≤ minorOf (l.take 8)
      · exfalso
        have h1 := (minor_len hn.2).2
        have h2 := number_no hn.1
        rw [not_or, not_or] at h8
        obtain ⟨h13, h8, h12⟩ := h8
        have h8 : l[8]? = some 32 := Decidable.of_not_not h8
        have h12 : l[12]? = some 32 := Decidable.of_not_not h12
        have hlt : 12 < l.length := by omega
        have g8 : l[8] = 32 := by rw [List.getElem?_eq_getElem (by omega)] at h8; exact Option.some.inj h8
        have g12 : l[12] = 32 := by rw [List.getElem?_eq_getElem hlt] at h12; exact Option.some.inj h12
        have e8 : l = l.take 8 ++ 32 :: ((l.take 12).drop 9 ++ 32 :: l.drop 13) := by
          have a1 : l = l.take 12 ++ 32 :: l.drop 13 := by
            conv => lhs; rw [← List.take_append_drop 12 l, List.drop_eq_getElem_cons hlt, g12]
          have l12 : (l.take 12).length = 12 := by rw [List.length_take]; omega
          have a2 : l.take 12 = l.take 8 ++ 32 :: (l.take 12).drop 9 := by
            conv => lhs; rw [← List.take_append_drop 8 (l.take 12), List.drop_eq_getElem_cons (by omega : 8 < (l.take 12).length)]
            rw [List.take_take, List.getElem_take, g8]
            rfl
          conv => lhs; rw [a1, a2]
          simp
        exact hp ⟨_, _, _, by rw [e8]; exact cut3_form h1 h2⟩
      · rw [if_pos]
        by_cases hn0 : (Oct.number 10 999 ((l.take 12).drop 9)).2 = 0
        · right; right; left
          have : ¬ 0 ≤ minorOf (l.take 8) := fun h => hn ⟨hn0, h⟩
          omega
        · exact .inl hn0

/-! Where a line ends. -/
theorem upto_first (d : UInt8) : ∀ (n : Nat) (b : L), upto d (b.take n) = if upto d b < n then upto d b else (b.take n).length
  | 0, b => by simp [upto]
  | n + 1, [] => by simp [upto]
  | n + 1, c :: t => by
    by_cases hc : c = d
    · subst hc
      rw [List.take_succ_cons, upto_hit, upto_hit, if_pos (by omega)]
    · rw [List.take_succ_cons, upto_miss d c _ hc, upto_miss d c _ hc, upto_first d n t]
      simp only [Nat.add_lt_add_iff_right]
      split <;> simp
theorem first_none {most : Nat} {b : L} (h : upto 10 (b.take (most + 1)) = (b.take (most + 1)).length) : line most b = if b.length < most + 1 then ([], 0, 11) else ([], 0, 12) := by
  have hle := upto_le 10 b
  rw [upto_first, List.length_take] at h
  unfold line
  rw [if_neg (by
    rintro ⟨h1, h2⟩
    rw [if_pos (by omega)] at h
    omega)]
  by_cases hb : b.length ≤ most
  · rw [if_pos hb, if_pos (by omega)]
  · rw [if_neg hb, if_neg (by omega)]
theorem crlf_back {b : L} {u : Nat} (hlt : u < b.length) (hg : b[u]? = some 10) (h1 : 1 ≤ u) (h2 : b[u - 1]? = some 13) : b.take (u - 1) ++ [13, 10] = b.take (u + 1) := by
  obtain ⟨k, rfl⟩ : ∃ k, u = k + 1 := ⟨u - 1, by omega⟩
  have h2 : b[k]? = some 13 := h2
  show b.take k ++ _ = _
  rw [List.take_add_one, List.take_add_one, hg, h2]
  simp
/-- A line's octets with their end: do they end with CR LF? -/
theorem first_some {most : Nat} {b : L} (h : upto 10 (b.take (most + 1)) ≠ (b.take (most + 1)).length) :
    upto 10 (b.take (most + 1)) = upto 10 b ∧ upto 10 b < b.length ∧ upto 10 b ≤ most ∧
    line most b = if Go.Lib.hasSuffix (b.take (upto 10 b + 1)) [13, 10] = true then (Go.Lib.trimSuffix (b.take (upto 10 b + 1)) [13, 10], ((upto 10 b + 1 : Nat) : Int), 0) else ([], 0, 10) := by
  have hle := upto_le 10 b
  rw [upto_first, List.length_take] at h
  by_cases hu : upto 10 b < most + 1
  · rw [if_pos hu] at h
    have hlt : upto 10 b < b.length := by omega
    refine ⟨by rw [upto_first, if_pos hu], hlt, by omega, ?_⟩
    have hd := upto_drop 10 b hlt
    have hg : b[upto 10 b]? = some 10 := by
      have : (b.drop (upto 10 b))[0]? = some 10 := by rw [hd]; rfl
      rw [List.getElem?_drop] at this
      exact this
    have hlen : (b.take (upto 10 b + 1)).length = upto 10 b + 1 := by rw [List.length_take]; omega
    have hs : Go.Lib.hasSuffix (b.take (upto 10 b + 1)) [13, 10] = true ↔ (1 ≤ upto 10 b ∧ b[upto 10 b - 1]? = some 13) := by
      unfold Go.Lib.hasSuffix
      rw [List.isSuffixOf_iff_suffix]
      constructor
      · rintro ⟨p, hp⟩
        have hl2 : p.length + 2 = upto 10 b + 1 := by rw [← hlen, ← hp]; simp
        refine ⟨by omega, ?_⟩
        have : (b.take (upto 10 b + 1))[p.length]? = some 13 := by rw [← hp, List.getElem?_append_right (Nat.le_refl _)]; simp
        rw [List.getElem?_take_of_lt (by omega)] at this
        rw [show upto 10 b - 1 = p.length by omega]; exact this
      · rintro ⟨h1, h2⟩
        refine ⟨b.take (upto 10 b - 1), ?_⟩
        exact crlf_back hlt hg h1 h2
    unfold line
    rw [if_pos ⟨hlt, by omega⟩]
    by_cases h13 : 1 ≤ upto 10 b ∧ b[upto 10 b - 1]? = some 13
    · have hb := hs.2 h13
      rw [if_pos h13, if_pos hb]
      unfold Go.Lib.trimSuffix
      rw [if_pos hb, hlen, List.take_take]
      rw [show min (upto 10 b + 1 - [(13 : UInt8), 10].length) (upto 10 b + 1) = upto 10 b - 1 by
        show min (upto 10 b + 1 - 2) (upto 10 b + 1) = _
        omega]
    · rw [if_neg h13, if_neg (fun e => h13 (hs.1 e))]
  · rw [if_neg hu] at h
    exact absurd rfl h
end St
