/- The plain mathematics of package vary: what varies, keys, matches. -/
import Derived.Test.YtelndkglimkfeaaDoorFdMath
import Derived.Test.YtelndkglimkfeaaDoorVrMath
namespace Vr
open Oct (token lower low splitAll splitText emit trim scan scan1 nq blank dropL dropR tch)

/-- A piece that is a name. -/
def good (p : T) : Bool := !(p == [42]) && token p
def names (vs : List T) : List T × Bool := if (splitAll vs).all good then (insAll ((splitAll vs).map lower), true) else ([], false)
/-- The pieces of what fields have of a name, with a comma between each two. -/
def joined (n : T) (fs : List Fld.F) : T := Go.Lib.join (splitAll (Fld.get fs n)) [44]
def has (n : T) (fs : List Fld.F) : Bool := !(Fld.get fs n).isEmpty
def part (n : T) (fs : List Fld.F) : T := if has n fs then 58 :: joined n fs else []
def row (n : T) (fs : List Fld.F) : T := lower n ++ part n fs ++ [10]
def key (ns : List T) (fs : List Fld.F) : T := ns.flatMap fun n => row n fs
def fits (ns : List T) (a b : List Fld.F) : Bool := ns.all fun n => part n a == part n b

/-! ### names -/
theorem good_star {p : T} (h : p = [42]) : good p = false := by subst h; rfl
theorem good_bad {p : T} (h : token p = false) : good p = false := by unfold good; rw [h, Bool.and_false]
theorem good_yes {p : T} (h : ¬ p = [42]) (ht : token p = true) : good p = true := by unfold good; rw [ht, beq_eq_false_iff_ne.2 h]; rfl
theorem names_bad {vs : List T} {k : Nat} (h : k < (splitAll vs).length) (hg : good (splitAll vs)[k] = false) : names vs = ([], false) := by
  unfold names
  rw [if_neg]
  intro ha
  rw [List.all_eq_true] at ha
  rw [ha _ (List.getElem_mem h)] at hg
  cases hg
theorem all_snoc {ps : List T} {k : Nat} (h : k < ps.length) (ha : (ps.take k).all good = true) (hg : good ps[k] = true) : (ps.take (k + 1)).all good = true := by
  rw [List.take_succ_eq_append_getElem h, List.all_append, ha]
  simp [hg]
theorem names_all {vs : List T} (h : (splitAll vs).all good = true) : names vs = (insAll ((splitAll vs).map lower), true) := by unfold names; rw [if_pos h]
theorem names_flag {vs : List T} (h : (names vs).2 = false) : (names vs).1 = [] := by
  unfold names at h ⊢; split at h
  · cases h
  · rename_i hn; rw [if_neg hn]
theorem names_ext {a b : List T} (hf : (splitAll a).all good = (splitAll b).all good) (h : ∀ x, x ∈ (splitAll a).map lower ↔ x ∈ (splitAll b).map lower) : names a = names b := by
  unfold names; rw [hf, insAll_ext h]
theorem names_low {vs : List T} {n : T} (h : n ∈ (names vs).1) : lower n = n := by
  unfold names at h
  split at h
  · rw [mem_insAll] at h
    obtain ⟨p, _, rfl⟩ := List.mem_map.1 h
    exact Oct.lower_lower p
  · simp at h
theorem names_length (vs : List T) : (names vs).1.length ≤ (splitAll vs).length := by
  unfold names; split
  · have := insAll_length ((splitAll vs).map lower)
    rw [List.length_map] at this; exact this
  · simp

/-! ### octets of pieces -/
theorem mem_dropWhile {p : UInt8 → Bool} {l : T} {c : UInt8} (h : c ∈ l.dropWhile p) : c ∈ l := (List.dropWhile_sublist p).subset h
theorem mem_trim {l : T} {c : UInt8} (h : c ∈ trim l) : c ∈ l := by
  rw [Oct.trim_eq] at h
  have h1 : c ∈ dropR l := mem_dropWhile h
  unfold Oct.dropR at h1
  exact List.mem_reverse.1 (mem_dropWhile (List.mem_reverse.1 h1))
theorem dropWhile_mem {p : UInt8 → Bool} {l : T} {c : UInt8} (h : c ∈ l) (hp : p c = false) : c ∈ l.dropWhile p := by
  induction l with
  | nil => simp at h
  | cons d l ih =>
    rw [List.dropWhile_cons]
    split
    · rename_i hd
      rcases List.mem_cons.1 h with rfl | h
      · rw [hp] at hd; cases hd
      · exact ih h
    · exact h
theorem trim_mem {l : T} {c : UInt8} (h : c ∈ l) (hp : blank c = false) : c ∈ trim l := by
  rw [Oct.trim_eq]
  refine dropWhile_mem ?_ hp
  unfold Oct.dropR
  exact List.mem_reverse.2 (dropWhile_mem (List.mem_reverse.2 h) hp)
theorem emit_mem {l p : T} (h : p ∈ emit l) : p = trim l ∧ p ≠ [] := by
  unfold Oct.emit at h
  split at h
  · simp at h
  · rename_i hn; obtain rfl := List.mem_singleton.1 h; exact ⟨rfl, hn⟩

theorem scan_all (P : UInt8 → Prop) : ∀ (l : T) (st : List T × T × Bool × Bool), (∀ c ∈ l, P c) → (∀ p ∈ st.1, ∀ c ∈ p, P c) → (∀ c ∈ st.2.1, P c) → (∀ p ∈ (l.foldl scan1 st).1, ∀ c ∈ p, P c) ∧ (∀ c ∈ (l.foldl scan1 st).2.1, P c)
  | [], st, _, h1, h2 => ⟨h1, h2⟩
  | d :: l, st, h, h1, h2 => by
    rw [List.foldl_cons]
    refine scan_all P l (scan1 st d) (fun c hc => h c (by simp [hc])) ?_ ?_
    · unfold Oct.scan1
      split
      · intro p hp c hc
        rcases List.mem_append.1 hp with hp | hp
        · exact h1 p hp c hc
        · rw [(emit_mem hp).1] at hc; exact h2 c (mem_trim hc)
      · exact h1
    · unfold Oct.scan1
      split
      · intro c hc; simp at hc
      · intro c hc
        rcases List.mem_append.1 hc with hc | hc
        · exact h2 c hc
        · rw [List.mem_singleton.1 hc]; exact h d (by simp)
theorem split_all (P : UInt8 → Prop) {l : T} (h : ∀ c ∈ l, P c) : ∀ p ∈ splitText l, ∀ c ∈ p, P c := by
  obtain ⟨h1, h2⟩ := scan_all P l ([], [], false, false) h (by simp) (by simp)
  intro p hp c hc
  unfold Oct.splitText Oct.scan at hp
  rcases List.mem_append.1 hp with hp | hp
  · exact h1 p hp c hc
  · rw [(emit_mem hp).1] at hc; exact h2 c (mem_trim hc)
theorem mem_splitAll {ls : List T} {p : T} : p ∈ splitAll ls ↔ ∃ l ∈ ls, p ∈ splitText l := by unfold Oct.splitAll; exact List.mem_flatMap
theorem splitAll_nil : splitAll [] = [] := rfl
theorem splitAll_cons (l : T) (ls : List T) : splitAll (l :: ls) = splitText l ++ splitAll ls := by simp [Oct.splitAll]
theorem splitAll_append (a b : List T) : splitAll (a ++ b) = splitAll a ++ splitAll b := by simp [Oct.splitAll]
theorem splitAll_one (l : T) : splitAll [l] = splitText l := by simp [Oct.splitAll]

/-- A piece without quotation marks has no comma. -/
structure Calm (st : List T × T × Bool × Bool) : Prop where
  out : ∀ p ∈ st.1, 34 ∈ p ∨ 44 ∉ p
  cur : 34 ∈ st.2.1 ∨ (44 ∉ st.2.1 ∧ st.2.2 = (false, false))
theorem nq_comma (q e : Bool) : (nq q e 44).2 = false := by cases q <;> cases e <;> rfl
theorem calm_emit {l : T} (h : 34 ∈ l ∨ 44 ∉ l) : ∀ p ∈ emit l, 34 ∈ p ∨ 44 ∉ p := by
  intro p hp
  rw [(emit_mem hp).1]
  rcases h with h | h
  · exact .inl (trim_mem h rfl)
  · exact .inr (fun hc => h (mem_trim hc))
theorem calm_step {st : List T × T × Bool × Bool} (h : Calm st) (c : UInt8) : Calm (scan1 st c) := by
  obtain ⟨out, cur, q, e⟩ := st
  obtain ⟨h1, h2⟩ := h
  have h1' : ∀ p ∈ out, 34 ∈ p ∨ 44 ∉ p := h1
  have h2' : 34 ∈ cur ∨ (44 ∉ cur ∧ (q, e) = (false, false)) := h2
  clear h1 h2
  unfold Oct.scan1
  split
  · rename_i hc
    obtain ⟨hq, rfl⟩ := hc
    refine ⟨?_, .inr ⟨by simp, Prod.ext hq (nq_comma q e)⟩⟩
    intro p hp
    rcases List.mem_append.1 hp with hp | hp
    · exact h1' p hp
    · exact calm_emit (h2'.imp id And.left) p hp
  · rename_i hc
    refine ⟨h1', ?_⟩
    show 34 ∈ cur ++ [c] ∨ (44 ∉ cur ++ [c] ∧ nq q e c = (false, false))
    rcases h2' with h2' | ⟨h2', he⟩
    · exact .inl (List.mem_append_left _ h2')
    · obtain ⟨rfl, rfl⟩ := Prod.mk.inj he
      by_cases h34 : c = 34
      · subst h34; exact .inl (by simp)
      · have hn : nq false false c = (false, false) := by
          have : (c == 34) = false := beq_eq_false_iff_ne.2 h34
          simp [nq, this]
        refine .inr ⟨?_, hn⟩
        have h44 : c ≠ 44 := fun e => hc ⟨by rw [show (([], [], false, false) : List T × T × Bool × Bool).2.2.1 = false from rfl] at *; rw [hn], e⟩
        intro hm
        rcases List.mem_append.1 hm with hm | hm
        · exact h2' hm
        · exact h44 (List.mem_singleton.1 hm).symm
theorem calm_fold : ∀ (l : T) (st : List T × T × Bool × Bool), Calm st → Calm (l.foldl scan1 st)
  | [], _, h => h
  | c :: l, st, h => calm_fold l (scan1 st c) (calm_step h c)
theorem calm_split (l : T) : ∀ p ∈ splitText l, 34 ∈ p ∨ 44 ∉ p := by
  have h := calm_fold l ([], [], false, false) ⟨by simp, .inr ⟨by simp, rfl⟩⟩
  intro p hp
  unfold Oct.splitText Oct.scan at hp
  rcases List.mem_append.1 hp with hp | hp
  · exact h.out p hp
  · exact calm_emit (h.cur.imp id And.left) p hp
/-- Pieces are trimmed, and not empty. -/
theorem trim_split (l : T) : ∀ p ∈ splitText l, p ≠ [] ∧ trim p = p := by
  have key : ∀ (l : T) (st : List T × T × Bool × Bool), (∀ p ∈ st.1, p ≠ [] ∧ trim p = p) → ∀ p ∈ (l.foldl scan1 st).1, p ≠ [] ∧ trim p = p := by
    intro l
    induction l with
    | nil => intro st h; exact h
    | cons c l ih =>
      intro st h
      rw [List.foldl_cons]
      refine ih _ ?_
      unfold Oct.scan1
      split
      · intro p hp
        rcases List.mem_append.1 hp with hp | hp
        · exact h p hp
        · obtain ⟨e, hn⟩ := emit_mem hp
          exact ⟨hn, by rw [e, Oct.trim_trim]⟩
      · exact h
  intro p hp
  unfold Oct.splitText Oct.scan at hp
  rcases List.mem_append.1 hp with hp | hp
  · exact key l _ (by simp) p hp
  · obtain ⟨e, hn⟩ := emit_mem hp
    exact ⟨hn, by rw [e, Oct.trim_trim]⟩

/-! ### how long -/
open Go.Lib (lens)
theorem lens_append (a b : List T) : lens (a ++ b) = lens a + lens b := by simp [Go.Lib.lens]
theorem emit_lens (l : T) : lens (emit l) ≤ l.length := by
  unfold Oct.emit; split
  · simp [Go.Lib.lens]
  · have := Oct.trim_len l; simpa [Go.Lib.lens] using this
theorem scan_lens : ∀ (l : T) (st : List T × T × Bool × Bool), lens (l.foldl scan1 st).1 + (l.foldl scan1 st).2.1.length ≤ lens st.1 + st.2.1.length + l.length
  | [], st => by simp
  | c :: l, st => by
    have h := scan_lens l (scan1 st c)
    have h1 : lens (scan1 st c).1 + (scan1 st c).2.1.length ≤ lens st.1 + st.2.1.length + 1 := by
      unfold Oct.scan1
      split
      · have := emit_lens st.2.1
        show lens (st.1 ++ emit st.2.1) + ([] : T).length ≤ _
        rw [lens_append]; simp; omega
      · show lens st.1 + (st.2.1 ++ [c]).length ≤ _
        simp; omega
    rw [List.foldl_cons, List.length_cons]; omega
theorem splitText_lens (l : T) : lens (splitText l) ≤ l.length := by
  have h := scan_lens l ([], [], false, false)
  have h2 := emit_lens (scan l).2.1
  unfold Oct.splitText
  rw [lens_append]
  unfold Oct.scan at h2 ⊢
  simp [Go.Lib.lens] at h h2 ⊢; omega
theorem splitAll_lens (ls : List T) (m : Nat) (h : ∀ l ∈ ls, l.length ≤ m) : lens (splitAll ls) + (splitAll ls).length ≤ ls.length * (2 * m + 1) := by
  induction ls with
  | nil => simp [Oct.splitAll, Go.Lib.lens]
  | cons l ls ih =>
    have h1 := splitText_lens l
    have h2 := Oct.splitText_len l
    have h3 := ih (fun l' hl' => h l' (by simp [hl']))
    have h4 := h l (by simp)
    rw [splitAll_cons, lens_append, List.length_append, List.length_cons, Nat.succ_mul]; omega
theorem join_length (ps : List T) : (Go.Lib.join ps [44]).length ≤ lens ps + ps.length := by
  cases ps with
  | nil => simp [Go.Lib.join_nil]
  | cons x r =>
    rw [Go.Lib.join_cons, List.length_append, Go.Lib.joinTail_length]
    simp [Go.Lib.lens]; omega
theorem joined_length (n : T) (fs : List Fld.F) (m : Nat) (h : ∀ f ∈ fs, f.2.length ≤ m) : (joined n fs).length ≤ fs.length * (2 * m + 1) := by
  have h1 := splitAll_lens (Fld.get fs n) m (Fld.get_small h)
  have h2 := join_length (splitAll (Fld.get fs n))
  have h3 := Nat.mul_le_mul_right (2 * m + 1) (Fld.get_length fs n)
  unfold joined; omega
theorem part_length (n : T) (fs : List Fld.F) : (part n fs).length ≤ (joined n fs).length + 1 := by unfold part; split <;> simp
theorem piece_len {ls : List T} {m : Nat} (h : ∀ l ∈ ls, l.length ≤ m) : ∀ p ∈ splitAll ls, p.length ≤ m := by
  intro p hp
  obtain ⟨l, hl, hp⟩ := mem_splitAll.1 hp
  have h1 := splitText_lens l
  have h2 : p.length ≤ lens (splitText l) := by
    have key : ∀ (ps : List T), p ∈ ps → p.length ≤ lens ps := by
      intro ps
      induction ps with
      | nil => intro h; simp at h
      | cons x r ih =>
        intro h
        simp only [Go.Lib.lens, List.map_cons, List.sum_cons] at ih ⊢
        rcases List.mem_cons.1 h with rfl | h
        · omega
        · have := ih h; omega
    exact key _ hp
  have := h l hl; omega
theorem join_snoc (ps : List T) (x : T) (h : ps ≠ []) : Go.Lib.join (ps ++ [x]) [44] = Go.Lib.join ps [44] ++ [44] ++ x := by
  cases ps with
  | nil => exact absurd rfl h
  | cons y r =>
    rw [List.cons_append, Go.Lib.join_cons, Go.Lib.join_cons]
    simp [Go.Lib.joinTail]

/-! ### keys and matches -/
theorem part_eq (n : T) (a b : List Fld.F) : (part n a == part n b) = ((has n a == has n b) && (joined n a == joined n b)) := by
  have hj : ∀ fs, has n fs = false → joined n fs = [] := by
    intro fs h
    unfold has at h
    have h' : Fld.get fs n = [] := by simpa using h
    unfold joined; rw [h']; rfl
  unfold part
  cases ha : has n a <;> cases hb : has n b
  · simp [hj a ha, hj b hb]
  · simp
  · simp
  · simp
theorem key_snoc (ns : List T) (fs : List Fld.F) (k : Nat) (h : k < ns.length) : key (ns.take (k + 1)) fs = key (ns.take k) fs ++ row ns[k] fs := by
  unfold key; rw [List.take_succ_eq_append_getElem h, List.flatMap_append]; simp
theorem fits_snoc (ns : List T) (a b : List Fld.F) (k : Nat) (h : k < ns.length) : fits (ns.take (k + 1)) a b = (fits (ns.take k) a b && (part ns[k] a == part ns[k] b)) := by
  unfold fits; rw [List.take_succ_eq_append_getElem h, List.all_append]; simp
theorem fits_miss {ns : List T} {a b : List Fld.F} {k : Nat} (h : k < ns.length) (hp : (part ns[k] a == part ns[k] b) = false) : fits ns a b = false := by
  unfold fits; rw [List.all_eq_false]; exact ⟨ns[k], List.getElem_mem h, by simp [hp]⟩
theorem fits_any (ns : List T) (a b : List Fld.F) : fits ns a b = !(ns.any fun n => !(part n a == part n b)) := by
  unfold fits
  rw [List.all_eq_not_any_not]
theorem fits_self (ns : List T) (a : List Fld.F) : fits ns a a = true := by unfold fits; rw [List.all_eq_true]; intro n _; exact beq_self_eq_true _
theorem fits_comm (ns : List T) (a b : List Fld.F) : fits ns a b = fits ns b a := by
  unfold fits; congr 1; funext n
  rw [Bool.eq_iff_iff, beq_iff_eq, beq_iff_eq]; exact eq_comm
theorem fits_true {ns : List T} {a b : List Fld.F} (h : ∀ n ∈ ns, part n a = part n b) : fits ns a b = true := by
  unfold fits; rw [List.all_eq_true]; intro n hn; rw [h n hn]; exact beq_self_eq_true _
theorem key_length (ns : List T) (fs : List Fld.F) (m j : Nat) (hn : ∀ n ∈ ns, n.length ≤ m) (hj : ∀ n, (joined n fs).length ≤ j) : (key ns fs).length ≤ ns.length * (m + j + 2) := by
  induction ns with
  | nil => simp [key]
  | cons n ns ih =>
    have h1 := ih (fun x hx => hn x (by simp [hx]))
    have h2 := part_length n fs
    have h3 := hj n
    have h4 := hn n (by simp)
    have e : key (n :: ns) fs = row n fs ++ key ns fs := by simp [key]
    have e2 : (row n fs).length = n.length + (part n fs).length + 1 := by simp [row, Oct.lower]; omega
    rw [e, List.length_append, e2, List.length_cons, Nat.succ_mul]; omega

/-- What right fields have of a name has no LF. -/
theorem plain_lf (c : UInt8) (h : Oct.plain c = true) : c ≠ 10 := by intro e; subst e; exact absurd h (by decide)
theorem join_all (P : UInt8 → Prop) (hp : P 44) (ps : List T) (h : ∀ p ∈ ps, ∀ c ∈ p, P c) : ∀ c ∈ Go.Lib.join ps [44], P c := by
  cases ps with
  | nil => intro c hc; simp [Go.Lib.join_nil] at hc
  | cons x r =>
    intro c hc
    rw [Go.Lib.join_cons] at hc
    rcases List.mem_append.1 hc with hc | hc
    · exact h x (by simp) c hc
    · unfold Go.Lib.joinTail at hc
      obtain ⟨l, hl, hc⟩ := List.mem_flatten.1 hc
      obtain ⟨y, hy, rfl⟩ := List.mem_map.1 hl
      rcases List.mem_append.1 hc with hc | hc
      · rw [List.mem_singleton.1 hc]; exact hp
      · exact h y (by simp [hy]) c hc
theorem part_lf {fs : List Fld.F} (h : Fld.allRight fs = true) (n : T) : ∀ c ∈ part n fs, c ≠ 10 := by
  have hv : ∀ l ∈ Fld.get fs n, ∀ c ∈ l, c ≠ 10 := by
    intro l hl c hc
    obtain ⟨f, hf, rfl⟩ := List.mem_map.1 hl
    have hr := List.all_eq_true.1 h f (List.mem_filter.1 hf).1
    unfold Fld.right at hr
    rw [Bool.and_eq_true] at hr
    have hv := hr.2
    unfold Oct.value at hv
    rw [Bool.and_eq_true, List.all_eq_true] at hv
    exact plain_lf c (hv.1 c hc)
  have hj : ∀ c ∈ joined n fs, c ≠ 10 := by
    refine join_all (· ≠ 10) (by decide) _ (fun p hp c hc => ?_)
    obtain ⟨l, hl, hp⟩ := mem_splitAll.1 hp
    exact split_all (· ≠ 10) (hv l hl) p hp c hc
  unfold part
  split
  · intro c hc
    rcases List.mem_cons.1 hc with rfl | hc
    · decide
    · exact hj c hc
  · intro c hc; simp at hc
theorem lf_cancel : ∀ {a b x y : T}, (∀ c ∈ a, c ≠ 10) → (∀ c ∈ b, c ≠ 10) → a ++ 10 :: x = b ++ 10 :: y → a = b ∧ x = y
  | [], [], _, _, _, _, h => ⟨rfl, (List.cons.inj h).2⟩
  | [], d :: b, _, _, _, hb, h => by
    have := (List.cons.inj h).1
    exact absurd this.symm (hb d (by simp))
  | d :: a, [], _, _, ha, _, h => by
    have := (List.cons.inj h).1
    exact absurd this (ha d (by simp))
  | d :: a, d' :: b, x, y, ha, hb, h => by
    obtain ⟨h1, h2⟩ := List.cons.inj h
    obtain ⟨h3, h4⟩ := lf_cancel (fun c hc => ha c (by simp [hc])) (fun c hc => hb c (by simp [hc])) h2
    exact ⟨by rw [h1, h3], h4⟩
theorem key_inj {a b : List Fld.F} (ha : Fld.allRight a = true) (hb : Fld.allRight b = true) : ∀ (ns : List T), key ns a = key ns b → ∀ n ∈ ns, part n a = part n b
  | [], _, n, hn => by simp at hn
  | m :: ns, h, n, hn => by
    have e : ∀ fs, key (m :: ns) fs = lower m ++ (part m fs ++ 10 :: key ns fs) := by intro fs; simp [key, row]
    rw [e, e] at h
    obtain ⟨h1, h2⟩ := lf_cancel (part_lf ha m) (part_lf hb m) (List.append_cancel_left h)
    rcases List.mem_cons.1 hn with rfl | hn
    · exact h1
    · exact key_inj ha hb ns h2 n hn
theorem fits_key {a b : List Fld.F} (ha : Fld.allRight a = true) (hb : Fld.allRight b = true) (ns : List T) : fits ns a b = (key ns a == key ns b) := by
  rw [Bool.eq_iff_iff, beq_iff_eq]
  constructor
  · intro h
    unfold fits at h
    rw [List.all_eq_true] at h
    have : ∀ (l : List T), (∀ n ∈ l, n ∈ ns) → key l a = key l b := by
      intro l
      induction l with
      | nil => intro _; rfl
      | cons n l ih =>
        intro hl
        have e : ∀ fs, key (n :: l) fs = row n fs ++ key l fs := by intro fs; simp [key]
        have h2 : part n a = part n b := by simpa using h n (hl n (by simp))
        rw [e, e, ih (fun x hx => hl x (by simp [hx]))]
        unfold row; rw [h2]
    exact this ns (fun _ h => h)
  · intro h
    exact fits_true (key_inj ha hb ns h)
end Vr
