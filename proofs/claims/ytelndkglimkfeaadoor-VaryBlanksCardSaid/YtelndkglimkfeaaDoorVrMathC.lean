/- The plain mathematics of package vary: great letters; pieces in fields of their own. -/
import Derived.Test.YtelndkglimkfeaaDoorVrMathB
namespace Vr
open Oct (token lower low splitAll splitText emit trim scan scan1 nq blank dropL dropR tch)

def up8 (c : UInt8) : UInt8 := if 97 ≤ c ∧ c ≤ 122 then c - 32 else c
def upper (l : T) : T := l.map up8
theorem up8_low (c : UInt8) : low (up8 c) = low c := by
  have := Oct.all_octets (fun c => low (up8 c) == low c) (by decide +kernel) c
  simpa using this
theorem up8_tch (c : UInt8) : tch (up8 c) = tch c := by
  have := Oct.all_octets (fun c => tch (up8 c) == tch c) (by decide +kernel) c
  simpa using this
theorem up8_blank (c : UInt8) : blank (up8 c) = blank c := by
  have := Oct.all_octets (fun c => blank (up8 c) == blank c) (by decide +kernel) c
  simpa using this
theorem up8_34 (c : UInt8) : (up8 c == 34) = (c == 34) := by
  have := Oct.all_octets (fun c => (up8 c == 34) == (c == 34)) (by decide +kernel) c
  simpa using this
theorem up8_44 (c : UInt8) : (up8 c == 44) = (c == 44) := by
  have := Oct.all_octets (fun c => (up8 c == 44) == (c == 44)) (by decide +kernel) c
  simpa using this
theorem up8_92 (c : UInt8) : (up8 c == 92) = (c == 92) := by
  have := Oct.all_octets (fun c => (up8 c == 92) == (c == 92)) (by decide +kernel) c
  simpa using this
theorem up8_42 (c : UInt8) : (up8 c == 42) = (c == 42) := by
  have := Oct.all_octets (fun c => (up8 c == 42) == (c == 42)) (by decide +kernel) c
  simpa using this
theorem lower_upper (l : T) : lower (upper l) = lower l := by
  unfold lower upper; rw [List.map_map]; apply List.map_congr_left; intro c _; exact up8_low c
theorem upper_length (l : T) : (upper l).length = l.length := by simp [upper]
theorem token_upper (l : T) : token (upper l) = token l := by
  have h : (l.all (tch ∘ up8)) = l.all tch := by congr 1; funext c; exact up8_tch c
  unfold token upper
  rw [List.all_map, h]; cases l <;> rfl
theorem star_upper (l : T) : (upper l == [42]) = (l == [42]) := by
  cases l with
  | nil => rfl
  | cons c l =>
    cases l with
    | nil =>
      have := up8_42 c
      simp only [upper, List.map_cons, List.map_nil]
      rw [Bool.eq_iff_iff, beq_iff_eq, beq_iff_eq]
      rw [Bool.eq_iff_iff, beq_iff_eq, beq_iff_eq] at this
      simpa using this
    | cons d l => simp [upper]
theorem good_upper (l : T) : good (upper l) = good l := by unfold good; rw [token_upper, star_upper]
theorem dropWhile_upper (l : T) : (upper l).dropWhile blank = upper (l.dropWhile blank) := by
  induction l with
  | nil => rfl
  | cons c l ih =>
    have e : upper (c :: l) = up8 c :: upper l := rfl
    rw [e, List.dropWhile_cons, List.dropWhile_cons, up8_blank]
    split
    · exact ih
    · rfl
theorem trim_upper (l : T) : trim (upper l) = upper (trim l) := by
  rw [Oct.trim_eq, Oct.trim_eq]
  have e : dropR (upper l) = upper (dropR l) := by
    unfold Oct.dropR
    have : (upper l).reverse = upper l.reverse := by unfold upper; rw [List.map_reverse]
    rw [this, dropWhile_upper]; unfold upper; rw [List.map_reverse]
  rw [e]; exact dropWhile_upper _
theorem emit_upper (l : T) : emit (upper l) = (emit l).map upper := by
  unfold Oct.emit
  rw [trim_upper]
  by_cases h : trim l = []
  · rw [if_pos h, if_pos (by rw [h]; rfl)]; rfl
  · rw [if_neg h, if_neg (by intro e; exact h (List.map_eq_nil_iff.1 e))]; rfl
theorem nq_upper (q e : Bool) (c : UInt8) : nq q e (up8 c) = nq q e c := by unfold Oct.nq; rw [up8_92, up8_34]
theorem scan1_upper (out : List T) (cur : T) (q e : Bool) (c : UInt8) : scan1 (out.map upper, upper cur, q, e) (up8 c) = ((scan1 (out, cur, q, e) c).1.map upper, upper (scan1 (out, cur, q, e) c).2.1, (scan1 (out, cur, q, e) c).2.2) := by
  have h44 : up8 c = 44 ↔ c = 44 := by
    have := up8_44 c
    rw [Bool.eq_iff_iff, beq_iff_eq, beq_iff_eq] at this; exact this
  unfold Oct.scan1
  simp only [nq_upper, h44]
  split
  · rw [emit_upper]; simp [upper]
  · simp [upper]
theorem fold_upper : ∀ (l : T) (out : List T) (cur : T) (q e : Bool), (upper l).foldl scan1 (out.map upper, upper cur, q, e) = ((l.foldl scan1 (out, cur, q, e)).1.map upper, upper (l.foldl scan1 (out, cur, q, e)).2.1, (l.foldl scan1 (out, cur, q, e)).2.2)
  | [], _, _, _, _ => rfl
  | c :: l, out, cur, q, e => by
    have h : upper (c :: l) = up8 c :: upper l := rfl
    rw [h, List.foldl_cons, List.foldl_cons, scan1_upper]
    exact fold_upper l _ _ _ _
theorem split_upper (l : T) : splitText (upper l) = (splitText l).map upper := by
  have h : scan (upper l) = ((scan l).1.map upper, upper (scan l).2.1, (scan l).2.2) := fold_upper l [] [] false false
  unfold Oct.splitText
  rw [h, List.map_append, emit_upper]

/-! ### VaryOrder -/
theorem all_map_upper (l : List T) : (l.map upper).all good = l.all good := by
  rw [List.all_map]; congr 1; funext x; exact good_upper x
theorem map_lower_upper (l : List T) : (l.map upper).map lower = l.map lower := by
  rw [List.map_map]; apply List.map_congr_left; intro x _; exact lower_upper x
theorem names_twice (a b : T) : names [b, a, b] = names [a, b] := by
  have e1 : splitAll [b, a, b] = splitText b ++ (splitText a ++ splitText b) := by simp [Oct.splitAll]
  have e2 : splitAll [a, b] = splitText a ++ splitText b := by simp [Oct.splitAll]
  refine names_ext ?_ (fun x => ?_)
  · rw [e1, e2]; simp only [List.all_append]
    cases (splitText a).all good <;> cases (splitText b).all good <;> rfl
  · rw [e1, e2]; simp only [List.map_append, List.mem_append]
    constructor
    · rintro (h | h | h)
      · exact .inr h
      · exact .inl h
      · exact .inr h
    · exact .inr
theorem names_great (a b : T) : names [upper a, b] = names [a, b] := by
  have e1 : splitAll [upper a, b] = (splitText a).map upper ++ splitText b := by simp [Oct.splitAll, split_upper]
  have e2 : splitAll [a, b] = splitText a ++ splitText b := by simp [Oct.splitAll]
  refine names_ext ?_ (fun x => ?_)
  · rw [e1, e2, List.all_append, List.all_append, all_map_upper]
  · rw [e1, e2, List.map_append, List.map_append, map_lower_upper]

/-! ### VaryBlanks -/
theorem fold_plain : ∀ (x : T), 34 ∉ x → 44 ∉ x → ∀ out cur, x.foldl scan1 (out, cur, false, false) = (out, cur ++ x, false, false)
  | [], _, _, out, cur => by simp
  | c :: x, h, h', out, cur => by
    have h34 : c ≠ 34 := fun e => h (by simp [e])
    have h44 : c ≠ 44 := fun e => h' (by simp [e])
    have hn : nq false false c = (false, false) := by
      have h1 : (c == 34) = false := beq_eq_false_iff_ne.2 h34
      simp [nq, h1]
    have e : scan1 (out, cur, false, false) c = (out, cur ++ [c], false, false) := by
      unfold Oct.scan1; simp only [hn]; rw [if_neg (fun e => h44 e.2)]
    rw [List.foldl_cons, e, fold_plain x (fun hm => h (by simp [hm])) (fun hm => h' (by simp [hm]))]
    simp
/-- A piece, blanks and a comma about it. -/
def wrap (p : T) : T := [32, 9] ++ p ++ [32, 44]
theorem split_wrap {p : T} (h1 : p ≠ []) (h2 : trim p = p) (h34 : 34 ∉ p) (h44 : 44 ∉ p) : splitText (wrap p) = [p] := by
  unfold Oct.splitText Oct.scan wrap
  rw [List.foldl_append, List.foldl_append]
  have s1 : ([32, 9] : T).foldl scan1 (([], [], false, false) : List T × T × Bool × Bool) = ([], [32, 9], false, false) := rfl
  rw [s1, fold_plain p h34 h44]
  have s2 : scan1 (([], [32, 9] ++ p, false, false) : List T × T × Bool × Bool) 32 = ([], [32, 9] ++ p ++ [32], false, false) := rfl
  have s3 : scan1 (([], [32, 9] ++ p ++ [32], false, false) : List T × T × Bool × Bool) 44 = ([] ++ emit ([32, 9] ++ p ++ [32]), [], false, false) := rfl
  have e : emit ([32, 9] ++ p ++ [32]) = [p] := by
    have e : trim ([32, 9] ++ p ++ [32]) = p := by rw [Oct.trim_blanks _ _ _ rfl rfl, h2]
    rw [Oct.emit_yes (by rw [e]; exact h1), e]
  rw [List.foldl_cons, List.foldl_cons, List.foldl_nil, s2, s3, e]
  rfl
/-- The fields of a request with each piece in a field of its own. -/
def oddOf (f : Fld.F) : List Fld.F := (if splitText f.2 = [] then [f] else []) ++ (splitText f.2).map fun p => (upper f.1, wrap p)
def odd (fs : List Fld.F) : List Fld.F := fs.flatMap oddOf
def calmF (f : Fld.F) : Bool := (splitText f.2).all fun p => !p.contains 34
theorem named_upper (n : T) (f : Fld.F) (v : T) : Fld.named n (upper f.1, v) = Fld.named n f := by unfold Fld.named; rw [lower_upper]
theorem get_map (n a : T) (f : Fld.F) (ps : List T) (h : lower a = lower f.1) : Fld.get (ps.map fun p => (a, wrap p)) n = if Fld.named n f then ps.map wrap else [] := by
  unfold Fld.get
  by_cases hn : Fld.named n f = true
  · rw [if_pos hn]
    have : (ps.map fun p => (a, wrap p)).filter (Fld.named n) = ps.map fun p => (a, wrap p) := by
      rw [List.filter_eq_self]
      intro x hx
      obtain ⟨p, _, rfl⟩ := List.mem_map.1 hx
      unfold Fld.named at hn ⊢; rw [h]; exact hn
    rw [this, List.map_map]; rfl
  · rw [if_neg hn]
    have : (ps.map fun p => (a, wrap p)).filter (Fld.named n) = [] := by
      rw [List.filter_eq_nil_iff]
      intro x hx
      obtain ⟨p, _, rfl⟩ := List.mem_map.1 hx
      unfold Fld.named at hn ⊢; rw [h]; exact hn
    rw [this]; rfl
theorem get_oddOf (n : T) (f : Fld.F) : Fld.get (oddOf f) n = if Fld.named n f then (if splitText f.2 = [] then [f.2] else (splitText f.2).map wrap) else [] := by
  unfold oddOf
  rw [Fld.get_append, get_map n (upper f.1) f _ (lower_upper f.1)]
  have h1 : Fld.get [f] n = if Fld.named n f then [f.2] else [] := by
    unfold Fld.get; rw [Fld.fone]; split <;> rfl
  by_cases hn : Fld.named n f = true
  · rw [if_pos hn, if_pos hn]
    by_cases hs : splitText f.2 = []
    · rw [if_pos hs, if_pos hs, h1, if_pos hn, hs]; rfl
    · rw [if_neg hs, if_neg hs]; rfl
  · rw [if_neg hn, if_neg hn]
    by_cases hs : splitText f.2 = []
    · rw [if_pos hs, h1, if_neg hn]; rfl
    · rw [if_neg hs]; rfl
theorem calm_pieces {f : Fld.F} (h : calmF f = true) : ∀ p ∈ splitText f.2, 34 ∉ p ∧ 44 ∉ p := by
  intro p hp
  have h34 : 34 ∉ p := by
    have := List.all_eq_true.1 h p hp
    simpa using this
  exact ⟨h34, (calm_split f.2 p hp).resolve_left h34⟩
theorem splitAll_wraps (ps : List T) (h : ∀ p ∈ ps, p ≠ [] ∧ trim p = p ∧ 34 ∉ p ∧ 44 ∉ p) : splitAll (ps.map wrap) = ps := by
  induction ps with
  | nil => rfl
  | cons p ps ih =>
    obtain ⟨h1, h2, h3, h4⟩ := h p (by simp)
    rw [List.map_cons, splitAll_cons, split_wrap h1 h2 h3 h4, ih (fun x hx => h x (by simp [hx]))]; rfl
theorem odd_cons (f : Fld.F) (fs : List Fld.F) : odd (f :: fs) = oddOf f ++ odd fs := by simp [odd]
theorem get_cons (f : Fld.F) (fs : List Fld.F) (n : T) : Fld.get (f :: fs) n = (if Fld.named n f then [f.2] else []) ++ Fld.get fs n := by
  have : f :: fs = [f] ++ fs := rfl
  rw [this, Fld.get_append]
  congr 1
  unfold Fld.get; rw [Fld.fone]; split <;> rfl
theorem odd_same : ∀ (fs : List Fld.F) (n : T), fs.all calmF = true → (Fld.get (odd fs) n = [] ↔ Fld.get fs n = []) ∧ splitAll (Fld.get (odd fs) n) = splitAll (Fld.get fs n)
  | [], _, _ => ⟨Iff.rfl, rfl⟩
  | f :: fs, n, h => by
    rw [List.all_cons, Bool.and_eq_true] at h
    obtain ⟨i1, i2⟩ := odd_same fs n h.2
    rw [odd_cons, Fld.get_append, get_cons, get_oddOf, splitAll_append, splitAll_append, i2, List.append_eq_nil_iff, List.append_eq_nil_iff, i1]
    by_cases hn : Fld.named n f = true
    · rw [if_pos hn, if_pos hn]
      by_cases hs : splitText f.2 = []
      · rw [if_pos hs]; exact ⟨Iff.rfl, rfl⟩
      · rw [if_neg hs]
        refine ⟨⟨fun e => ?_, fun e => ?_⟩, ?_⟩
        · exact absurd (List.map_eq_nil_iff.1 e.1) hs
        · exact absurd e.1 (by simp)
        · rw [splitAll_wraps _ (fun p hp => ?_), splitAll_one]
          obtain ⟨a, b⟩ := trim_split f.2 p hp
          obtain ⟨c, d⟩ := calm_pieces h.1 p hp
          exact ⟨a, b, c, d⟩
    · rw [if_neg hn, if_neg hn]; exact ⟨Iff.rfl, rfl⟩
theorem part_same {a b : List Fld.F} {n : T} (h1 : Fld.get a n = [] ↔ Fld.get b n = []) (h2 : splitAll (Fld.get a n) = splitAll (Fld.get b n)) : part n a = part n b := by
  have e : has n a = has n b := by
    unfold has
    rw [Bool.eq_iff_iff]; simp only [Bool.not_eq_true', List.isEmpty_eq_false_iff]
    exact not_congr h1
  unfold part joined; rw [e, h2]
theorem fits_odd (fs : List Fld.F) (ns : List T) (h : fs.all calmF = true) : fits ns fs (odd fs) = true :=
  fits_true (fun n _ => (part_same (odd_same fs n h).1 (odd_same fs n h).2).symm)
theorem fits_more (fs : List Fld.F) (ns : List T) (m : Fld.F) (h : fs.all calmF = true) (hl : ∀ n ∈ ns, lower n = n) (hm : ∀ n ∈ ns, lower m.1 ≠ n) : fits ns fs (odd fs ++ [m]) = true := by
  refine fits_true (fun n hn => ?_)
  have hg : Fld.get (odd fs ++ [m]) n = Fld.get (odd fs) n := by
    rw [Fld.get_append]
    have : Fld.named n m = false := by
      unfold Fld.named; rw [hl n hn]; exact beq_eq_false_iff_ne.2 (hm n hn)
    have e : Fld.get [m] n = [] := by unfold Fld.get; rw [Fld.fone, this]; rfl
    rw [e, List.append_nil]
  refine (part_same ?_ ?_).symm
  · rw [hg]; exact (odd_same fs n h).1
  · rw [hg]; exact (odd_same fs n h).2
/-! ### step by step -/
theorem odd_snoc (fs : List Fld.F) (k : Nat) (h : k < fs.length) : odd (fs.take (k + 1)) = odd (fs.take k) ++ oddOf fs[k] := by
  unfold odd; rw [List.take_succ_eq_append_getElem h, List.flatMap_append]; simp
theorem oddOf_nil {f : Fld.F} (h : splitText f.2 = []) : oddOf f = [f] := by unfold oddOf; rw [if_pos h, h]; rfl
theorem oddOf_some {f : Fld.F} (h : splitText f.2 ≠ []) : oddOf f = (splitText f.2).map fun p => (upper f.1, wrap p) := by unfold oddOf; rw [if_neg h]; rfl
theorem odd_length (fs : List Fld.F) (m : Nat) (h : ∀ f ∈ fs, f.2.length ≤ m) : (odd fs).length ≤ fs.length * (m + 2) := by
  induction fs with
  | nil => simp [odd]
  | cons f fs ih =>
    have h1 := ih (fun x hx => h x (by simp [hx]))
    have h2 := Oct.splitText_len f.2
    have h3 := h f (by simp)
    have h4 : (oddOf f).length ≤ f.2.length + 2 := by
      unfold oddOf; rw [List.length_append, List.length_map]; split <;> simp <;> omega
    rw [odd_cons, List.length_append, List.length_cons, Nat.succ_mul]; omega
theorem odd_sizes (fs : List Fld.F) (a m : Nat) (h : ∀ f ∈ fs, f.1.length ≤ a ∧ f.2.length ≤ m) : ∀ f ∈ odd fs, f.1.length ≤ a ∧ f.2.length ≤ m + 4 := by
  intro f hf
  unfold odd at hf
  obtain ⟨g, hg, hf⟩ := List.mem_flatMap.1 hf
  obtain ⟨h1, h2⟩ := h g hg
  unfold oddOf at hf
  rcases List.mem_append.1 hf with hf | hf
  · split at hf
    · rw [List.mem_singleton.1 hf]; exact ⟨h1, by omega⟩
    · simp at hf
  · obtain ⟨p, hp, rfl⟩ := List.mem_map.1 hf
    have h3 := piece_len (ls := [g.2]) (m := m) (by simpa using h2) p (by rw [splitAll_one]; exact hp)
    exact ⟨by rw [upper_length]; exact h1, by simp [wrap]; omega⟩
end Vr
