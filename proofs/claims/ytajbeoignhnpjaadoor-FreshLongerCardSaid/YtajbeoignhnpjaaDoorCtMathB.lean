/- Layer 4 in plain words: what is written is read: pieces in a list, names, digits. -/
import Derived.Test.YtajbeoignhnpjaaDoorCtMath
namespace Ctl
open Oct

/-- A piece that comes out of a list as it is. -/
structure Fine (x : List UInt8) : Prop where
  ne : x ≠ []
  trim : Oct.trim x = x
  fold : ∀ out cur, x.foldl scan1 (out, cur, false, false) = (out, cur ++ x, false, false)

theorem fold_plain : ∀ (x : List UInt8), (∀ c ∈ x, c ≠ 34 ∧ c ≠ 44) → ∀ out cur, x.foldl scan1 (out, cur, false, false) = (out, cur ++ x, false, false)
  | [], _, out, cur => by simp
  | c :: x, h, out, cur => by
    obtain ⟨h34, h44⟩ := h c (by simp)
    have hn : nq false false c = (false, false) := by
      have : (c == 34) = false := beq_eq_false_iff_ne.2 h34
      simp [nq, this]
    have hs : scan1 (out, cur, false, false) c = (out, cur ++ [c], false, false) := by
      unfold scan1
      simp only [hn]
      rw [if_neg (fun e => h44 e.2)]
    rw [List.foldl_cons, hs, fold_plain x (fun d hd => h d (by simp [hd]))]
    simp
theorem trim_ends {x : List UInt8} (h1 : ∀ c r, x = c :: r → blank c = false) (h2 : ∀ i c, x = i ++ [c] → blank c = false) : Oct.trim x = x := (trim_fix' x).2 ⟨h1, h2⟩
theorem trim_noblank {x : List UInt8} (h : ∀ c ∈ x, blank c = false) : Oct.trim x = x :=
  trim_ends (fun c r e => h c (by rw [e]; simp)) (fun i c e => h c (by rw [e]; simp))
/-- Nothing in it is a blank, a comma or a quotation mark. -/
def dull (c : UInt8) : Bool := !blank c && c != 34 && c != 44
theorem fine_dull {x : List UInt8} (hn : x ≠ []) (h : ∀ c ∈ x, dull c = true) : Fine x := by
  have h' : ∀ c ∈ x, blank c = false ∧ c ≠ 34 ∧ c ≠ 44 := fun c hc => by
    have := h c hc
    simpa [dull, and_assoc] using this
  exact ⟨hn, trim_noblank fun c hc => (h' c hc).1, fold_plain x fun c hc => (h' c hc).2⟩
theorem tch_dull {c : UInt8} (h : tch c = true) : dull c = true := by
  obtain ⟨_, h2, _, h4, h5, _⟩ := tch_plain c h
  simp [dull, h2, h4, h5]
/-- Dull octets, and behind them a text between quotation marks. -/
theorem fine_quoted {x y : List UInt8} (hn : x ≠ []) (h : ∀ c ∈ x, dull c = true) (hy : allOf plain y = true) : Fine (x ++ quote y) := by
  have hx := fine_dull hn h
  have ha : Atom (quote y) := .inr ⟨y, hy, rfl⟩
  refine ⟨by simp [hn], ?_, fun out cur => by rw [List.foldl_append, hx.fold, fold_atom ha, List.append_assoc]⟩
  refine trim_ends (fun c r e => ?_) (fun i c e => ?_)
  · cases x with
    | nil => exact absurd rfl hn
    | cons d x => injection e with e1 _; subst e1; have := h d (by simp); simp [dull] at this; exact this.1.1
  · have h2 : x ++ quote y = (x ++ 34 :: escd y) ++ [34] := by simp [quote]
    rw [h2] at e
    have := List.append_inj_right' e rfl
    injection this with this; subst this; rfl
theorem emit_fine {x : List UInt8} (h : Fine x) (b : List UInt8) (hb : b.all blank = true) : emit (b ++ x) = [x] := by
  have := trim_blanks b x [] hb rfl
  rw [List.append_nil, h.trim] at this
  rw [emit_yes (by rw [this]; exact h.ne), this]
theorem split_fine {x : List UInt8} (h : Fine x) : splitText x = [x] := by
  unfold splitText scan
  rw [h.fold]
  show [] ++ emit ([] ++ x) = [x]
  exact emit_fine h [] rfl

/-- All pieces, with a comma and a blank between. -/
def joinC : List (List UInt8) → List UInt8
  | [] => []
  | [p] => p
  | p :: q :: r => p ++ [44, 32] ++ joinC (q :: r)
theorem joinC_cons {p : List UInt8} {r : List (List UInt8)} (h : r ≠ []) : joinC (p :: r) = p ++ [44, 32] ++ joinC r := by
  cases r with
  | nil => exact absurd rfl h
  | cons q r => rfl
theorem join_fold : ∀ (ps : List (List UInt8)), (∀ p ∈ ps, Fine p) → ∀ out cur, cur.all blank = true → ∃ out' cur', (joinC ps).foldl scan1 (out, cur, false, false) = (out', cur', false, false) ∧ (∀ b, b.all blank = true → out' ++ emit (cur' ++ b) = out ++ ps)
  | [], _, out, cur, hc => ⟨out, cur, rfl, fun b hb => by rw [emit_blank (by rw [List.all_append, hc, hb]; rfl)]⟩
  | [p], h, out, cur, hc => by
    have hp := h p (by simp)
    refine ⟨out, cur ++ p, hp.fold _ _, fun b hb => ?_⟩
    have := trim_blanks cur p b hc hb
    rw [hp.trim] at this
    rw [emit_yes (by rw [this]; exact hp.ne), this]
  | p :: q :: r, h, out, cur, hc => by
    have hp := h p (by simp)
    obtain ⟨out', cur', h1, h2⟩ := join_fold (q :: r) (fun x hx => h x (by simp at hx ⊢; exact .inr hx)) (out ++ [p]) [32] rfl
    refine ⟨out', cur', ?_, fun b hb => by rw [h2 b hb]; simp⟩
    show (p ++ [44, 32] ++ joinC (q :: r)).foldl scan1 _ = _
    rw [List.foldl_append, List.foldl_append, hp.fold]
    have s1 : scan1 (out, cur ++ p, false, false) 44 = (out ++ emit (cur ++ p), [], false, false) := rfl
    rw [emit_fine hp cur hc] at s1
    have s2 : scan1 (out ++ [p], [], false, false) 32 = (out ++ [p], [32], false, false) := rfl
    simp only [List.foldl_cons, List.foldl_nil, s1, s2]
    exact h1
theorem split_join {ps : List (List UInt8)} (h : ∀ p ∈ ps, Fine p) : splitAll [joinC ps] = ps := by
  obtain ⟨out', cur', h1, h2⟩ := join_fold ps h [] [] rfl
  have := h2 [] rfl
  rw [List.append_nil] at this
  simp only [splitAll, List.flatMap_cons, List.flatMap_nil, List.append_nil]
  unfold splitText scan
  rw [h1]
  exact this
/-- A blank, a comma, a blank ahead; behind a comma, a blank, a comma and a piece. -/
theorem split_around {ps : List (List UInt8)} (h : ∀ p ∈ ps, Fine p) {z : List UInt8} (hz : Fine z) : splitAll [[32, 44, 32] ++ joinC ps ++ ([44, 32, 44] ++ z)] = ps ++ [z] := by
  obtain ⟨out', cur', h1, h2⟩ := join_fold ps h [] [32] rfl
  simp only [splitAll, List.flatMap_cons, List.flatMap_nil, List.append_nil]
  unfold splitText scan
  have s0 : [32, 44, 32].foldl scan1 ([], [], false, false) = ([], [32], false, false) := rfl
  rw [List.foldl_append, List.foldl_append, List.foldl_append, s0, h1]
  have e1 := h2 [] rfl
  rw [List.append_nil] at e1
  have s1 : scan1 (out', cur', false, false) 44 = (out' ++ emit cur', [], false, false) := rfl
  rw [e1] at s1
  have s2 : scan1 ([] ++ ps, [], false, false) 32 = ([] ++ ps, [32], false, false) := rfl
  have s3 : scan1 ([] ++ ps, [32], false, false) 44 = ([] ++ ps ++ emit [32], [], false, false) := rfl
  rw [emit_blank (b := [32]) rfl, List.append_nil] at s3
  simp only [List.foldl_cons, List.foldl_nil, s1, s2, s3]
  rw [hz.fold]
  show [] ++ ps ++ emit ([] ++ z) = _
  rw [emit_fine hz [] rfl]; rfl

/-- Great letters. -/
def up (c : UInt8) : UInt8 := if 97 ≤ c ∧ c ≤ 122 then c - 32 else c
def upper (l : List UInt8) : List UInt8 := l.map up
theorem low_up (c : UInt8) : low (up c) = low c := by
  have := all_octets (fun c => low (up c) == low c) (by decide +kernel) c
  simpa using this
theorem lower_upper (l : List UInt8) : lower (upper l) = lower l := by simp [lower, upper, low_up]
theorem tch_up (c : UInt8) : tch (up c) = tch c := by
  have := all_octets (fun c => tch (up c) == tch c) (by decide +kernel) c
  simpa using this
theorem tch_low (c : UInt8) : tch (low c) = tch c := by
  have := all_octets (fun c => tch (low c) == tch c) (by decide +kernel) c
  simpa using this
theorem token_low (l : List UInt8) : token (lower l) = token l := by
  unfold token lower
  rw [List.all_map]
  congr 1
  · cases l <;> rfl
  · congr 1; funext c; exact tch_low c
theorem token_up (l : List UInt8) : token (upper l) = token l := by
  unfold token upper
  rw [List.all_map]
  congr 1
  · cases l <;> rfl
  · congr 1; funext c; exact tch_up c
theorem upper_joinC : ∀ (ps : List (List UInt8)), upper (joinC ps) = joinC (ps.map upper)
  | [] => rfl
  | [p] => rfl
  | p :: q :: r => by
    have := upper_joinC (q :: r)
    show upper (p ++ [44, 32] ++ joinC (q :: r)) = upper p ++ [44, 32] ++ joinC ((q :: r).map upper)
    rw [← this]
    simp [upper, up]

theorem token_of {l : List UInt8} (hn : l ≠ []) (h : ∀ c ∈ l, tch c = true) : token l = true := by
  unfold token
  rw [List.all_eq_true.2 h]
  cases l with
  | nil => exact absurd rfl hn
  | cons _ _ => rfl
theorem tch_ne61 {c : UInt8} (h : tch c = true) : c ≠ 61 := by
  rintro rfl; exact absurd h (by decide)
theorem dig_tch {c : UInt8} (h : dig 10 c = true) : tch c = true ∧ up c = c := by
  have := all_octets (fun c => !dig 10 c || (tch c && up c == c)) (by decide +kernel) c
  simp [h] at this
  exact this

/-- A name alone. -/
theorem directive_bare {nm : List UInt8} (h : token nm = true) : directive nm = some (lower nm, bare (lower nm)) := by
  have he : eqAt nm = nm.length := eqAt_none nm fun c hc => tch_ne61 ((token_all nm h).2 c hc)
  unfold directive
  rw [he, List.take_of_length_le (Nat.le_refl _), if_neg (by rw [h]; decide), if_pos rfl]
/-- A name, =, and an argument. -/
theorem directive_arg {nm arg s : List UInt8} (h : token nm = true) (ha : argument arg = some s) : directive (nm ++ 61 :: arg) = some (lower nm, worth s) := by
  have he : eqAt (nm ++ 61 :: arg) = nm.length := eqAt_app nm arg fun c hc => tch_ne61 ((token_all nm h).2 c hc)
  unfold directive
  rw [he, List.take_left', if_neg (by rw [h]; decide), if_neg (by simp), show (nm ++ 61 :: arg).drop (nm.length + 1) = arg by simp [List.drop_append], ha]
  · rfl
  · rfl
theorem argument_token {s : List UInt8} (h : token s = true) : argument s = some s := by unfold argument; rw [if_pos h]
theorem argument_quote {s : List UInt8} (h : allOf plain s = true) : argument (quote s) = some s := by
  unfold argument
  rw [if_neg, ← List.append_nil (quote s), unquote_quote s [] h]
  · simp
  · intro ht
    have := (token_all _ ht).2 34 (by simp [quote])
    exact absurd this (by decide)

/-- What digits say, however many. -/
def val : Int → List UInt8 → Int
  | n, [] => n
  | n, c :: r => val (n * 10 + Oct.worth c) r
theorem val_ge : ∀ (l : List UInt8) (n : Int), 0 ≤ n → n ≤ val n l
  | [], n, _ => Int.le_refl n
  | c :: r, n, h => by
    have := val_ge r (n * 10 + Oct.worth c) (by omega)
    show n ≤ val (n * 10 + Oct.worth c) r
    omega
theorem num_val (most : Int) : ∀ (l : List UInt8) (n : Int), 0 ≤ n → n ≤ most → num 10 most n l = if val n l ≤ most then some (val n l) else none
  | [], n, _, h => by show some n = if n ≤ most then some n else none; rw [if_pos h]
  | c :: r, n, h0, h => by
    show (if most < n * (10 : Nat) + Oct.worth c then none else num 10 most (n * (10 : Nat) + Oct.worth c) r) = if val (n * 10 + Oct.worth c) r ≤ most then some (val (n * 10 + Oct.worth c) r) else none
    have hge := val_ge r (n * 10 + Oct.worth c) (by omega)
    have e : n * ((10 : Nat) : Int) + Oct.worth c = n * 10 + Oct.worth c := rfl
    rw [e]
    by_cases hm : most < n * 10 + Oct.worth c
    · rw [if_pos hm, if_neg (by omega)]
    · rw [if_neg hm]; exact num_val most r _ (by omega) (by omega)
theorem number_val (most : Int) (l : List UInt8) (hn : l ≠ []) (hd : allOf (dig 10) l = true) (hm : 0 ≤ most) : number 10 most l = if val 0 l ≤ most then (val 0 l, 0) else (0, 12) := by
  unfold number
  rw [if_neg (by rw [hd]; simp [hn]), if_neg (by omega), num_val most l 0 (Int.le_refl 0) hm]
  by_cases h : val 0 l ≤ most
  · rw [if_pos h, if_pos h]
  · rw [if_neg h, if_neg h]
theorem worth_digits {l : List UInt8} (hn : l ≠ []) (hd : allOf (dig 10) l = true) : worth l = min (val 0 l) 2147483647 := by
  unfold worth
  rw [number_val _ l hn hd (by decide)]
  have := val_ge l 0 (Int.le_refl 0)
  by_cases h : val 0 l ≤ 2147483647
  · rw [if_pos h, if_neg (show ¬ (0 : Int) = 12 by decide)]; show val 0 l = _; omega
  · rw [if_neg h, if_pos (show (12 : Int) = 12 from rfl)]; omega
theorem val_dgs (u : Nat) : val 0 (dgs 10 u) = (u : Int) := by
  have h1 := num_dgs 10 (by decide) (by decide) (u : Int) u (Int.le_refl _)
  rw [num_val (u : Int) _ 0 (Int.le_refl 0) (by omega)] at h1
  split at h1
  · injection h1
  · cases h1
theorem val_noughts : ∀ (k : Nat) (l : List UInt8), val 0 (List.replicate k 48 ++ l) = val 0 l
  | 0, _ => rfl
  | k + 1, l => by
    rw [List.replicate_succ]
    exact val_noughts k l
/-- Noughts, and a number's digits. -/
def ndig (k u : Nat) : List UInt8 := List.replicate k 48 ++ dgs 10 u
theorem ndig_ne (k u : Nat) : ndig k u ≠ [] := by unfold ndig; simp [dgs_ne]
theorem ndig_dig (k u : Nat) : allOf (dig 10) (ndig k u) = true := by
  have h := dgs_dig 10 (by decide) (by decide) u
  unfold allOf ndig at *
  rw [List.all_append, h, Bool.and_true, List.all_eq_true]
  intro c hc
  rw [(List.mem_replicate.1 hc).2]; decide
theorem worth_ndig (k u : Nat) : worth (ndig k u) = min (u : Int) 2147483647 := by
  rw [worth_digits (ndig_ne k u) (ndig_dig k u)]; unfold ndig; rw [val_noughts, val_dgs]
theorem ndig_zero (u : Nat) : ndig 0 u = dgs 10 u := rfl
theorem dig_all {l : List UInt8} (hd : allOf (dig 10) l = true) : ∀ c ∈ l, tch c = true ∧ up c = c := fun c hc => dig_tch (List.all_eq_true.1 hd c hc)
theorem ndig_token (k u : Nat) : token (ndig k u) = true := token_of (ndig_ne k u) fun c hc => (dig_all (ndig_dig k u) c hc).1
theorem ndig_plain (k u : Nat) : allOf plain (ndig k u) = true := by
  unfold allOf; rw [List.all_eq_true]; intro c hc; exact (tch_plain c (dig_all (ndig_dig k u) c hc).1).1
theorem upper_digits {l : List UInt8} (hd : allOf (dig 10) l = true) : upper l = l := by
  unfold upper
  conv => rhs; rw [← List.map_id l]
  exact List.map_congr_left fun c hc => (dig_all hd c hc).2
/-- Of a text without marks that is quoted, nothing turns. -/
theorem quote_tch {l : List UInt8} (h : ∀ c ∈ l, tch c = true) : quote l = 34 :: l ++ [34] := by
  have : escd l = l := by
    unfold escd
    induction l with
    | nil => rfl
    | cons c r ih =>
      obtain ⟨_, _, _, _, h34, h92⟩ := tch_plain c (h c (by simp))
      rw [List.flatMap_cons, ih fun d hd => h d (by simp [hd])]
      unfold esc; rw [if_neg (by simp [h34, h92])]; rfl
  unfold quote; rw [this]

/-- A flag as a piece, a number as a piece. -/
def flagP (k : List UInt8) (b : Bool) : List (List UInt8) := if b then [k] else []
def numP (k : List UInt8) (n : Int) : List (List UInt8) := if n < 0 then [] else [k ++ 61 :: dgs 10 n.toNat]
def pieces (c : C) : List (List UInt8) :=
  flagP kNS c.ns ++ flagP kNC c.nc ++ flagP kPU c.pu ++ flagP kPR c.pr ++ flagP kMU c.mu ++ flagP kPX c.px ++ flagP kOI c.oi ++ numP kMA c.ma ++ numP kSA c.sa ++ numP kMS c.ms ++ numP kMF c.mf
/-- What is said, as a text. -/
def print (c : C) : List UInt8 := joinC (pieces c)
def clampN (n : Int) : Int := max (min n 2147483647) (-1)
def clamp (c : C) : C := { c with ma := clampN c.ma, sa := clampN c.sa, ms := clampN c.ms, mf := clampN c.mf }
theorem clamp_ok {c : C} (h : Ok c) : clamp c = c := by
  obtain ⟨h1, h2, h3, h4⟩ := h
  have key : ∀ n, okN n → clampN n = n := fun n hn => by unfold clampN okN at *; omega
  unfold clamp; rw [key _ h1, key _ h2, key _ h3, key _ h4]

theorem known_token {k : List UInt8} (h : k ∈ known) : token k = true ∧ lower k = k := by
  have : known.all (fun k => token k && lower k == k) = true := by decide
  have := List.all_eq_true.1 this k h
  simpa using this
/-- A piece that Print makes. -/
def Made (p : List UInt8) : Prop := p ∈ known ∨ ∃ k u, k ∈ known ∧ p = k ++ 61 :: dgs 10 u
theorem pieces_made (c : C) : ∀ p ∈ pieces c, Made p := by
  have hf : ∀ k b p, k ∈ known → p ∈ flagP k b → Made p := fun k b p hk hp => by
    unfold flagP at hp
    cases b with
    | true => rw [if_pos rfl, List.mem_singleton] at hp; exact .inl (hp ▸ hk)
    | false => rw [if_neg (by decide)] at hp; cases hp
  have hn : ∀ k n p, k ∈ known → p ∈ numP k n → Made p := fun k n p hk hp => by
    unfold numP at hp
    split at hp
    · cases hp
    · rw [List.mem_singleton] at hp; exact .inr ⟨k, n.toNat, hk, hp⟩
  intro p hp
  unfold pieces at hp
  simp only [List.mem_append] at hp
  rcases hp with (((((((((hp | hp) | hp) | hp) | hp) | hp) | hp) | hp) | hp) | hp) | hp
  · exact hf _ _ _ (by simp [known]) hp
  · exact hf _ _ _ (by simp [known]) hp
  · exact hf _ _ _ (by simp [known]) hp
  · exact hf _ _ _ (by simp [known]) hp
  · exact hf _ _ _ (by simp [known]) hp
  · exact hf _ _ _ (by simp [known]) hp
  · exact hf _ _ _ (by simp [known]) hp
  · exact hn _ _ _ (by simp [known]) hp
  · exact hn _ _ _ (by simp [known]) hp
  · exact hn _ _ _ (by simp [known]) hp
  · exact hn _ _ _ (by simp [known]) hp
theorem token_dull {l : List UInt8} (h : token l = true) : ∀ c ∈ l, dull c = true := fun c hc => tch_dull ((token_all l h).2 c hc)
theorem fine_token {l : List UInt8} (h : token l = true) : Fine l := fine_dull (token_all l h).1 (token_dull h)
theorem fine_arg {nm arg : List UInt8} (h : token nm = true) (ha : token arg = true) : Fine (nm ++ 61 :: arg) :=
  fine_dull (by simp) fun c hc => by
    rcases List.mem_append.1 hc with hc | hc
    · exact token_dull h c hc
    · rcases List.mem_cons.1 hc with rfl | hc
      · decide
      · exact token_dull ha c hc
theorem fine_argq {nm arg : List UInt8} (h : token nm = true) (ha : allOf plain arg = true) : Fine (nm ++ 61 :: quote arg) := by
  have : nm ++ 61 :: quote arg = (nm ++ [61]) ++ quote arg := by simp
  rw [this]
  exact fine_quoted (by simp) (fun c hc => by
    rcases List.mem_append.1 hc with hc | hc
    · exact token_dull h c hc
    · rw [List.mem_singleton] at hc; subst hc; decide) ha
theorem made_fine {p : List UInt8} (h : Made p) : Fine p ∧ Fine (upper p) ∧ directive (upper p) = directive p := by
  rcases h with h | ⟨k, u, hk, rfl⟩
  · have ht := (known_token h).1
    have hu : token (upper p) = true := by rw [token_up]; exact ht
    refine ⟨fine_token ht, fine_token hu, ?_⟩
    rw [directive_bare hu, directive_bare ht, lower_upper]
  · have ht := (known_token hk).1
    have hu : token (upper k) = true := by rw [token_up]; exact ht
    have hd := dgs_dig 10 (by decide) (by decide) u
    have hdt : token (dgs 10 u) = true := ndig_token 0 u
    have e : upper (k ++ 61 :: dgs 10 u) = upper k ++ 61 :: dgs 10 u := by
      have := upper_digits hd
      unfold upper at *
      rw [List.map_append, List.map_cons, this]; rfl
    rw [e]
    refine ⟨fine_arg ht hdt, fine_arg hu hdt, ?_⟩
    rw [directive_arg hu (argument_token hdt), directive_arg ht (argument_token hdt), lower_upper]

theorem flag_fold {k : List UInt8} (hk : k ∈ known) (hb : bare k = 0) (b : Bool) (d : C) : (flagP k b).foldl step d = if b then say d k 0 else d := by
  unfold flagP
  cases b with
  | true =>
    rw [if_pos rfl, if_pos rfl]
    have := directive_bare (known_token hk).1
    rw [(known_token hk).2, hb] at this
    exact step_some this
  | false => rfl
theorem num_fold {k : List UInt8} (hk : k ∈ known) (n : Int) (d : C) : (numP k n).foldl step d = if n < 0 then d else say d k (min n 2147483647) := by
  unfold numP
  by_cases h : n < 0
  · rw [if_pos h, if_pos h]; rfl
  · rw [if_neg h, if_neg h]
    have h1 := directive_arg (known_token hk).1 (argument_token (ndig_token 0 n.toNat))
    rw [(known_token hk).2, worth_ndig, ndig_zero, show ((n.toNat : Nat) : Int) = n by omega] at h1
    exact step_some h1
theorem clampN_first (n : Int) : (if n < 0 then (-1 : Int) else first (-1) (min n 2147483647)) = clampN n := by
  unfold first clampN; split <;> omega
theorem put_ns (b : Bool) (d : C) (h : d.ns = false) : (flagP kNS b).foldl step d = { d with ns := b } := by
  rw [flag_fold (by simp [known]) (by decide), say_ns]; cases d; cases b <;> simp_all
theorem put_nc (b : Bool) (d : C) (h : d.nc = false) : (flagP kNC b).foldl step d = { d with nc := b } := by
  rw [flag_fold (by simp [known]) (by decide), say_nc]; cases d; cases b <;> simp_all
theorem put_pu (b : Bool) (d : C) (h : d.pu = false) : (flagP kPU b).foldl step d = { d with pu := b } := by
  rw [flag_fold (by simp [known]) (by decide), say_pu]; cases d; cases b <;> simp_all
theorem put_pr (b : Bool) (d : C) (h : d.pr = false) : (flagP kPR b).foldl step d = { d with pr := b } := by
  rw [flag_fold (by simp [known]) (by decide), say_pr]; cases d; cases b <;> simp_all
theorem put_mu (b : Bool) (d : C) (h : d.mu = false) : (flagP kMU b).foldl step d = { d with mu := b } := by
  rw [flag_fold (by simp [known]) (by decide), say_mu]; cases d; cases b <;> simp_all
theorem put_px (b : Bool) (d : C) (h : d.px = false) : (flagP kPX b).foldl step d = { d with px := b } := by
  rw [flag_fold (by simp [known]) (by decide), say_px]; cases d; cases b <;> simp_all
theorem put_oi (b : Bool) (d : C) (h : d.oi = false) : (flagP kOI b).foldl step d = { d with oi := b } := by
  rw [flag_fold (by simp [known]) (by decide), say_oi]; cases d; cases b <;> simp_all
theorem put_ma (n : Int) (d : C) (h : d.ma = -1) : (numP kMA n).foldl step d = { d with ma := clampN n } := by
  rw [num_fold (by simp [known]), ← clampN_first, say_ma]; cases d; split <;> simp_all
theorem put_sa (n : Int) (d : C) (h : d.sa = -1) : (numP kSA n).foldl step d = { d with sa := clampN n } := by
  rw [num_fold (by simp [known]), ← clampN_first, say_sa]; cases d; split <;> simp_all
theorem put_ms (n : Int) (d : C) (h : d.ms = -1) : (numP kMS n).foldl step d = { d with ms := clampN n } := by
  rw [num_fold (by simp [known]), ← clampN_first, say_ms]; cases d; split <;> simp_all
theorem put_mf (n : Int) (d : C) (h : d.mf = -1) : (numP kMF n).foldl step d = { d with mf := clampN n } := by
  rw [num_fold (by simp [known]), ← clampN_first, say_mf]; cases d; split <;> simp_all
theorem sayAll_pieces (c : C) : sayAll (pieces c) = clamp c := by
  unfold sayAll pieces
  simp only [List.foldl_append]
  rw [put_ns _ _ rfl, put_nc _ _ rfl, put_pu _ _ rfl, put_pr _ _ rfl, put_mu _ _ rfl, put_px _ _ rfl, put_oi _ _ rfl, put_ma _ _ rfl, put_sa _ _ rfl, put_ms _ _ rfl, put_mf _ _ rfl]
  rfl

theorem fold_same : ∀ (ps : List (List UInt8)) (f : List UInt8 → List UInt8) (d : C), (∀ p ∈ ps, directive (f p) = directive p) → (ps.map f).foldl step d = ps.foldl step d
  | [], _, _, _ => rfl
  | p :: ps, f, d, h => by
    have h1 : step d (f p) = step d p := by unfold step; rw [h p (by simp)]
    show (ps.map f).foldl step (step d (f p)) = ps.foldl step (step d p)
    rw [h1]
    exact fold_same ps f _ fun q hq => h q (by simp [hq])

/-- P4.3. -/
theorem parse_print (c : C) : parse [print c] = clamp c := by
  unfold parse print
  rw [split_join fun p hp => (made_fine (pieces_made c p hp)).1, sayAll_pieces]
theorem parse_upper (c : C) : parse [upper (print c)] = clamp c := by
  unfold parse print
  rw [upper_joinC, split_join]
  · unfold sayAll
    rw [fold_same _ _ _ fun p hp => (made_fine (pieces_made c p hp)).2.2]
    exact sayAll_pieces c
  · intro p hp
    obtain ⟨q, hq, rfl⟩ := List.mem_map.1 hp
    exact (made_fine (pieces_made c q hq)).2.1
def zz9 : List UInt8 := [122, 122, 57]
theorem parse_around (c : C) : parse [[32, 44, 32] ++ print c ++ [44, 32, 44, 122, 122, 57]] = clamp c := by
  have := split_around (ps := pieces c) (fun p hp => (made_fine (pieces_made c p hp)).1) (z := zz9) (fine_token (by decide))
  unfold parse print
  rw [show ([44, 32, 44, 122, 122, 57] : List UInt8) = [44, 32, 44] ++ zz9 from rfl, this]
  have hz : directive zz9 = some (zz9, 0) := by decide
  have hk : zz9 ∉ known := by decide
  have h1 := sayAll_snoc (pieces c ++ [zz9]) (pieces c).length (by simp)
  have e1 : (pieces c ++ [zz9]).take ((pieces c).length + 1) = pieces c ++ [zz9] := List.take_of_length_le (by simp)
  have e2 : (pieces c ++ [zz9]).take (pieces c).length = pieces c := List.take_left' rfl
  have e3 : (pieces c ++ [zz9])[(pieces c).length]'(by simp) = zz9 := by simp
  rw [e1, e2, e3, step_some hz, say_not hk, sayAll_pieces] at h1
  exact h1

/-- What one piece says. -/
theorem parse_one {p : List UInt8} (h : Fine p) : parse [p] = step none0 p := by
  unfold parse splitAll
  simp only [List.flatMap_cons, List.flatMap_nil, List.append_nil]
  rw [split_fine h]; rfl
theorem parse_bare {nm : List UInt8} (h : token nm = true) : parse [nm] = say none0 (lower nm) (bare (lower nm)) := by
  rw [parse_one (fine_token h), step_some (directive_bare h)]
theorem parse_arg {nm arg : List UInt8} (h : token nm = true) (ha : token arg = true) : parse [nm ++ 61 :: arg] = say none0 (lower nm) (worth arg) := by
  rw [parse_one (fine_arg h ha), step_some (directive_arg h (argument_token ha))]
theorem parse_argq {nm arg : List UInt8} (h : token nm = true) (ha : token arg = true) : parse [nm ++ 61 :: (34 :: arg ++ [34])] = say none0 (lower nm) (worth arg) := by
  have ht := (token_all arg ha).2
  have hp : allOf plain arg = true := by unfold allOf; rw [List.all_eq_true]; exact fun c hc => (tch_plain c (ht c hc)).1
  rw [← quote_tch ht, parse_one (fine_argq h hp), step_some (directive_arg h (argument_quote hp))]
theorem first_none (n : Int) : first (-1) n = n := by unfold first; rw [if_pos (by decide)]
/-- P4.1, numbers. -/
theorem numbers_ma (k u : Nat) : (parse [kMA ++ 61 :: ndig k u]).ma = min (u : Int) 2147483647 := by
  rw [parse_arg (by decide) (ndig_token k u), worth_ndig, show lower kMA = kMA by decide, say_ma]
  exact first_none _
theorem numbers_sa (k u : Nat) : (parse [kSA ++ 61 :: (34 :: ndig k u ++ [34])]).sa = min (u : Int) 2147483647 := by
  rw [parse_argq (by decide) (ndig_token k u), worth_ndig, show lower kSA = kSA by decide, say_sa]
  exact first_none _
theorem numbers_ms : (parse [kMS]).ms = 2147483647 := by rw [parse_bare (by decide)]; decide
theorem numbers_mf : (parse [kMF]).mf = 0 := by rw [parse_bare (by decide)]; decide
theorem numbers_junk {j : List UInt8} (h : token j = true) (he : (number 10 2147483647 j).2 = 10) : (parse [kMF ++ 61 :: j]).mf = 0 := by
  have hw : worth j = 0 := by
    unfold worth; rw [if_neg (by rw [he]; decide)]
    unfold number at he ⊢
    split at he
    · rename_i h1; rw [if_pos h1]
    · rename_i h1
      rw [if_neg (by decide)] at he
      cases hn : num 10 2147483647 0 j with
      | none => rw [hn] at he; exact absurd he (show ¬ (12 : Int) = 10 by decide)
      | some n => rw [hn] at he; exact absurd he (show ¬ (0 : Int) = 10 by decide)
  rw [parse_arg (by decide) h, hw, show lower kMF = kMF by decide, say_mf]; rfl

/-- P4.1, other names. -/
theorem say_known {k : List UInt8} (hk : k ∈ known) (n : Int) (hn : 0 ≤ n) : say none0 k n ≠ none0 := by
  simp only [known, List.mem_cons, List.not_mem_nil, or_false] at hk
  have hf : first (-1) n = n := by unfold first; rw [if_pos (by decide)]
  rcases hk with rfl | rfl | rfl | rfl | rfl | rfl | rfl | rfl | rfl | rfl | rfl
  · rw [say_ns]; intro h; injections
  · rw [say_nc]; intro h; injections
  · rw [say_pu]; intro h; injections
  · rw [say_pr]; intro h; injections
  · rw [say_mu]; intro h; injections
  · rw [say_px]; intro h; injections
  · rw [say_oi]; intro h; injections
  · rw [say_ma]; intro h; have : first (-1) n = -1 := congrArg C.ma h; omega
  · rw [say_sa]; intro h; have : first (-1) n = -1 := congrArg C.sa h; omega
  · rw [say_ms]; intro h; have : first (-1) n = -1 := congrArg C.ms h; omega
  · rw [say_mf]; intro h; have : first (-1) n = -1 := congrArg C.mf h; omega
theorem bare_range (nm : List UInt8) : 0 ≤ bare nm := by unfold bare; split <;> decide
theorem quiet_known {nm arg : List UInt8} (h : token nm = true) (ha : token arg = true) (hk : lower nm ∈ known) : parse [nm] ≠ none0 ∧ parse [nm ++ 61 :: arg] ≠ none0 := by
  rw [parse_bare h, parse_arg h ha]
  exact ⟨say_known hk _ (bare_range _), say_known hk _ (worth_range arg).1⟩
theorem quiet_other {nm arg : List UInt8} (h : token nm = true) (ha : token arg = true) (hk : lower nm ∉ known) : parse [nm, nm ++ 61 :: arg, nm ++ 61 :: (34 :: arg ++ [34])] = none0 := by
  have e1 := parse_bare h
  have e2 := parse_arg h ha
  have e3 := parse_argq h ha
  rw [say_not hk] at e1 e2 e3
  have t2 : ∀ (a : List UInt8) (r : List (List UInt8)), parse (a :: r) = merge (parse [a]) (parse r) := fun a r => by
    unfold parse splitAll
    simp only [List.flatMap_cons, List.flatMap_nil, List.append_nil]
    exact sayAll_append _ _
  rw [t2, t2 (nm ++ 61 :: arg), e1, e2, e3]; rfl

/-- One piece more, behind a comma and a blank; a text that is empty counts for none. -/
def addP (acc s : List UInt8) : List UInt8 := if s = [] then acc else if acc = [] then s else acc ++ [44, 32] ++ s
theorem joinC_nil {ps : List (List UInt8)} (h : ∀ p ∈ ps, p ≠ []) (hj : joinC ps = []) : ps = [] := by
  match ps, h, hj with
  | [], _, _ => rfl
  | [p], h, hj => exact absurd hj (h p (by simp))
  | p :: q :: r, _, hj => simp [joinC] at hj
theorem joinC_snoc : ∀ (ps : List (List UInt8)) (q : List UInt8), ps ≠ [] → joinC (ps ++ [q]) = joinC ps ++ [44, 32] ++ q
  | [], _, h => absurd rfl h
  | [p], q, _ => rfl
  | p :: p' :: r, q, _ => by
    have := joinC_snoc (p' :: r) q (by simp)
    show p ++ [44, 32] ++ joinC ((p' :: r) ++ [q]) = p ++ [44, 32] ++ joinC (p' :: r) ++ [44, 32] ++ q
    rw [this]; simp
theorem addP_join {ps : List (List UInt8)} (h : ∀ p ∈ ps, p ≠ []) {s : List UInt8} (hs : s ≠ []) : addP (joinC ps) s = joinC (ps ++ [s]) := by
  unfold addP
  rw [if_neg hs]
  by_cases hp : ps = []
  · subst hp; rfl
  · rw [if_neg (fun e => hp (joinC_nil h e)), joinC_snoc ps s hp]
def joinAll (ts : List (List UInt8)) : List UInt8 := ts.foldl addP []
theorem joinAll_fold : ∀ (ts ps : List (List UInt8)), (∀ p ∈ ps, p ≠ []) → ts.foldl addP (joinC ps) = joinC (ps ++ ts.filter (fun t => !t.isEmpty))
  | [], ps, _ => by simp
  | t :: ts, ps, h => by
    show ts.foldl addP (addP (joinC ps) t) = _
    by_cases ht : t = []
    · subst ht
      rw [show addP (joinC ps) [] = joinC ps from rfl, joinAll_fold ts ps h]; simp
    · have he : t.isEmpty = false := by cases t with
        | nil => exact absurd rfl ht
        | cons _ _ => rfl
      rw [addP_join h ht, joinAll_fold ts (ps ++ [t]) (fun p hp => by rcases List.mem_append.1 hp with hp | hp; exact h p hp; rw [List.mem_singleton] at hp; rw [hp]; exact ht)]
      simp [he]
theorem joinAll_snoc (ts : List (List UInt8)) (k : Nat) (h : k < ts.length) : joinAll (ts.take (k + 1)) = addP (joinAll (ts.take k)) ts[k] := by
  unfold joinAll; rw [List.take_succ_eq_append_getElem h, List.foldl_append]; rfl
/-- A flag's text, a number's text. -/
def flagT (k : List UInt8) (b : Bool) : List UInt8 := if b then k else []
def numT (k : List UInt8) (n : Int) : List UInt8 := if n < 0 then [] else k ++ 61 :: dgs 10 n.toNat
def texts (c : C) : List (List UInt8) := [flagT kNS c.ns, flagT kNC c.nc, flagT kPU c.pu, flagT kPR c.pr, flagT kMU c.mu, flagT kPX c.px, flagT kOI c.oi, numT kMA c.ma, numT kSA c.sa, numT kMS c.ms, numT kMF c.mf]
theorem filter_flag (k : List UInt8) (b : Bool) (hk : k ≠ []) (r : List (List UInt8)) : (flagT k b :: r).filter (fun t => !t.isEmpty) = flagP k b ++ r.filter (fun t => !t.isEmpty) := by
  unfold flagT flagP
  cases b with
  | true => cases k with
    | nil => exact absurd rfl hk
    | cons _ _ => rfl
  | false => rfl
theorem filter_num (k : List UInt8) (n : Int) (r : List (List UInt8)) : (numT k n :: r).filter (fun t => !t.isEmpty) = numP k n ++ r.filter (fun t => !t.isEmpty) := by
  unfold numT numP
  by_cases h : n < 0
  · rw [if_pos h, if_pos h]; rfl
  · rw [if_neg h, if_neg h]
    cases hk : k ++ 61 :: dgs 10 n.toNat with
    | nil => simp at hk
    | cons _ _ => rfl
theorem joinAll_texts (c : C) : joinAll (texts c) = print c := by
  have h := joinAll_fold (texts c) [] (fun p hp => by cases hp)
  unfold joinAll print
  rw [show ([] : List UInt8) = joinC [] from rfl, h]
  unfold texts pieces
  rw [filter_flag _ _ (by decide), filter_flag _ _ (by decide), filter_flag _ _ (by decide), filter_flag _ _ (by decide), filter_flag _ _ (by decide), filter_flag _ _ (by decide), filter_flag _ _ (by decide), filter_num, filter_num, filter_num, filter_num]
  simp
theorem addP_len (acc s : List UInt8) : (addP acc s).length ≤ acc.length + s.length + 2 := by
  unfold addP; split
  · omega
  · split
    · omega
    · simp; omega
theorem joinAll_len (M : Nat) : ∀ (ts : List (List UInt8)) (acc : List UInt8), (∀ t ∈ ts, t.length ≤ M) → (ts.foldl addP acc).length ≤ acc.length + ts.length * (M + 2)
  | [], acc, _ => by simp
  | t :: ts, acc, h => by
    have h1 := joinAll_len M ts (addP acc t) (fun u hu => h u (by simp [hu]))
    have h2 := addP_len acc t
    have h3 := h t (by simp)
    show (ts.foldl addP (addP acc t)).length ≤ acc.length + (ts.length + 1) * (M + 2)
    rw [Nat.add_mul]; omega
theorem joinAll_take (M : Nat) (ts : List (List UInt8)) (h : ∀ t ∈ ts, t.length ≤ M) (k : Nat) : (joinAll (ts.take k)).length ≤ ts.length * (M + 2) := by
  have h1 := joinAll_len M (ts.take k) [] (fun t ht => h t (List.mem_of_mem_take ht))
  have h2 : (ts.take k).length ≤ ts.length := List.length_take_le' _ _
  have h3 : (ts.take k).length * (M + 2) ≤ ts.length * (M + 2) := Nat.mul_le_mul_right _ h2
  unfold joinAll
  simp only [List.length_nil] at h1
  omega
theorem flagT_len (k : List UInt8) (b : Bool) : (flagT k b).length ≤ k.length := by unfold flagT; split <;> simp
theorem numT_len (k : List UInt8) (n : Int) (hn : n ≤ 9223372036854775807) : (numT k n).length ≤ k.length + 101 := by
  unfold numT; split
  · simp
  · have := dgs_len10 n.toNat (by omega)
    simp; omega
theorem texts_len (c : C) (h1 : c.ma ≤ 9223372036854775807) (h2 : c.sa ≤ 9223372036854775807) (h3 : c.ms ≤ 9223372036854775807) (h4 : c.mf ≤ 9223372036854775807) : ∀ t ∈ texts c, t.length ≤ 200 := by
  intro t ht
  simp only [texts, List.mem_cons, List.not_mem_nil, or_false] at ht
  have a1 : kNS.length = 8 := rfl
  have a2 : kNC.length = 8 := rfl
  have a3 : kPU.length = 6 := rfl
  have a4 : kPR.length = 7 := rfl
  have a5 : kMU.length = 15 := rfl
  have a6 : kPX.length = 16 := rfl
  have a7 : kOI.length = 14 := rfl
  have a8 : kMA.length = 7 := rfl
  have a9 : kSA.length = 8 := rfl
  have a10 : kMS.length = 9 := rfl
  have a11 : kMF.length = 9 := rfl
  rcases ht with rfl | rfl | rfl | rfl | rfl | rfl | rfl | rfl | rfl | rfl | rfl
  · have := flagT_len kNS c.ns; omega
  · have := flagT_len kNC c.nc; omega
  · have := flagT_len kPU c.pu; omega
  · have := flagT_len kPR c.pr; omega
  · have := flagT_len kMU c.mu; omega
  · have := flagT_len kPX c.px; omega
  · have := flagT_len kOI c.oi; omega
  · have := numT_len kMA c.ma h1; omega
  · have := numT_len kSA c.sa h2; omega
  · have := numT_len kMS c.ms h3; omega
  · have := numT_len kMF c.mf h4; omega
theorem print_len (c : C) (h1 : c.ma ≤ 9223372036854775807) (h2 : c.sa ≤ 9223372036854775807) (h3 : c.ms ≤ 9223372036854775807) (h4 : c.mf ≤ 9223372036854775807) : (print c).length ≤ 3000 := by
  rw [← joinAll_texts]
  have := joinAll_len 200 (texts c) [] (texts_len c h1 h2 h3 h4)
  unfold joinAll
  simp [texts] at this ⊢
  omega
end Ctl
