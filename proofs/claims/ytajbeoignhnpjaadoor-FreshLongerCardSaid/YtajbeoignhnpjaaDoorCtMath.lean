/- Layer 4 in plain words: what a directive is, what directives say, as which text they are written. -/
import Derived.Test.YtajbeoignhnpjaaDoorOctMath
import Derived.Lib.IndexBytes
import Derived.Lib.IndexMore
namespace Ctl
open Oct

/-- What Cache-Control says. -/
structure C where
  ns : Bool
  nc : Bool
  pu : Bool
  pr : Bool
  mu : Bool
  px : Bool
  oi : Bool
  ma : Int
  sa : Int
  ms : Int
  mf : Int
deriving DecidableEq

def none0 : C := ⟨false, false, false, false, false, false, false, -1, -1, -1, -1⟩

def kNS : List UInt8 := [110, 111, 45, 115, 116, 111, 114, 101]
def kNC : List UInt8 := [110, 111, 45, 99, 97, 99, 104, 101]
def kPU : List UInt8 := [112, 117, 98, 108, 105, 99]
def kPR : List UInt8 := [112, 114, 105, 118, 97, 116, 101]
def kMU : List UInt8 := [109, 117, 115, 116, 45, 114, 101, 118, 97, 108, 105, 100, 97, 116, 101]
def kPX : List UInt8 := [112, 114, 111, 120, 121, 45, 114, 101, 118, 97, 108, 105, 100, 97, 116, 101]
def kOI : List UInt8 := [111, 110, 108, 121, 45, 105, 102, 45, 99, 97, 99, 104, 101, 100]
def kMA : List UInt8 := [109, 97, 120, 45, 97, 103, 101]
def kSA : List UInt8 := [115, 45, 109, 97, 120, 97, 103, 101]
def kMS : List UInt8 := [109, 97, 120, 45, 115, 116, 97, 108, 101]
def kMF : List UInt8 := [109, 105, 110, 45, 102, 114, 101, 115, 104]
def known : List (List UInt8) := [kNS, kNC, kPU, kPR, kMU, kPX, kOI, kMA, kSA, kMS, kMF]

/-- Where the = stands (the length, if there is none). -/
def eqAt : List UInt8 → Nat
  | [] => 0
  | c :: r => if c = 61 then 0 else eqAt r + 1
theorem eqAt_le (l : List UInt8) : eqAt l ≤ l.length := by
  induction l with
  | nil => exact Nat.le_refl 0
  | cons c r ih => unfold eqAt; split <;> simp <;> omega
theorem eqAt_at : ∀ (l : List UInt8) (i : Nat), (∀ j (h : j < l.length), j < i → l[j] ≠ 61) → (∀ h : i < l.length, l[i] = 61) → i ≤ l.length → eqAt l = i
  | [], i, _, _, h => by simp at h; subst h; rfl
  | c :: r, 0, _, h2, _ => by unfold eqAt; rw [if_pos (show c = 61 from h2 (by simp))]
  | c :: r, i + 1, h1, h2, h => by
    unfold eqAt
    rw [if_neg (show ¬ c = 61 from h1 0 (by simp) (by omega)), eqAt_at r i (fun j hj hl => by have := h1 (j + 1) (by simpa using hj) (by omega); simpa using this) (fun hl => by have := h2 (by simpa using hl); simpa using this) (by simpa using h)]
theorem eqAt_index (l : List UInt8) : Go.Lib.indexByte l 61 = if eqAt l = l.length then -1 else (eqAt l : Int) := by
  induction l with
  | nil => rfl
  | cons c r ih =>
    have hle := eqAt_le r
    have he : eqAt (c :: r) = if c = 61 then 0 else eqAt r + 1 := by rw [eqAt]
    rw [he]
    by_cases hc : c = 61
    · subst hc; simp [Go.Lib.indexByte]
    · have hb : (c == 61) = false := beq_eq_false_iff_ne.2 hc
      simp only [Go.Lib.indexByte, hb, Bool.false_eq_true, if_false, if_neg hc, ih]
      by_cases hr : eqAt r = r.length
      · rw [if_pos hr]; simp [hr]
      · rw [if_neg hr]
        have : ((eqAt r : Int) == -1) = false := beq_eq_false_iff_ne.2 (by omega)
        simp [this, hr]
theorem eqAt_none : ∀ (l : List UInt8), (∀ c ∈ l, c ≠ 61) → eqAt l = l.length
  | [], _ => rfl
  | c :: r, h => by unfold eqAt; rw [if_neg (h c (by simp)), eqAt_none r (fun x hx => h x (by simp [hx]))]; rfl
theorem eqAt_app : ∀ (l r : List UInt8), (∀ c ∈ l, c ≠ 61) → eqAt (l ++ 61 :: r) = l.length
  | [], r, _ => by simp [eqAt]
  | c :: l, r, h => by
    show eqAt (c :: (l ++ 61 :: r)) = _
    unfold eqAt; rw [if_neg (h c (by simp)), eqAt_app l r (fun x hx => h x (by simp [hx]))]; rfl

/-- What stands behind a =. -/
def argument (s : List UInt8) : Option (List UInt8) := if token s then some s else match unquote s with
  | some (t, n) => if n = s.length then some t else none
  | none => none
theorem unq_len : ∀ (l : List UInt8) (e : Bool) (t : List UInt8) (n : Nat), unq e l = some (t, n) → t.length ≤ l.length
  | [], _, _, _, h => by simp [unq] at h
  | c :: r, e, t, n, h => by
    unfold unq at h
    split at h
    · cases h
    · split at h
      · cases hr : unq false r with
        | none => rw [hr] at h; cases h
        | some x =>
          rw [hr] at h
          have := unq_len r false x.1 x.2 hr
          injection h with h; injection h with h _; rw [← h]; simpa using this
      · split at h
        · cases hr : unq true r with
          | none => rw [hr] at h; cases h
          | some x =>
            rw [hr] at h
            have := unq_len r true x.1 x.2 hr
            injection h with h; injection h with h _; rw [← h]; simp; omega
        · split at h
          · injection h with h; injection h with h _; rw [← h]; simp
          · cases hr : unq false r with
            | none => rw [hr] at h; cases h
            | some x =>
              rw [hr] at h
              have := unq_len r false x.1 x.2 hr
              injection h with h; injection h with h _; rw [← h]; simpa using this
theorem unquote_len {l t : List UInt8} {n : Nat} (h : unquote l = some (t, n)) : t.length ≤ l.length := by
  cases l with
  | nil => cases h
  | cons c r =>
    unfold unquote at h
    split at h
    · cases h
    · rename_i d s heq
      injection heq with _ e2
      subst e2
      first
        | (split at h
           · cases hr : unq false r with
             | none => rw [hr] at h; cases h
             | some x =>
               rw [hr] at h
               have := unq_len r false x.1 x.2 hr
               injection h with h; injection h with h _; rw [← h]; simp; omega
           · cases h)
theorem argument_len {s a : List UInt8} (h : argument s = some a) : a.length ≤ s.length := by
  unfold argument at h
  split at h
  · injection h with h; rw [h]; exact Nat.le_refl _
  · split at h
    · rename_i t n hu
      split at h
      · injection h with h; rw [← h]; exact unquote_len hu
      · cases h
    · cases h
/-- An argument's number. -/
def worth (s : List UInt8) : Int := if (number 10 2147483647 s).2 = 12 then 2147483647 else (number 10 2147483647 s).1
/-- The number of a directive without an argument. -/
def bare (nm : List UInt8) : Int := if nm = kMS then 2147483647 else 0
/-- A piece's name, in small letters, and its number. -/
def directive (l : List UInt8) : Option (List UInt8 × Int) :=
  if token (l.take (eqAt l)) = false then none
  else if eqAt l = l.length then some (lower l, bare (lower l))
  else (argument (l.drop (eqAt l + 1))).map fun s => (lower (l.take (eqAt l)), worth s)

def first (p n : Int) : Int := if p < 0 then n else p
def say (c : C) (nm : List UInt8) (n : Int) : C :=
  { ns := c.ns || decide (nm = kNS), nc := c.nc || decide (nm = kNC), pu := c.pu || decide (nm = kPU), pr := c.pr || decide (nm = kPR), mu := c.mu || decide (nm = kMU), px := c.px || decide (nm = kPX), oi := c.oi || decide (nm = kOI),
    ma := if nm = kMA then first c.ma n else c.ma, sa := if nm = kSA then first c.sa n else c.sa, ms := if nm = kMS then first c.ms n else c.ms, mf := if nm = kMF then first c.mf n else c.mf }
def step (c : C) (p : List UInt8) : C := match directive p with
  | some (nm, n) => say c nm n
  | none => c
def sayAll (ps : List (List UInt8)) : C := ps.foldl step none0
/-- What the texts say. -/
def parse (ls : List (List UInt8)) : C := sayAll (splitAll ls)

/-- No piece is longer than its text. -/
theorem scan_piece (M : Nat) : ∀ (l : List UInt8) (st : List (List UInt8) × List UInt8 × Bool × Bool), (∀ p ∈ st.1, p.length ≤ M) → st.2.1.length + l.length ≤ M → (∀ p ∈ (l.foldl scan1 st).1, p.length ≤ M) ∧ (l.foldl scan1 st).2.1.length ≤ M
  | [], st, h1, h2 => ⟨h1, by simpa using h2⟩
  | c :: l, st, h1, h2 => by
    have h2' : st.2.1.length + (l.length + 1) ≤ M := by simpa using h2
    refine scan_piece M l (scan1 st c) ?_ ?_
    · unfold scan1
      split
      · intro p hp
        rcases List.mem_append.1 hp with hp | hp
        · exact h1 p hp
        · unfold emit at hp
          split at hp
          · cases hp
          · rw [List.mem_singleton] at hp; subst hp
            have := trim_len st.2.1; omega
      · exact h1
    · unfold scan1
      split
      · simp; omega
      · simp; omega
theorem splitText_piece {l p : List UInt8} (h : p ∈ splitText l) : p.length ≤ l.length := by
  have hs := scan_piece l.length l ([], [], false, false) (fun p hp => by cases hp) (by simp)
  unfold splitText scan at h
  rcases List.mem_append.1 h with h | h
  · exact hs.1 p h
  · unfold emit at h
    split at h
    · cases h
    · rw [List.mem_singleton] at h; subst h
      have := trim_len (l.foldl scan1 ([], [], false, false)).2.1
      have := hs.2; omega
theorem splitAll_piece {ls : List (List UInt8)} {M : Nat} (hM : ∀ l ∈ ls, l.length ≤ M) {p : List UInt8} (h : p ∈ splitAll ls) : p.length ≤ M := by
  unfold splitAll at h
  obtain ⟨l, hl, hp⟩ := List.mem_flatMap.1 h
  exact Nat.le_trans (splitText_piece hp) (hM l hl)

/-- The zero value. -/
def zeroC : C := ⟨false, false, false, false, false, false, false, 0, 0, 0, 0⟩
theorem step_none {c : C} {p : List UInt8} (h : directive p = none) : step c p = c := by unfold step; rw [h]
theorem step_some {c : C} {p nm : List UInt8} {n : Int} (h : directive p = some (nm, n)) : step c p = say c nm n := by unfold step; rw [h]
theorem sayAll_snoc (ps : List (List UInt8)) (k : Nat) (h : k < ps.length) : sayAll (ps.take (k + 1)) = step (sayAll (ps.take k)) ps[k] := by
  unfold sayAll; rw [List.take_succ_eq_append_getElem h, List.foldl_append]; rfl

/-- The switch of the program: one name at a time. -/
theorem say_not {c : C} {nm : List UInt8} {n : Int} (h : nm ∉ known) : say c nm n = c := by
  have h' : ∀ k, k ∈ known → ¬ nm = k := fun k hk e => h (e ▸ hk)
  obtain ⟨a1, a2, a3, a4, a5, a6, a7, a8, a9, a10, a11⟩ : ¬ nm = kNS ∧ ¬ nm = kNC ∧ ¬ nm = kPU ∧ ¬ nm = kPR ∧ ¬ nm = kMU ∧ ¬ nm = kPX ∧ ¬ nm = kOI ∧ ¬ nm = kMA ∧ ¬ nm = kSA ∧ ¬ nm = kMS ∧ ¬ nm = kMF :=
    ⟨h' _ (by simp [known]), h' _ (by simp [known]), h' _ (by simp [known]), h' _ (by simp [known]), h' _ (by simp [known]), h' _ (by simp [known]), h' _ (by simp [known]), h' _ (by simp [known]), h' _ (by simp [known]), h' _ (by simp [known]), h' _ (by simp [known])⟩
  unfold say
  simp only [decide_eq_false a1, decide_eq_false a2, decide_eq_false a3, decide_eq_false a4, decide_eq_false a5, decide_eq_false a6, decide_eq_false a7, if_neg a8, if_neg a9, if_neg a10, if_neg a11, Bool.or_false]

theorem say_ns (c : C) (n : Int) : say c kNS n = { c with ns := true } := by cases c; simp [say, kNS, kNC, kPU, kPR, kMU, kPX, kOI, kMA, kSA, kMS, kMF]
theorem say_nc (c : C) (n : Int) : say c kNC n = { c with nc := true } := by cases c; simp [say, kNS, kNC, kPU, kPR, kMU, kPX, kOI, kMA, kSA, kMS, kMF]
theorem say_pu (c : C) (n : Int) : say c kPU n = { c with pu := true } := by cases c; simp [say, kNS, kNC, kPU, kPR, kMU, kPX, kOI, kMA, kSA, kMS, kMF]
theorem say_pr (c : C) (n : Int) : say c kPR n = { c with pr := true } := by cases c; simp [say, kNS, kNC, kPU, kPR, kMU, kPX, kOI, kMA, kSA, kMS, kMF]
theorem say_mu (c : C) (n : Int) : say c kMU n = { c with mu := true } := by cases c; simp [say, kNS, kNC, kPU, kPR, kMU, kPX, kOI, kMA, kSA, kMS, kMF]
theorem say_px (c : C) (n : Int) : say c kPX n = { c with px := true } := by cases c; simp [say, kNS, kNC, kPU, kPR, kMU, kPX, kOI, kMA, kSA, kMS, kMF]
theorem say_oi (c : C) (n : Int) : say c kOI n = { c with oi := true } := by cases c; simp [say, kNS, kNC, kPU, kPR, kMU, kPX, kOI, kMA, kSA, kMS, kMF]
theorem say_ma (c : C) (n : Int) : say c kMA n = { c with ma := first c.ma n } := by cases c; simp [say, kNS, kNC, kPU, kPR, kMU, kPX, kOI, kMA, kSA, kMS, kMF]
theorem say_sa (c : C) (n : Int) : say c kSA n = { c with sa := first c.sa n } := by cases c; simp [say, kNS, kNC, kPU, kPR, kMU, kPX, kOI, kMA, kSA, kMS, kMF]
theorem say_ms (c : C) (n : Int) : say c kMS n = { c with ms := first c.ms n } := by cases c; simp [say, kNS, kNC, kPU, kPR, kMU, kPX, kOI, kMA, kSA, kMS, kMF]
theorem say_mf (c : C) (n : Int) : say c kMF n = { c with mf := first c.mf n } := by cases c; simp [say, kNS, kNC, kPU, kPR, kMU, kPX, kOI, kMA, kSA, kMS, kMF]

/-- All numbers are -1, or one that fits. -/
def okN (n : Int) : Prop := n = -1 ∨ 0 ≤ n ∧ n ≤ 2147483647
def Ok (c : C) : Prop := okN c.ma ∧ okN c.sa ∧ okN c.ms ∧ okN c.mf
theorem ok_none : Ok none0 := ⟨.inl rfl, .inl rfl, .inl rfl, .inl rfl⟩

theorem num_range (b : Nat) (most : Int) : ∀ (l : List UInt8) (n m : Int), 0 ≤ n → n ≤ most → num b most n l = some m → 0 ≤ m ∧ m ≤ most
  | [], n, m, h1, h2, h => by simp only [num, Option.some.injEq] at h; omega
  | c :: r, n, m, h1, h2, h => by
    simp only [num] at h
    split at h
    · cases h
    · rename_i hn
      have : 0 ≤ n * (b : Int) := Int.mul_nonneg h1 (by omega)
      exact num_range b most r _ m (by omega) (by omega) h
theorem number_range (most : Int) (l : List UInt8) (hm : 0 ≤ most) : 0 ≤ (number 10 most l).1 ∧ (number 10 most l).1 ≤ most := by
  unfold number
  split
  · exact ⟨Int.le_refl 0, hm⟩
  · rw [if_neg (by omega)]
    cases h : num 10 most 0 l with
    | none => exact ⟨Int.le_refl 0, hm⟩
    | some n => exact num_range 10 most l 0 n (Int.le_refl 0) hm h
theorem worth_range (s : List UInt8) : 0 ≤ worth s ∧ worth s ≤ 2147483647 := by
  have := number_range 2147483647 s (by decide)
  unfold worth; split <;> omega
theorem directive_range {p nm : List UInt8} {n : Int} (h : directive p = some (nm, n)) : 0 ≤ n ∧ n ≤ 2147483647 := by
  unfold directive at h
  split at h
  · cases h
  · split at h
    · injection h with h; injection h with _ h
      subst h; unfold bare; split <;> decide
    · cases ha : argument (p.drop (eqAt p + 1)) with
      | none => rw [ha] at h; cases h
      | some s =>
        rw [ha] at h
        injection h with h; injection h with _ h
        subst h; exact worth_range s
theorem ok_first {p n : Int} (hp : okN p) (hn : 0 ≤ n ∧ n ≤ 2147483647) : okN (first p n) := by
  unfold first okN at *; split <;> omega
theorem ok_say {c : C} (h : Ok c) {nm : List UInt8} {n : Int} (hn : 0 ≤ n ∧ n ≤ 2147483647) : Ok (say c nm n) := by
  obtain ⟨h1, h2, h3, h4⟩ := h
  refine ⟨?_, ?_, ?_, ?_⟩
  · show okN (if _ then _ else _); split <;> first | exact ok_first h1 hn | exact h1
  · show okN (if _ then _ else _); split <;> first | exact ok_first h2 hn | exact h2
  · show okN (if _ then _ else _); split <;> first | exact ok_first h3 hn | exact h3
  · show okN (if _ then _ else _); split <;> first | exact ok_first h4 hn | exact h4
theorem ok_step {c : C} (h : Ok c) (p : List UInt8) : Ok (step c p) := by
  unfold step
  cases hd : directive p with
  | none => exact h
  | some x => exact ok_say h (directive_range hd)
theorem ok_fold : ∀ (ps : List (List UInt8)) (c : C), Ok c → Ok (ps.foldl step c)
  | [], _, h => h
  | p :: ps, _, h => ok_fold ps _ (ok_step h p)
theorem ok_sayAll (ps : List (List UInt8)) : Ok (sayAll ps) := ok_fold ps _ ok_none
theorem ok_parse (ls : List (List UInt8)) : Ok (parse ls) := ok_sayAll _

/-- One behind the other: what either says; of numbers the first. -/
def pick (p q : Int) : Int := if 0 ≤ p then p else q
def merge (c d : C) : C :=
  ⟨c.ns || d.ns, c.nc || d.nc, c.pu || d.pu, c.pr || d.pr, c.mu || d.mu, c.px || d.px, c.oi || d.oi, pick c.ma d.ma, pick c.sa d.sa, pick c.ms d.ms, pick c.mf d.mf⟩
theorem pick_first (p q n : Int) : first (pick p q) n = pick p (first q n) := by unfold first pick; (repeat' split) <;> omega
theorem merge_say (c d : C) (nm : List UInt8) (n : Int) : say (merge c d) nm n = merge c (say d nm n) := by
  unfold say merge
  simp only [Bool.or_assoc, C.mk.injEq, true_and]
  refine ⟨?_, ?_, ?_, ?_⟩ <;> (split <;> first | exact pick_first _ _ _ | rfl)
theorem merge_step (c d : C) (p : List UInt8) : step (merge c d) p = merge c (step d p) := by
  unfold step
  cases directive p with
  | none => rfl
  | some x => exact merge_say c d _ _
theorem merge_fold : ∀ (ps : List (List UInt8)) (c d : C), ps.foldl step (merge c d) = merge c (ps.foldl step d)
  | [], _, _ => rfl
  | p :: ps, c, d => by
    show ps.foldl step (step (merge c d) p) = merge c (ps.foldl step (step d p))
    rw [merge_step, merge_fold ps]
theorem merge_none {c : C} (h : Ok c) : merge c none0 = c := by
  obtain ⟨h1, h2, h3, h4⟩ := h
  have key : ∀ p : Int, okN p → pick p (-1) = p := fun p hp => by unfold pick okN at *; split <;> omega
  cases c
  simp only [merge, none0, Bool.or_false, C.mk.injEq, true_and]
  exact ⟨key _ h1, key _ h2, key _ h3, key _ h4⟩
theorem sayAll_append (ps qs : List (List UInt8)) : sayAll (ps ++ qs) = merge (sayAll ps) (sayAll qs) := by
  unfold sayAll
  rw [List.foldl_append]
  conv => lhs; rw [← merge_none (ok_fold ps none0 ok_none)]
  rw [merge_fold]
theorem parse_two (a b : List UInt8) : parse [a, b] = merge (parse [a]) (parse [b]) := by
  unfold parse splitAll
  simp only [List.flatMap_cons, List.flatMap_nil, List.append_nil]
  exact sayAll_append _ _
theorem parse_nil : parse [] = none0 := rfl

end Ctl
