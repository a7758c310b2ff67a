/- What the laws want of maps: a map whose free sectors are the last ones; what is taken in pieces and given back in any order is whole again. Nothing of any program. -/
import Derived.Test.YtgfgafondiipoaaSpMath
namespace Sp

/-! ### free sectors behind all that are taken -/
theorem ball_take {b : M} {P : Cell → Prop} (h : ∀ c ∈ b, P c) (n : Nat) : ∀ c ∈ b.take n, P c := fun c hc => h c (List.mem_of_mem_take hc)
theorem take_last (a b : M) (ha : ∀ c ∈ a, c.1 ≠ 0) (hb : ∀ c ∈ b, c.1 = 0) (N : Int) (hN : 1 ≤ N) :
    take N (a ++ b) = if N ≤ (b.length : Int) then (a ++ (b.take N.toNat).map anew ++ b.drop N.toNat, ((a.length : Int), N), true) else (a ++ b, (0, 0), false) := by
  unfold take
  rw [runs_one a b ha hb]
  by_cases h0 : b.length = 0
  · rw [if_pos h0, if_neg (by omega)]; rfl
  · rw [if_neg h0]
    by_cases hle : N ≤ (b.length : Int)
    · rw [if_pos hle]
      have : [(a.length, b.length)].find? (fun e => decide (1 ≤ N ∧ N ≤ (e.2 : Int))) = some (a.length, b.length) := by
        rw [List.find?_cons_of_pos]; simp [hN, hle]
      rw [this]
      simp only
      rw [put_at anew (m := a ++ b) (a := a) (b := b.take N.toNat) (c := b.drop N.toNat) (by rw [List.append_assoc, List.take_append_drop]) rfl (by rw [List.length_take]; omega)]
    · rw [if_neg hle]
      have : [(a.length, b.length)].find? (fun e => decide (1 ≤ N ∧ N ≤ (e.2 : Int))) = none := by
        rw [List.find?_cons_of_neg]; rfl
        simp; omega
      rw [this]
def rep (n s : Nat) (w : Bool) : M := List.replicate n (s, w)
theorem rep_length (n s : Nat) (w : Bool) : (rep n s w).length = n := List.length_replicate
theorem rep_mem {n s : Nat} {w : Bool} {c : Cell} (h : c ∈ rep n s w) : c = (s, w) := List.eq_of_mem_replicate h
theorem rep_map (f : Cell → Cell) (n s : Nat) (w : Bool) : (rep n s w).map f = List.replicate n (f (s, w)) := List.map_replicate
theorem rep_add (a b s : Nat) (w : Bool) : rep a s w ++ rep b s w = rep (a + b) s w := by unfold rep; rw [List.replicate_append_replicate]
theorem rep_free (n s : Nat) (w : Bool) : free (rep n s w) = if s = 0 then n else 0 := by
  unfold free rep; rw [List.countP_replicate]; simp [isFree]
theorem rep_waiting (n s : Nat) (w : Bool) : waiting (rep n s w) = if w then n else 0 := by
  unfold waiting rep; rw [List.countP_replicate]
theorem free_append (a b : M) : free (a ++ b) = free a + free b := List.countP_append
theorem waiting_append (a b : M) : waiting (a ++ b) = waiting a + waiting b := List.countP_append
theorem new_rep (n : Nat) : new n = rep n 0 false := rfl
theorem new_free (n : Nat) : free (new n) = n := by rw [new_rep, rep_free]; rfl
theorem new_waiting (n : Nat) : waiting (new n) = 0 := by rw [new_rep, rep_waiting]; rfl
theorem new_runs (n : Nat) (h : n ≠ 0) : runs 0 (new n) = [(0, n)] := by
  have := runs_one [] (new n) (fun _ h => nomatch h) (fun c hc => by rw [rep_mem hc])
  rw [List.nil_append, show (new n).length = n from rep_length .., if_neg h] at this
  exact this
/-- SpaceFirst's map: so many are taken, anew, the others are free. -/
def firsts (n k : Nat) : M := rep k 2 false ++ rep (n - k) 0 false
theorem firsts_zero (n : Nat) : firsts n 0 = new n := rfl
theorem firsts_length {n k : Nat} (h : k ≤ n) : (firsts n k).length = n := by unfold firsts; rw [List.length_append, rep_length, rep_length]; omega
theorem firsts_free {n k : Nat} : free (firsts n k) = n - k := by unfold firsts; rw [free_append, rep_free, rep_free]; simp
theorem firsts_take {n k : Nat} (hk : k ≤ n) (N : Int) (hN : 1 ≤ N) : take N (firsts n k) = if (k : Int) + N ≤ n then (firsts n (k + N.toNat), ((k : Int), N), true) else (firsts n k, (0, 0), false) := by
  unfold firsts
  rw [take_last _ _ (fun c hc => by rw [rep_mem hc]; decide) (fun c hc => by rw [rep_mem hc]) N hN, rep_length, rep_length]
  by_cases h : (k : Int) + N ≤ n
  · rw [if_pos (by omega), if_pos h]
    have h1 : (rep (n - k) 0 false).take N.toNat = rep N.toNat 0 false := by unfold rep; rw [List.take_replicate]; congr 1; omega
    have h2 : (rep (n - k) 0 false).drop N.toNat = rep (n - (k + N.toNat)) 0 false := by unfold rep; rw [List.drop_replicate]; congr 1; omega
    rw [h1, h2, rep_map]
    have : rep k 2 false ++ List.replicate N.toNat (anew (0, false)) = rep (k + N.toNat) 2 false := rep_add ..
    rw [this]
  · rw [if_neg (by omega), if_neg h]

/-! ### SpaceWaits -/
/-- b taken anew behind a that wait or not, c free. -/
def three (a b c : Nat) (s : Nat) (w : Bool) (s2 : Nat) : M := rep a s w ++ rep b s2 false ++ rep c 0 false
theorem three_length (a b c s : Nat) (w : Bool) (s2 : Nat) : (three a b c s w s2).length = a + b + c := by unfold three; rw [List.length_append, List.length_append, rep_length, rep_length, rep_length]
theorem three_commit {a b c s s2 : Nat} {w : Bool} : commit (three a b c s w s2) = List.replicate a (done (s, w)) ++ List.replicate b (done (s2, false)) ++ rep c 0 false := by
  unfold commit three; rw [List.map_append, List.map_append, rep_map, rep_map, rep_map]; rfl
theorem three_abort {a b c s s2 : Nat} {w : Bool} : abort (three a b c s w s2) = List.replicate a (off (s, w)) ++ List.replicate b (off (s2, false)) ++ rep c 0 false := by
  unfold abort three; rw [List.map_append, List.map_append, rep_map, rep_map, rep_map]; rfl
theorem three_take {a b c : Nat} {s : Nat} {w : Bool} (hs : s ≠ 0) (N : Int) (hN : 1 ≤ N) :
    take N (three a b c s w 2) = if N ≤ (c : Int) then (three a (b + N.toNat) (c - N.toNat) s w 2, ((a : Int) + b, N), true) else (three a b c s w 2, (0, 0), false) := by
  have hall : ∀ x ∈ rep a s w ++ rep b 2 false, x.1 ≠ 0 := fun x hx => by
    rcases List.mem_append.mp hx with hx | hx
    · rw [rep_mem hx]; exact hs
    · rw [rep_mem hx]; decide
  unfold three
  rw [take_last _ _ hall (fun x hx => by rw [rep_mem hx]) N hN, rep_length]
  by_cases h : N ≤ (c : Int)
  · rw [if_pos h, if_pos h]
    have h1 : (rep c 0 false).take N.toNat = rep N.toNat 0 false := by unfold rep; rw [List.take_replicate]; congr 1; omega
    have h2 : (rep c 0 false).drop N.toNat = rep (c - N.toNat) 0 false := by unfold rep; rw [List.drop_replicate]
    rw [h1, h2, rep_map, List.length_append, rep_length, rep_length]
    have : rep b 2 false ++ List.replicate N.toNat (anew (0, false)) = rep (b + N.toNat) 2 false := rep_add ..
    rw [List.append_assoc (rep a s w), this]
    rw [Int.natCast_add]
  · rw [if_neg h, if_neg h]
theorem er_ie (e : Run) : er (ie e) = e := rfl
theorem apart_one {len : Nat} {e : Ext} (h : RightE len e) : Apart len [e] := ⟨fun x hx => by simp at hx; rw [hx]; exact h, List.pairwise_singleton ..⟩
theorem give_one {m : M} {e : Run} (h1 : 1 ≤ e.2) (h2 : e.1 + e.2 ≤ m.length) (h : ∀ i, e.1 ≤ i → i < e.1 + e.2 → ∃ s, s ≠ 0 ∧ m[i]? = some (s, false)) : give [ie e] m = (put e.1 e.2 wait m, true) := by
  unfold give
  rw [if_pos]
  · rfl
  · refine ⟨apart_one ⟨by simp [ie], by simp [ie]; omega, by simp [ie]; omega, by simp [ie]; omega⟩, fun x hx i hi hin => ?_⟩
    simp at hx; subst hx
    obtain ⟨s, hs, he⟩ := h i (by have := hin.1; simp [ie] at this; omega) (by have := hin.2; simp [ie] at this; omega)
    rw [List.getElem?_eq_getElem hi] at he
    rw [Option.some.inj he]; exact ⟨hs, rfl⟩
theorem give_none {m : M} {e : Run} (i : Nat) (h1 : e.1 ≤ i) (h2 : i < e.1 + e.2) (h : ∀ c, m[i]? = some c → c.1 = 0 ∨ c.2 = true) : give [ie e] m = (m, false) := by
  unfold give
  rw [if_neg]
  intro hc
  have hr := hc.1.1 (ie e) (by simp)
  have hi : i < m.length := by obtain ⟨_, _, _, h4⟩ := hr; simp [ie] at h4; omega
  have := hc.2 (ie e) (by simp) i hi ⟨by simp [ie]; omega, by simp [ie]; omega⟩
  rcases h m[i] (List.getElem?_eq_getElem hi) with h | h
  · exact this.1 h
  · rw [h] at this; exact nomatch this.2
theorem hold_none {m : M} {e : Run} (i : Nat) (h1 : e.1 ≤ i) (h2 : i < e.1 + e.2) (h : ∀ c, m[i]? = some c → c.1 ≠ 0) : hold [ie e] m = (m, false) := by
  unfold hold
  rw [if_neg]
  intro hc
  have hr := hc.1.1 (ie e) (by simp)
  have hi : i < m.length := by obtain ⟨_, _, _, h4⟩ := hr; simp [ie] at h4; omega
  exact h m[i] (List.getElem?_eq_getElem hi) (hc.2 (ie e) (by simp) i hi ⟨by simp [ie]; omega, by simp [ie]; omega⟩)
theorem hold_one {m : M} {e : Run} (h1 : 1 ≤ e.2) (h2 : e.1 + e.2 ≤ m.length) (h : ∀ i, e.1 ≤ i → i < e.1 + e.2 → ∃ w, m[i]? = some (0, w)) : hold [ie e] m = (put e.1 e.2 held m, true) := by
  unfold hold
  rw [if_pos]
  · rfl
  · refine ⟨apart_one ⟨by simp [ie], by simp [ie]; omega, by simp [ie]; omega, by simp [ie]; omega⟩, fun x hx i hi hin => ?_⟩
    simp at hx; subst hx
    obtain ⟨w, he⟩ := h i (by have := hin.1; simp [ie] at this; omega) (by have := hin.2; simp [ie] at this; omega)
    rw [List.getElem?_eq_getElem hi] at he
    rw [Option.some.inj he]
theorem three_get {a b c s s2 : Nat} {w : Bool} {i : Nat} (h : i < a) : (three a b c s w s2)[i]? = some (s, w) := by
  unfold three
  rw [List.append_assoc, List.getElem?_append_left (by rw [rep_length]; exact h)]
  unfold rep; rw [List.getElem?_replicate, if_pos h]
theorem three_free {a b c s s2 : Nat} {w : Bool} (hs : s ≠ 0) (h2 : s2 ≠ 0) : free (three a b c s w s2) = c := by
  unfold three; rw [free_append, free_append, rep_free, rep_free, rep_free, if_neg hs, if_neg h2, if_pos rfl]; omega
theorem three_give {a b c s s2 : Nat} (hs : s ≠ 0) (ha : 1 ≤ a) : give [ie (0, a)] (three a b c s false s2) = (three a b c s true s2, true) := by
  rw [give_one (e := (0, a)) ha (by rw [three_length]; simp only; omega) (fun i _ hi => ⟨s, hs, three_get (by simp only at hi; omega)⟩)]
  have : put 0 a wait (three a b c s false s2) = three a b c s true s2 := by
    rw [put_at (k := 0) (n := a) wait (m := three a b c s false s2) (a := []) (b := rep a s false) (c := rep b s2 false ++ rep c 0 false) (by unfold three; rw [List.nil_append, List.append_assoc]) rfl (rep_length ..), rep_map]
    unfold three; rw [List.nil_append, List.append_assoc]; rfl
  rw [this]

theorem w_take1 {A : Nat} {a : Int} (hA : (A : Int) = a) (h1 : 1 ≤ A) (h2 : A ≤ 100) : take a (new 100) = (firsts 100 A, (0, a), true) := by
  have := firsts_take (n := 100) (k := 0) (by decide) a (by omega)
  rw [if_pos (show ((0 : Nat) : Int) + a ≤ ((100 : Nat) : Int) by omega), firsts_zero, show 0 + a.toNat = A from by omega] at this
  exact this
theorem w_commit (A : Nat) : commit (firsts 100 A) = three A 0 (100 - A) 1 false 2 := by
  unfold commit firsts three
  rw [List.map_append, rep_map, rep_map]; show rep A 1 false ++ rep (100 - A) 0 false = rep A 1 false ++ rep 0 2 false ++ rep (100 - A) 0 false
  rw [show rep 0 2 false = [] from rfl, List.append_nil]
theorem w_take2 {A B : Nat} {a b : Int} (hA : (A : Int) = a) (hB : (B : Int) = b) (h1 : 1 ≤ B) (h2 : A + B ≤ 100) : take b (three A 0 (100 - A) 1 false 2) = (three A B (100 - A - B) 1 false 2, (a, b), true) := by
  subst hA
  rw [three_take (by decide) b (by omega), if_pos (by omega), show 0 + b.toNat = B from by omega, show b.toNat = B from by omega]
  simp
theorem w_take3 {A B C K : Nat} {a b k : Int} (hA : (A : Int) = a) (hB : (B : Int) = b) (hK : (K : Int) = k) (h1 : 1 ≤ K) : take k (three A B C 1 true 2) = if k ≤ (C : Int) then (three A (B + K) (C - K) 1 true 2, (a + b, k), true) else (three A B C 1 true 2, (0, 0), false) := by
  subst hA hB
  rw [three_take (by decide) k (by omega), show k.toNat = K from by omega]
theorem w_take4 {A B C K : Nat} {a b k : Int} (hA : (A : Int) = a) (hB : (B : Int) = b) (hK : (K : Int) = k) (h1 : 1 ≤ K) : ∃ (B' C' : Nat) (za zn : Int) (got : Bool), take k (three A B C 1 true 2) = (three A B' C' 1 true 2, (za, zn), got) ∧ A + B' + C' = A + B + C ∧ got = decide (k ≤ (C : Int)) ∧ (got = true → za = a + b) := by
  rw [w_take3 hA hB hK h1]
  by_cases h : k ≤ (C : Int)
  · rw [if_pos h]; exact ⟨B + K, C - K, _, _, _, rfl, by omega, (decide_eq_true h).symm, fun _ => rfl⟩
  · rw [if_neg h]; exact ⟨B, C, _, _, _, rfl, rfl, (decide_eq_false h).symm, fun e => nomatch e⟩
theorem w_give {A B C : Nat} {a : Int} (hA : (A : Int) = a) (h1 : 1 ≤ A) (s2 : Nat) : give [((0 : Int), a)] (three A B C 1 false s2) = (three A B C 1 true s2, true) := by
  subst hA; exact three_give (by decide) h1
theorem w_hold {A B C : Nat} {a : Int} (hA : (A : Int) = a) (h1 : 1 ≤ A) (w : Bool) (s2 : Nat) : hold [((0 : Int), a)] (three A B C 1 w s2) = (three A B C 1 w s2, false) := by
  subst hA
  exact hold_none (e := (0, A)) 0 (Nat.le_refl _) (by simp only; omega) (fun c hc => by rw [three_get h1] at hc; rw [← Option.some.inj hc]; exact (by decide : (1 : Nat) ≠ 0))
theorem w_abort (A B C : Nat) : abort (three A B C 1 true 2) = three A B C 1 false 0 := three_abort
theorem w_free0 (A B C : Nat) (w : Bool) : free (three A B C 1 w 0) = B + C := by
  unfold three; rw [free_append, free_append, rep_free, rep_free, rep_free]; simp
theorem w_wait0 (A B C : Nat) : waiting (three A B C 1 false 0) = 0 := by
  unfold three; rw [waiting_append, waiting_append, rep_waiting, rep_waiting, rep_waiting]; rfl
theorem w_done (A B C : Nat) : commit (three A B C 1 true 0) = new (A + B + C) := by
  rw [three_commit]
  show rep A 0 false ++ rep B 0 false ++ rep C 0 false = rep (A + B + C) 0 false
  rw [rep_add, rep_add]
theorem w_new {A : Nat} {a : Int} (hA : (A : Int) = a) (h1 : 1 ≤ A) (h2 : A ≤ 100) : (hold [((0 : Int), a)] (new 100)).2 = true := by
  subst hA
  have := hold_one (m := new 100) (e := (0, A)) h1 (by rw [new_rep, rep_length]; simp only; omega) (fun i _ hi => ⟨false, by rw [new_rep]; unfold rep; rw [List.getElem?_replicate, if_pos (by simp only at hi; omega)]⟩)
  show (hold [ie (0, A)] (new 100)).2 = true
  rw [this]
def exam : M := put 0 4 wait (firsts 10 8)
theorem exam_give : give [((0 : Int), (4 : Int))] (firsts 10 8) = (exam, true) := by
  have := give_one (m := firsts 10 8) (e := (0, 4)) (by decide) (by decide) (fun i _ hi => ⟨2, by decide, by
    simp only at hi
    match i, hi with
    | 0, _ => decide
    | 1, _ => decide
    | 2, _ => decide
    | 3, _ => decide⟩)
  exact this

/-! ### SpaceBack -/
def Cov (es : List Run) (i : Nat) : Prop := ∃ e ∈ es, e.1 ≤ i ∧ i < e.1 + e.2
def Offs (e f : Run) : Prop := e.1 + e.2 ≤ f.1 ∨ f.1 + f.2 ≤ e.1
theorem Offs.symm {e f : Run} (h : Offs e f) : Offs f e := h.elim Or.inr Or.inl
theorem cov_append {a b : List Run} {i : Nat} : Cov (a ++ b) i ↔ Cov a i ∨ Cov b i := by
  unfold Cov; simp only [List.mem_append]
  constructor
  · rintro ⟨e, h | h, hi⟩
    · exact Or.inl ⟨e, h, hi⟩
    · exact Or.inr ⟨e, h, hi⟩
  · rintro (⟨e, h, hi⟩ | ⟨e, h, hi⟩)
    · exact ⟨e, Or.inl h, hi⟩
    · exact ⟨e, Or.inr h, hi⟩
theorem cov_cons {e : Run} {b : List Run} {i : Nat} : Cov (e :: b) i ↔ (e.1 ≤ i ∧ i < e.1 + e.2) ∨ Cov b i := by
  unfold Cov; simp
theorem cov_nil {i : Nat} : ¬ Cov [] i := fun ⟨_, h, _⟩ => nomatch h
open Classical in
theorem puts_get (f : Cell → Cell) (hf : ∀ c, f (f c) = f c) (i : Nat) : ∀ (es : List Run) (m : M), (puts f es m)[i]? = if Cov es i then (m[i]?).map f else m[i]?
  | [], m => by rw [if_neg cov_nil]; rfl
  | e :: t, m => by
    show (puts f t (put e.1 e.2 f m))[i]? = _
    rw [puts_get f hf i t, put_get]
    by_cases h1 : e.1 ≤ i ∧ i < e.1 + e.2
    · rw [if_pos h1, if_pos (cov_cons.mpr (Or.inl h1))]
      split
      · rw [Option.map_map]; congr 1; funext c; exact hf c
      · rfl
    · rw [if_neg h1]
      by_cases h2 : Cov t i
      · rw [if_pos h2, if_pos (cov_cons.mpr (Or.inr h2))]
      · rw [if_neg h2, if_neg (fun h => (cov_cons.mp h).elim h1 h2)]
theorem put_anew_free {m : M} {e : Run} (h2 : e.1 + e.2 ≤ m.length) (h : ∀ i, e.1 ≤ i → i < e.1 + e.2 → ∃ w, m[i]? = some (0, w)) : free (put e.1 e.2 anew m) + e.2 = free m := by
  obtain ⟨a, b, c, hm, ha, hb⟩ := parts m e.1 e.2 h2
  rw [put_at anew hm ha hb]
  have hb0 : ∀ x ∈ b, isFree x = true := fun x hx => by
    obtain ⟨k, hk, rfl⟩ := List.getElem_of_mem hx
    obtain ⟨w, hw⟩ := h (e.1 + k) (by omega) (by omega)
    rw [hm, List.append_assoc, List.getElem?_append_right (by omega), List.getElem?_append_left (by omega), show e.1 + k - a.length = k from by omega, List.getElem?_eq_getElem hk] at hw
    rw [Option.some.inj hw]; rfl
  rw [hm, free_append, free_append, free_append, free_append]
  have h1 : free b = b.length := List.countP_eq_length.mpr hb0
  have h3 : free (b.map anew) = 0 := by
    unfold free; rw [List.countP_map, List.countP_eq_zero]; intro x _; simp [isFree, anew]
  omega
theorem puts_anew_free : ∀ (es : List Run) (m : M), es.Pairwise Offs → (∀ e ∈ es, e.1 + e.2 ≤ m.length ∧ ∀ i, e.1 ≤ i → i < e.1 + e.2 → ∃ w, m[i]? = some (0, w)) → free (puts anew es m) + size es = free m
  | [], m, _, _ => rfl
  | e :: t, m, hp, h => by
    have hc := List.pairwise_cons.mp hp
    have h0 := h e List.mem_cons_self
    have H := puts_anew_free t (put e.1 e.2 anew m) hc.2 (fun f hf => by
      have h1 := h f (List.mem_cons_of_mem _ hf)
      refine ⟨by rw [put_length]; exact h1.1, fun i hi hj => ?_⟩
      rw [put_get, if_neg (by have := hc.1 f hf; unfold Offs at this; omega)]
      exact h1.2 i hi hj)
    have hs : size (e :: t) = e.2 + size t := by simp [size]
    show free (puts anew t (put e.1 e.2 anew m)) + _ = _
    have := put_anew_free h0.1 h0.2
    omega
theorem cut_mem : ∀ (rs : List Run) (n : Nat), (∀ r ∈ rs, 1 ≤ r.2) → ∀ e ∈ cut n rs, ∃ r ∈ rs, e.1 = r.1 ∧ e.2 ≤ r.2 ∧ 1 ≤ e.2
  | [], _, _, e, h => by simp [cut] at h
  | r :: t, n, hr, e, h => by
    unfold cut at h
    split at h
    · exact nomatch h
    · next h0 =>
      rcases List.mem_cons.mp h with rfl | h
      · have := hr r List.mem_cons_self
        exact ⟨r, List.mem_cons_self, rfl, by simp only; omega, by simp only; omega⟩
      · obtain ⟨x, hx, h1⟩ := cut_mem t _ (fun y hy => hr y (List.mem_cons_of_mem _ hy)) e h
        exact ⟨x, List.mem_cons_of_mem _ hx, h1⟩
theorem cut_rise : ∀ (rs : List Run) (n : Nat), (∀ r ∈ rs, 1 ≤ r.2) → rs.Pairwise (fun e f => e.1 + e.2 < f.1) → (cut n rs).Pairwise Offs
  | [], _, _, _ => by simp [cut]
  | r :: t, n, hr, hp => by
    have hc := List.pairwise_cons.mp hp
    unfold cut
    split
    · exact List.Pairwise.nil
    · refine List.pairwise_cons.mpr ⟨fun f hf => ?_, cut_rise t _ (fun y hy => hr y (List.mem_cons_of_mem _ hy)) hc.2⟩
      obtain ⟨x, hx, h1, h2, h3⟩ := cut_mem t _ (fun y hy => hr y (List.mem_cons_of_mem _ hy)) f hf
      have := hc.1 x hx
      left; simp only; omega
theorem cut_size : ∀ (rs : List Run) (n : Nat), n ≤ size rs → size (cut n rs) = n
  | [], n, h => by simp [size] at h; simp [cut, size, h]
  | r :: t, n, h => by
    have hs : size (r :: t) = r.2 + size t := by simp [size]
    unfold cut
    split
    · next h0 => simp [size, h0]
    · have := cut_size t (n - r.2) (by omega)
      have h2 : size ((r.1, min r.2 n) :: cut (n - r.2) t) = min r.2 n + size (cut (n - r.2) t) := by simp [size]
      omega
open Classical in
/-- So far all has been taken anew, and nothing given back. -/
structure Taken (len : Nat) (m : M) (all : List Run) : Prop where
  long : m.length = len
  cell : ∀ i, i < len → m[i]? = some (if Cov all i then 2 else 0, false)
  right : ∀ e ∈ all, 1 ≤ e.2 ∧ e.1 + e.2 ≤ len
  apart : all.Pairwise Offs
  room : free m + size all = len
theorem Taken.new (n : Nat) : Taken n (new n) [] :=
  ⟨rep_length .., fun i hi => by rw [if_neg cov_nil, new_rep]; unfold rep; rw [List.getElem?_replicate, if_pos hi], (fun _ h => nomatch h), List.Pairwise.nil, by rw [new_free]; rfl⟩
theorem size_append (a b : List Run) : size (a ++ b) = size a + size b := by simp [size]
theorem Taken.pieces {len : Nat} {m : M} {all : List Run} (h : Taken len m all) (N k : Int) (hN : 1 ≤ N) :
    ((pieces N k m).2.2 = true → Taken len (pieces N k m).1 (all ++ (pieces N k m).2.1) ∧ (size (pieces N k m).2.1 : Int) = N) ∧ ((pieces N k m).2.2 = false → (pieces N k m) = (m, [], false)) := by
  unfold Sp.pieces
  split
  · exact ⟨(fun h => nomatch h), fun _ => rfl⟩
  · next h1 =>
    split
    · exact ⟨(fun h => nomatch h), fun _ => rfl⟩
    · refine ⟨fun _ => ?_, fun h => nomatch h⟩
      have hge := runs_ge m 0
      have hcm := cut_mem (runs 0 m) N.toNat (fun r hr => (hge r hr).2.1)
      have hri := cut_rise (runs 0 m) N.toNat (fun r hr => (hge r hr).2.1) (runs_rise m 0)
      have hsz := cut_size (runs 0 m) N.toNat (by rw [runs_size]; omega)
      have hfr : ∀ e ∈ cut N.toNat (runs 0 m), ∀ i, e.1 ≤ i → i < e.1 + e.2 → ∃ w, m[i]? = some (0, w) := fun e he i hi hj => by
        obtain ⟨r, hr, h4, h5, h6⟩ := hcm e he
        exact runs_free m 0 r hr i (by omega) (by omega)
      have hin : ∀ e ∈ cut N.toNat (runs 0 m), 1 ≤ e.2 ∧ e.1 + e.2 ≤ m.length := fun e he => by
        obtain ⟨r, hr, h4, h5, h6⟩ := hcm e he
        have := hge r hr; omega
      simp only
      generalize cut N.toNat (runs 0 m) = out at hri hsz hfr hin ⊢
      refine ⟨⟨by rw [puts_length, h.long], fun i hi => ?_, fun e he => ?_, ?_, ?_⟩, by omega⟩
      · rw [puts_get anew (fun _ => rfl), h.cell i hi]
        by_cases ho : Cov out i
        · rw [if_pos ho, if_pos (cov_append.mpr (Or.inr ho))]; rfl
        · rw [if_neg ho]
          by_cases ha : Cov all i
          · rw [if_pos ha, if_pos (cov_append.mpr (Or.inl ha))]
          · rw [if_neg ha, if_neg (fun hc => (cov_append.mp hc).elim ha ho)]
      · rcases List.mem_append.mp he with he | he
        · exact h.right e he
        · rw [← h.long]; exact hin e he
      · refine List.pairwise_append.mpr ⟨h.apart, hri, fun e he f hf => ?_⟩
        have h7 := h.right e he
        have h8 := hin f hf
        have h9 : ¬ ∃ i, (e.1 ≤ i ∧ i < e.1 + e.2) ∧ (f.1 ≤ i ∧ i < f.1 + f.2) := fun ⟨i, hi, hj⟩ => by
          obtain ⟨w, hw⟩ := hfr f hf i hj.1 hj.2
          rw [h.cell i (by omega), if_pos ⟨e, he, hi⟩] at hw
          exact nomatch hw
        unfold Offs
        by_cases hlt : e.1 ≤ f.1
        · exact Or.inl (by
            refine Decidable.byContradiction fun hn => h9 ⟨f.1, ⟨hlt, by omega⟩, Nat.le_refl _, by omega⟩)
        · exact Or.inr (by
            refine Decidable.byContradiction fun hn => h9 ⟨e.1, ⟨Nat.le_refl _, by omega⟩, by omega, by omega⟩)
      · have := puts_anew_free out m hri (fun e he => ⟨(hin e he).2, hfr e he⟩)
        rw [size_append]; have := h.room; omega
theorem eq_new {n : Nat} {m : M} (hl : m.length = n) (h : ∀ i, i < n → m[i]? = some (0, false)) : m = Sp.new n := by
  apply List.ext_getElem?
  intro i
  by_cases hi : i < n
  · rw [h i hi, new_rep]; unfold rep; rw [List.getElem?_replicate, if_pos hi]
  · rw [List.getElem?_eq_none (by omega), List.getElem?_eq_none (by rw [new_rep, rep_length]; omega)]
theorem Taken.abort {len : Nat} {m : M} {all : List Run} (h : Taken len m all) : abort m = Sp.new len := by
  refine eq_new (by rw [abort_length, h.long]) (fun i hi => ?_)
  unfold Sp.abort; rw [List.getElem?_map, h.cell i hi]
  by_cases hc : Cov all i
  · rw [if_pos hc]; rfl
  · rw [if_neg hc]; rfl
open Classical in
/-- These are still taken; those wait. -/
structure Backs (len : Nat) (m : M) (all w : List Run) : Prop where
  long : m.length = len
  cell : ∀ i, i < len → m[i]? = some (if Cov all i then (1, false) else if Cov w i then (1, true) else (0, false))
  right : ∀ e ∈ all, 1 ≤ e.2 ∧ e.1 + e.2 ≤ len
  apart : all.Pairwise Offs
theorem Taken.commit {len : Nat} {m : M} {all : List Run} (h : Taken len m all) : Backs len (commit m) all [] := by
  refine ⟨by rw [commit_length, h.long], fun i hi => ?_, h.right, h.apart⟩
  unfold Sp.commit; rw [List.getElem?_map, h.cell i hi]
  by_cases hc : Cov all i
  · rw [if_pos hc, if_pos hc]; rfl
  · rw [if_neg hc, if_neg hc, if_neg cov_nil]; rfl
theorem Backs.commit {len : Nat} {m : M} {all w : List Run} (h : Backs len m all w) : Backs len (commit m) all [] := by
  refine ⟨by rw [commit_length, h.long], fun i hi => ?_, h.right, h.apart⟩
  unfold Sp.commit; rw [List.getElem?_map, h.cell i hi]
  by_cases hc : Cov all i
  · rw [if_pos hc, if_pos hc]; rfl
  · rw [if_neg hc, if_neg hc, if_neg cov_nil]
    by_cases hw : Cov w i
    · rw [if_pos hw]; rfl
    · rw [if_neg hw]; rfl
theorem Backs.none {len : Nat} {m : M} (h : Backs len m [] []) : m = Sp.new len :=
  eq_new h.long (fun i hi => by rw [h.cell i hi, if_neg cov_nil, if_neg cov_nil])
theorem Backs.give {len : Nat} {m : M} {a b w : List Run} {e : Run} (h : Backs len m (a ++ e :: b) w) :
    ∃ m', Sp.give [ie e] m = (m', true) ∧ Sp.give [ie e] m' = (m', false) ∧ Backs len m' (a ++ b) (e :: w) := by
  have hr := h.right e (by simp)
  have hp := List.pairwise_append.mp h.apart
  have hc := List.pairwise_cons.mp hp.2.1
  have hoff : ∀ f ∈ a ++ b, Offs e f := fun f hf => by
    rcases List.mem_append.mp hf with hf | hf
    · exact (hp.2.2 f hf e List.mem_cons_self).symm
    · exact hc.1 f hf
  have hin : ∀ i, e.1 ≤ i → i < e.1 + e.2 → m[i]? = some (1, false) := fun i hi hj => by
    rw [h.cell i (by omega), if_pos ⟨e, by simp, hi, hj⟩]
  refine ⟨put e.1 e.2 wait m, give_one hr.1 (by rw [h.long]; exact hr.2) (fun i hi hj => ⟨1, by decide, hin i hi hj⟩), ?_, ?_⟩
  · refine give_none e.1 (Nat.le_refl _) (by omega) (fun c hc => ?_)
    rw [put_get, if_pos ⟨Nat.le_refl _, by omega⟩, hin e.1 (Nat.le_refl _) (by omega)] at hc
    rw [← Option.some.inj hc]; exact Or.inr rfl
  · refine ⟨by rw [put_length, h.long], fun i hi => ?_, fun f hf => h.right f ?_, ?_⟩
    · rw [put_get]
      by_cases he : e.1 ≤ i ∧ i < e.1 + e.2
      · rw [if_pos he, hin i he.1 he.2, if_neg, if_pos (cov_cons.mpr (Or.inl he))]
        · rfl
        · rintro ⟨f, hf, h1, h2⟩
          have := hoff f hf
          unfold Offs at this; omega
      · rw [if_neg he, h.cell i hi]
        have h1 : Cov (a ++ e :: b) i ↔ Cov (a ++ b) i := by
          rw [cov_append, cov_append, cov_cons]
          constructor
          · rintro (h | h | h)
            · exact Or.inl h
            · exact absurd h he
            · exact Or.inr h
          · rintro (h | h)
            · exact Or.inl h
            · exact Or.inr (Or.inr h)
        have h2 : Cov (e :: w) i ↔ Cov w i := by
          rw [cov_cons]
          exact ⟨fun h => h.elim (fun h => absurd h he) id, Or.inr⟩
        by_cases c1 : Cov (a ++ b) i
        · rw [if_pos c1, if_pos (h1.mpr c1)]
        · rw [if_neg c1, if_neg (fun h => c1 (h1.mp h))]
          by_cases c2 : Cov w i
          · rw [if_pos c2, if_pos (h2.mpr c2)]
          · rw [if_neg c2, if_neg (fun h => c2 (h2.mp h))]
    · rcases List.mem_append.mp hf with hf | hf
      · exact List.mem_append_left _ hf
      · exact List.mem_append_right _ (List.mem_cons_of_mem _ hf)
    · exact List.pairwise_append.mpr ⟨hp.1, hc.2, fun x hx y hy => hp.2.2 x hx y (List.mem_cons_of_mem _ hy)⟩
end Sp
