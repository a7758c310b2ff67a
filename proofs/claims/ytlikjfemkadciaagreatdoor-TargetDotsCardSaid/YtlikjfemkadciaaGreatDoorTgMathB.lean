/- The plain mathematics of package target: paths without dots. -/
import Derived.Test.YtlikjfemkadciaaGreatDoorTgMath
namespace Tg

/-- The segments that stay: those that stay already, and those to come. -/
def dots : List L → List L → List L
  | kept, [] => kept
  | kept, s :: ss =>
    if s = [46] ∨ s = [46, 46] then dots (if ss = [] then (if s = [46, 46] then kept.dropLast else kept) ++ [[]] else if s = [46, 46] then kept.dropLast else kept) ss
    else dots (kept ++ [s]) ss
def slashed (ks : List L) : L := ks.flatMap fun k => 47 :: k
def straight (path : L) : L := slashed (dots [] (sp 47 (path.drop 1)))

theorem slashed_nil : slashed [] = [] := rfl
theorem slashed_cons (k : L) (ks : List L) : slashed (k :: ks) = 47 :: k ++ slashed ks := rfl
theorem slashed_snoc (ks : List L) (k : L) : slashed (ks ++ [k]) = slashed ks ++ 47 :: k := by simp [slashed]

/-- A property that all segments have, and nothing, all that stay have. -/
theorem dots_all {P : L → Prop} (h0 : P []) : ∀ (ss kept : List L), (∀ s ∈ ss, P s) → (∀ s ∈ kept, P s) → ∀ s ∈ dots kept ss, P s
  | [], kept, _, hk => hk
  | x :: ss, kept, hs, hk => by
    have hk2 : ∀ s ∈ (if x = [46, 46] then kept.dropLast else kept), P s := by
      intro s hs2; split at hs2
      · exact hk s (List.dropLast_subset _ hs2)
      · exact hk s hs2
    have hss : ∀ s ∈ ss, P s := fun s h => hs s (by simp [h])
    rw [dots]; split
    · refine dots_all h0 ss _ hss ?_
      split
      · intro s hs2
        rcases List.mem_append.1 hs2 with h | h
        · exact hk2 s h
        · rw [List.mem_singleton] at h; subst h; exact h0
      · exact hk2
    · refine dots_all h0 ss _ hss ?_
      intro s hs2
      rcases List.mem_append.1 hs2 with h | h
      · exact hk s h
      · rw [List.mem_singleton] at h; subst h; exact hs _ (by simp)
def plainSeg (s : L) : Prop := s ≠ [46] ∧ s ≠ [46, 46]
theorem dots_plain : ∀ (ss kept : List L), (∀ s ∈ kept, plainSeg s) → ∀ s ∈ dots kept ss, plainSeg s
  | [], kept, hk => hk
  | x :: ss, kept, hk => by
    have hk2 : ∀ s ∈ (if x = [46, 46] then kept.dropLast else kept), plainSeg s := by
      intro s hs2; split at hs2
      · exact hk s (List.dropLast_subset _ hs2)
      · exact hk s hs2
    rw [dots]; split
    · refine dots_plain ss _ ?_
      split
      · intro s hs2
        rcases List.mem_append.1 hs2 with h | h
        · exact hk2 s h
        · rw [List.mem_singleton] at h; subst h; exact ⟨by decide, by decide⟩
      · exact hk2
    · rename_i hx
      refine dots_plain ss _ ?_
      intro s hs2
      rcases List.mem_append.1 hs2 with h | h
      · exact hk s h
      · rw [List.mem_singleton] at h; subst h; exact ⟨fun e => hx (.inl e), fun e => hx (.inr e)⟩
theorem dots_ne : ∀ (ss kept : List L), ss ≠ [] ∨ kept ≠ [] → dots kept ss ≠ []
  | [], kept, h => by
    rcases h with h | h
    · exact absurd rfl h
    · exact h
  | x :: ss, kept, _ => by
    rw [dots]; split
    · refine dots_ne ss _ ?_
      by_cases hs : ss = []
      · right; rw [if_pos hs]; simp
      · exact .inl hs
    · exact dots_ne ss _ (.inr (by simp))
theorem dots_keep : ∀ (ss kept : List L), (∀ s ∈ ss, plainSeg s) → dots kept ss = kept ++ ss
  | [], kept, _ => by simp [dots]
  | x :: ss, kept, h => by
    have hx := h x (by simp)
    rw [dots, if_neg (fun e => e.elim hx.1 hx.2), dots_keep ss _ (fun s hs => h s (by simp [hs]))]
    simp

theorem sp_slashed : ∀ (ks : List L) (k : L), (∀ s ∈ k :: ks, ∀ c ∈ s, c ≠ 47) → sp 47 (k ++ slashed ks) = k :: ks
  | [], k, h => by rw [slashed_nil, List.append_nil]; exact sp_none 47 k (h k (by simp))
  | x :: ks, k, h => by
    rw [slashed_cons]
    show sp 47 (k ++ 47 :: (x ++ slashed ks)) = _
    rw [sp_app 47 _ k (h k (by simp)), sp_slashed ks x (fun s hs => h s (List.mem_cons_of_mem _ hs))]

theorem straight_ne (path : L) : ∃ t, straight path = 47 :: t := by
  obtain ⟨x, xs, h⟩ := sp_cases 47 (path.drop 1)
  have hne := dots_ne (sp 47 (path.drop 1)) [] (.inl (by rw [h]; simp))
  unfold straight
  cases hd : dots [] (sp 47 (path.drop 1)) with
  | nil => exact absurd hd hne
  | cons k ks => exact ⟨_, rfl⟩
/-- The segments of what was made straight are those that stayed. -/
theorem sp_straight (path : L) : sp 47 ((straight path).drop 1) = dots [] (sp 47 (path.drop 1)) := by
  obtain ⟨x, xs, h⟩ := sp_cases 47 (path.drop 1)
  have hne := dots_ne (sp 47 (path.drop 1)) [] (.inl (by rw [h]; simp))
  have h47 : ∀ s ∈ dots [] (sp 47 (path.drop 1)), ∀ c ∈ s, c ≠ 47 := dots_all (P := fun s => ∀ c ∈ s, c ≠ 47) (fun c hc => by cases hc) _ _ (fun s hs c hc => (sp_mem 47 _ s hs c hc).1) (fun s hs => by cases hs)
  unfold straight
  cases hd : dots [] (sp 47 (path.drop 1)) with
  | nil => exact absurd hd hne
  | cons k ks =>
    rw [hd] at h47
    show sp 47 (k ++ slashed ks) = _
    exact sp_slashed ks k h47
theorem straight_plain (path : L) : ∀ s ∈ sp 47 ((straight path).drop 1), plainSeg s := by
  rw [sp_straight]
  exact dots_plain _ _ (fun s hs => by cases hs)
theorem straight_straight (path : L) : straight (straight path) = straight path := by
  rw [straight, dots_keep _ _ (straight_plain path), List.nil_append, sp_straight]; rfl

/-- Normal octets: each segment's, and the whole's. -/
theorem coded_sp {p : UInt8 → Bool} (hp : p 47 = true) : ∀ (n : Nat) (l : L), l.length ≤ n → coded p l = some l → ∀ s ∈ sp 47 l, coded p s = some s
  | n, l, hn, h => by
    by_cases h47 : ∃ a b, l = a ++ 47 :: b ∧ ∀ c ∈ a, c ≠ 47
    · obtain ⟨a, b, rfl, ha⟩ := h47
      rw [coded_app 47 (by decide) (by decide) hp] at h
      cases hca : coded p a with
      | none => rw [hca] at h; cases h
      | some x =>
        cases hcb : coded p b with
        | none => rw [hca, hcb] at h; cases h
        | some y =>
          rw [hca, hcb] at h
          have e : x ++ 47 :: y = a ++ 47 :: b := Option.some.inj h
          have l1 := coded_len a x hca
          have l2 := coded_len b y hcb
          have l3 := congrArg List.length e
          simp at l3
          have e2 := List.append_inj e (by omega)
          obtain ⟨rfl, e3⟩ := e2
          obtain rfl : y = b := by simpa using e3
          rw [sp_app 47 _ _ ha]
          cases n with
          | zero => simp at hn
          | succ n =>
            intro s hs
            rcases List.mem_cons.1 hs with rfl | hs
            · exact hca
            · exact coded_sp hp n y (by simp at hn; omega) hcb s hs
    · have hno : ∀ c ∈ l, c ≠ 47 := by
        intro c hc e
        subst e
        obtain ⟨a, b, h1, h2⟩ := List.eq_append_cons_of_mem hc
        exact h47 ⟨a, b, h1, fun c hc e => h2 (e ▸ hc)⟩
      rw [sp_none 47 l hno]
      intro s hs
      rw [List.mem_singleton] at hs; subst hs; exact h
theorem coded_slashed {p : UInt8 → Bool} (hp : p 47 = true) : ∀ (ks : List L), (∀ s ∈ ks, coded p s = some s) → ∀ k : L, coded p k = some k → coded p (k ++ slashed ks) = some (k ++ slashed ks)
  | [], _, k, hk => by rw [slashed_nil, List.append_nil]; exact hk
  | x :: ks, h, k, hk => by
    rw [slashed_cons]
    show coded p (k ++ 47 :: (x ++ slashed ks)) = _
    rw [coded_app 47 (by decide) (by decide) hp, hk, coded_slashed hp ks (fun s hs => h s (by simp [hs])) x (h x (by simp))]
    rfl
theorem coded_straight {p : UInt8 → Bool} (hp : p 47 = true) (t : L) (h : coded p (47 :: t) = some (47 :: t)) : coded p (straight (47 :: t)) = some (straight (47 :: t)) := by
  have ht : coded p t = some t := by
    rw [coded_plain p 47 t (by decide), if_pos hp] at h
    obtain ⟨x, hx, e⟩ := Option.map_eq_some_iff.1 h
    obtain rfl : x = t := by simpa using e
    exact hx
  have hs := coded_sp hp t.length t (Nat.le_refl _) ht
  have hd := dots_all (P := fun s => coded p s = some s) (coded_nil p) (sp 47 t) [] hs (fun s hs => by cases hs)
  have := coded_slashed hp _ hd [] (coded_nil p)
  exact this

theorem slashed_len : ∀ ks : List L, (slashed ks).length = (ks.map fun k => k.length + 1).sum
  | [] => rfl
  | k :: ks => by rw [slashed_cons]; simp [slashed_len ks]; omega
theorem slashed_app (a b : List L) : slashed (a ++ b) = slashed a ++ slashed b := by simp [slashed]
theorem slashed_drop (ks : List L) : (slashed ks.dropLast).length ≤ (slashed ks).length := by
  rcases ks.eq_nil_or_concat with rfl | ⟨a, b, rfl⟩
  · simp
  · simp [slashed_app]
theorem dots_len : ∀ (ss kept : List L), (slashed (dots kept ss)).length ≤ (slashed kept).length + (slashed ss).length
  | [], kept => by simp [dots]
  | x :: ss, kept => by
    have hk2 : (slashed (if x = [46, 46] then kept.dropLast else kept)).length ≤ (slashed kept).length := by
      split
      · exact slashed_drop kept
      · exact Nat.le_refl _
    rw [dots]; split
    · rename_i hx
      have hxl : 1 ≤ x.length := by rcases hx with rfl | rfl <;> simp
      have ih := dots_len ss (if ss = [] then (if x = [46, 46] then kept.dropLast else kept) ++ [[]] else if x = [46, 46] then kept.dropLast else kept)
      refine Nat.le_trans ih ?_
      rw [slashed_cons]
      split
      · rw [slashed_snoc]; simp; omega
      · simp; omega
    · have ih := dots_len ss (kept ++ [x])
      rw [slashed_snoc] at ih
      rw [slashed_cons]
      simp at ih ⊢; omega
theorem slashed_sp : ∀ t : L, slashed (sp 47 t) = 47 :: t
  | [] => rfl
  | c :: t => by
    by_cases hc : c = 47
    · subst hc; rw [sp_sep, slashed_cons, slashed_sp t]; rfl
    · obtain ⟨x, xs, h⟩ := sp_cases 47 t
      have ih := slashed_sp t
      rw [h, slashed_cons] at ih
      rw [sp_other 47 c t hc h, slashed_cons]
      have e : x ++ slashed xs = t := by simpa using ih
      show 47 :: c :: (x ++ slashed xs) = _
      rw [e]
theorem straight_len (t : L) : (straight (47 :: t)).length ≤ t.length + 1 := by
  have := dots_len (sp 47 t) []
  rw [slashed_sp] at this
  simpa [straight, slashed_nil] using this

/-! A path and a query. -/
def ahead (p : UInt8 → Bool) : L → Nat
  | [] => 0
  | c :: t => if p c then 0 else ahead p t + 1
def qm (c : UInt8) : Bool := c == 63
def sq (c : UInt8) : Bool := c == 47 || c == 63
def colon (c : UInt8) : Bool := c == 58
theorem ahead_le (p : UInt8 → Bool) : ∀ l : L, ahead p l ≤ l.length
  | [] => Nat.le_refl _
  | c :: t => by
    rw [ahead]; split
    · exact Nat.zero_le _
    · have := ahead_le p t; simp; omega
theorem ahead_app (p : UInt8 → Bool) : ∀ a b : L, (∀ c ∈ a, p c = false) → ahead p (a ++ b) = a.length + ahead p b
  | [], b, _ => by simp
  | c :: t, b, h => by
    show ahead p (c :: (t ++ b)) = _
    rw [ahead, if_neg (by rw [h c (by simp)]; decide), ahead_app p t b (fun x hx => h x (by simp [hx]))]
    simp; omega
theorem ahead_hit (p : UInt8 → Bool) (c : UInt8) (t : L) (h : p c = true) : ahead p (c :: t) = 0 := by rw [ahead, if_pos h]
/-- What stands there. -/
theorem ahead_take (p : UInt8 → Bool) : ∀ l : L, ∀ c ∈ l.take (ahead p l), p c = false
  | [], c, h => by simp at h
  | a :: t, c, h => by
    rw [ahead] at h
    split at h
    · simp at h
    · rename_i ha
      rw [List.take_succ_cons, List.mem_cons] at h
      rcases h with rfl | h
      · simpa using ha
      · exact ahead_take p t c h
theorem ahead_drop (p : UInt8 → Bool) : ∀ l : L, l.drop (ahead p l) = [] ∨ ∃ c t, l.drop (ahead p l) = c :: t ∧ p c = true
  | [] => .inl rfl
  | a :: t => by
    rw [ahead]
    split
    · rename_i ha; exact .inr ⟨a, t, rfl, ha⟩
    · rw [List.drop_succ_cons]; exact ahead_drop p t
theorem ahead_all (p : UInt8 → Bool) (l : L) (h : ∀ c ∈ l, p c = false) : ahead p l = l.length := by
  have := ahead_app p l [] h
  simpa [ahead] using this

def place (l : L) : Option L := (coded pathc (l.take (ahead qm l))).bind fun a => (coded queryc (l.drop (ahead qm l))).map fun q => straight a ++ q

theorem place_len (t : L) : ∀ m, place (47 :: t) = some m → m.length ≤ t.length + 1 ∧ ∃ r, m = 47 :: r := by
  intro m h
  unfold place at h
  have e : ahead qm (47 :: t) = ahead qm t + 1 := by rw [ahead, if_neg (by decide)]
  rw [e, List.take_succ_cons, List.drop_succ_cons] at h
  obtain ⟨a, ha, h⟩ := Option.bind_eq_some_iff.1 h
  obtain ⟨q, hq, rfl⟩ := Option.map_eq_some_iff.1 h
  have l1 := coded_len _ _ ha
  have l2 := coded_len _ _ hq
  rw [coded_plain _ _ _ (by decide), if_pos (by decide)] at ha
  obtain ⟨b, hb, rfl⟩ := Option.map_eq_some_iff.1 ha
  have l3 := straight_len b
  obtain ⟨r, hr⟩ := straight_ne (47 :: b)
  have l4 := ahead_le qm t
  refine ⟨?_, r ++ q, by rw [hr]; rfl⟩
  simp at l1 l2 ⊢
  omega

theorem place_place (t : L) : ∀ m, place (47 :: t) = some m → place m = some m := by
  intro m h
  unfold place at h
  have e : ahead qm (47 :: t) = ahead qm t + 1 := by rw [ahead, if_neg (by decide)]
  rw [e, List.take_succ_cons, List.drop_succ_cons] at h
  obtain ⟨a, ha, h⟩ := Option.bind_eq_some_iff.1 h
  obtain ⟨q, hq, rfl⟩ := Option.map_eq_some_iff.1 h
  have ca := coded_coded set_path _ _ ha
  have cq := coded_coded set_query _ _ hq
  rw [coded_plain _ _ _ (by decide), if_pos (by decide)] at ha
  obtain ⟨b, hb, rfl⟩ := Option.map_eq_some_iff.1 ha
  have cs := coded_straight (p := pathc) (by decide) b ca
  have n63 := coded_no (p := pathc) 63 (by decide) (by decide) (by decide) (by decide) _ _ cs
  have hq0 : ahead qm q = 0 := by
    rcases ahead_drop qm t with h0 | ⟨c, r, h0, hc⟩
    · rw [h0, coded_nil] at hq; obtain rfl := Option.some.inj hq; rfl
    · obtain rfl : c = 63 := by simpa [qm] using hc
      rw [h0, coded_plain _ _ _ (by decide), if_pos (by decide)] at hq
      obtain ⟨y, hy, rfl⟩ := Option.map_eq_some_iff.1 hq
      exact ahead_hit qm 63 y rfl
  have hA : ahead qm (straight (47 :: b) ++ q) = (straight (47 :: b)).length := by
    rw [ahead_app qm _ _ (fun c hc => by simpa [qm] using n63 c hc), hq0, Nat.add_zero]
  unfold place
  rw [hA, List.take_left, List.drop_left, cs, cq]
  show some (straight (straight (47 :: b)) ++ q) = _
  rw [straight_straight]

end Tg
