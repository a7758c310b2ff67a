/- The plain mathematics of package target: URIs read, written, made normal. -/
import Derived.Test.YtlikjfemkadciaaGreatDoorTgMathC
namespace Tg
open Oct (lower low)

structure U where
  host : L
  port : Int
  path : L
deriving DecidableEq
def zero : U := ⟨[], 0, []⟩

theorem dgs5 (u : Nat) (h : u ≤ 65535) : (Oct.dgs 10 u).length ≤ 5 := by
  have gen : ∀ n u, u < 10 ^ (n + 1) → (Oct.dgs 10 u).length ≤ n + 1 := by
    intro n
    induction n with
    | zero => intro u hu; rw [Oct.dgs_last (by simpa using hu)]; simp
    | succ n ih =>
      intro u hu
      by_cases hb : u < 10
      · rw [Oct.dgs_last hb]; simp
      · rw [Oct.dgs_more (by decide) (by omega)]
        have := ih (u / 10) (by rw [Nat.pow_succ] at hu; omega)
        simp; omega
  exact gen 4 u (by omega)
theorem portT_of {k : Int} (h0 : 0 ≤ k) (h1 : k ≤ 65535) : portOf (portT k) = some k ∧ (portT k = [] ∨ ∃ t, portT k = 58 :: t) ∧ (portT k).length ≤ 6 := by
  unfold portT
  split
  · rename_i e; subst e; exact ⟨rfl, .inl rfl, by simp⟩
  · have hn : Oct.print k 10 = Oct.dgs 10 k.toNat := rfl
    have h5 := dgs5 k.toNat (by omega)
    have hd := Oct.number_dgs 10 (by decide) (by decide) 65535 k.toNat (by omega)
    rw [hn]
    refine ⟨?_, .inr ⟨_, rfl⟩, by simp; omega⟩
    show portV (Oct.dgs 10 k.toNat) = _
    unfold portV
    rw [if_neg (Oct.dgs_ne 10 _), hd, if_pos ⟨rfl, h5⟩]
    simp; omega
theorem portT_no {k : Int} (h0 : 0 ≤ k) (h1 : k ≤ 65535) : ∀ c ∈ portT k, c ≠ 47 ∧ c ≠ 63 := by
  have h := portT_of h0 h1
  intro c hc
  rcases port_cases h.2.1 h.1 with e | ⟨t, e, ht⟩
  · rw [e] at hc; cases hc
  · rw [e] at hc
    rcases List.mem_cons.1 hc with rfl | hc
    · decide
    · have := dig_facts c (ht c hc); exact ⟨this.2.2.1, this.2.2.2⟩
/-- What a host and a port say is read as itself. -/
theorem site_back {h : L} {k : Int} (hs : Site h k) : site (h ++ portT k) = some (h, k) := by
  have hp := portT_of hs.lo hs.hi
  unfold site
  rw [cutP_at hs.host hp.2.1 hp.1]
  unfold siteAt
  rw [List.take_left, List.drop_left, if_pos hs.host, hp.1, hs.low]; rfl

def httpT : L := [104, 116, 116, 112, 58, 47, 47]
def http (l : L) : Bool := decide (7 ≤ l.length) && lower (l.take 7) == httpT
def slash (l : L) : L := if l.head? = some 47 then l else 47 :: l
def atU (h : L) (k : Int) (l : L) : U × Int := match place l with
  | none => (zero, 10)
  | some m => (⟨h, k, m⟩, 0)
def parse (l : L) : U × Int :=
  if 8000 < l.length then (zero, 12) else if http l = false then (zero, 10) else match site ((l.drop 7).take (ahead sq (l.drop 7))) with
  | none => (zero, 10)
  | some x => atU x.1 x.2 (slash ((l.drop 7).drop (ahead sq (l.drop 7))))
def ofT (t h : L) : U × Int :=
  if 8000 < t.length ∨ 8000 < h.length then (zero, 12) else match site h with
  | none => (zero, 10)
  | some x => if t.head? = some 47 then atU x.1 x.2 t else parse t
def print (u : U) : L := httpT ++ u.host ++ portT u.port ++ u.path
def right (u : U) : Bool := decide (parse (print u) = (u, 0))
/-- Up to the last / , with it. -/
def upto : L → L
  | [] => []
  | c :: t => if c = 47 ∨ (47 : UInt8) ∈ t then c :: upto t else []
def resolve (u : U) (r : L) : U × Int :=
  if right u = false then (zero, 2) else if 8000 < r.length then (zero, 12) else if r = [] then (u, 0)
  else if http r = true then parse r
  else if r.take 2 = [47, 47] then parse (httpT.take 5 ++ r)
  else if r.head? = some 47 then atU u.host u.port r
  else if r.head? = some 63 then atU u.host u.port (u.path.take (ahead qm u.path) ++ r)
  else if (r.take (ahead sq r)).contains 58 then (zero, 10)
  else atU u.host u.port (upto (u.path.take (ahead qm u.path)) ++ r)

theorem slash_head (l : L) : ∃ t, slash l = 47 :: t ∧ t.length ≤ l.length := by
  unfold slash
  split
  · rename_i h
    cases l with
    | nil => cases h
    | cons c t =>
      obtain rfl : c = 47 := by simpa using h
      exact ⟨t, rfl, by simp⟩
  · exact ⟨l, rfl, Nat.le_refl _⟩
theorem atU_ok {h : L} {k : Int} {l : L} (he : (atU h k l).2 = 0) : ∃ m, place l = some m ∧ (atU h k l).1 = ⟨h, k, m⟩ := by
  unfold atU at he ⊢
  cases hp : place l with
  | none => rw [hp] at he; cases he
  | some m => exact ⟨m, rfl, rfl⟩
theorem atU_no {h : L} {k : Int} {l : L} (he : (atU h k l).2 ≠ 0) : (atU h k l).1 = zero := by
  unfold atU at he ⊢
  cases hp : place l with
  | none => rfl
  | some m => rw [hp] at he; exact absurd rfl he
/-- What is right: it has come of a host, a port, a place. -/
structure Ok (u : U) : Prop where
  site : Site u.host u.port
  place : place u.path = some u.path
  head : ∃ t, u.path = 47 :: t
theorem Ok.at {u : U} (h : Ok u) : atU u.host u.port u.path = (u, 0) := by unfold atU; rw [h.place]
theorem parse_ok {l : L} (he : (parse l).2 = 0) : Ok (parse l).1 ∧ (print (parse l).1).length ≤ l.length + 15 ∧ (parse l).1.path.length ≤ l.length + 1 := by
  unfold parse at he ⊢
  split at he
  · cases he
  · rename_i h1
    rw [if_neg h1]
    split at he
    · cases he
    · rename_i h2
      rw [if_neg h2]
      have hh : http l = true := by simpa using h2
      have h7 : 7 ≤ l.length := by unfold http at hh; simp at hh; exact hh.1
      cases hs : site ((l.drop 7).take (ahead sq (l.drop 7))) with
      | none => rw [hs] at he; cases he
      | some x =>
        rw [hs] at he
        simp only [] at he ⊢
        obtain ⟨m, hm, hu⟩ := atU_ok he
        rw [hu]
        have hf := site_facts hs
        obtain ⟨t, ht, htl⟩ := slash_head ((l.drop 7).drop (ahead sq (l.drop 7)))
        rw [ht] at hm
        have hl := place_len t m hm
        have hp := portT_of hf.1.lo hf.1.hi
        have e1 := hf.2
        rw [List.length_take, List.length_drop] at e1
        rw [List.length_drop, List.length_drop] at htl
        have e3 := ahead_le sq (l.drop 7)
        rw [List.length_drop] at e3
        refine ⟨⟨hf.1, place_place t m hm, hl.2⟩, ?_, ?_⟩
        · unfold print
          simp [httpT]
          have := hp.2.2
          omega
        · show m.length ≤ _; omega
theorem parse_no {l : L} (he : (parse l).2 ≠ 0) : (parse l).1 = zero := by
  unfold parse at he ⊢
  split
  · rfl
  · rename_i h1
    rw [if_neg h1] at he
    split
    · rfl
    · rename_i h2
      rw [if_neg h2] at he
      cases hs : site ((l.drop 7).take (ahead sq (l.drop 7))) with
      | none => rfl
      | some x => rw [hs] at he; exact atU_no he
theorem http_print (x : L) : http (httpT ++ x) = true := by
  unfold http
  have h7 : 7 ≤ (httpT ++ x).length := by rw [List.length_append]; have : httpT.length = 7 := rfl; omega
  rw [show (httpT ++ x).take 7 = httpT from rfl, show lower httpT = httpT by decide, decide_eq_true h7]
  decide
theorem parse_print {u : U} (h : Ok u) (hl : (print u).length ≤ 8000) : parse (print u) = (u, 0) := by
  have e : print u = httpT ++ ((u.host ++ portT u.port) ++ u.path) := by unfold print; simp
  have e7 : (print u).drop 7 = (u.host ++ portT u.port) ++ u.path := by rw [e]; simp [httpT]
  obtain ⟨t, ht⟩ := h.head
  have hn : ∀ c ∈ u.host ++ portT u.port, sq c = false := by
    intro c hc
    have : c ≠ 47 ∧ c ≠ 63 := by
      rcases List.mem_append.1 hc with hc | hc
      · exact host_no h.site.host c hc
      · exact portT_no h.site.lo h.site.hi c hc
    simp [sq, this.1, this.2]
  have ha : ahead sq ((u.host ++ portT u.port) ++ u.path) = (u.host ++ portT u.port).length := by
    rw [ahead_app sq _ _ hn, ht, ahead_hit sq 47 t rfl, Nat.add_zero]
  unfold parse
  rw [if_neg (by omega), if_neg (by rw [e, http_print]; decide), e7, ha, List.take_left, List.drop_left, site_back h.site]
  simp only []
  rw [show slash u.path = u.path by unfold slash; rw [ht]; rfl]
  exact h.at
theorem right_of {u : U} (h : Ok u) (hl : (print u).length ≤ 8000) : right u = true := by
  unfold right; rw [parse_print h hl]; simp
theorem ok_of {u : U} (h : right u = true) : Ok u := by
  have h1 : parse (print u) = (u, 0) := by simpa [right] using h
  have h2 := parse_ok (l := print u) (by rw [h1])
  rw [h1] at h2
  exact h2.1
theorem ofT_ok {t h : L} (he : (ofT t h).2 = 0) : Ok (ofT t h).1 ∧ (print (ofT t h).1).length ≤ t.length + h.length + 15 ∧ (ofT t h).1.path.length ≤ t.length + 1 ∧ t ≠ [] ∧ (t.head? = some 47 → ofT (ofT t h).1.path h = ofT t h) := by
  unfold ofT at he ⊢
  split at he
  · cases he
  · rename_i h1
    rw [if_neg h1]
    cases hs : site h with
    | none => rw [hs] at he; cases he
    | some x =>
      rw [hs] at he
      simp only [] at he ⊢
      split at he
      · rename_i h47
        rw [if_pos h47]
        obtain ⟨m, hm, hu⟩ := atU_ok he
        rw [hu]
        have hf := site_facts hs
        obtain ⟨r, rfl⟩ : ∃ r, t = 47 :: r := by
          cases t with
          | nil => cases h47
          | cons c r =>
            obtain rfl : c = 47 := by simpa using h47
            exact ⟨r, rfl⟩
        have hl := place_len r m hm
        have hp := portT_of hf.1.lo hf.1.hi
        have hpp := place_place r m hm
        refine ⟨⟨hf.1, hpp, hl.2⟩, ?_, by simpa using (by omega : m.length ≤ r.length + 1 + 1), by simp, fun _ => ?_⟩
        · unfold print
          simp [httpT]
          have := hp.2.2
          have := hf.2
          omega
        · obtain ⟨y, hy⟩ := hl.2
          have hml : m.length ≤ 8000 := by simp at h1; omega
          have h1' : ¬ (8000 < m.length ∨ 8000 < h.length) := fun e => e.elim (fun e => by omega) (fun e => h1 (.inr e))
          show (if 8000 < m.length ∨ 8000 < h.length then _ else _) = _
          rw [if_neg h1', hy]
          simp only [List.head?_cons, if_pos]
          rw [← hy]
          unfold atU; rw [hpp, hm]
      · rename_i h47
        rw [if_neg h47]
        have hk := parse_ok he
        refine ⟨hk.1, by omega, hk.2.2, ?_, fun e => absurd e h47⟩
        intro e; subst e
        revert he; decide
theorem ofT_no {t h : L} (he : (ofT t h).2 ≠ 0) : (ofT t h).1 = zero := by
  unfold ofT at he ⊢
  split
  · rfl
  · rename_i h1
    rw [if_neg h1] at he
    cases hs : site h with
    | none => rfl
    | some x =>
      rw [hs] at he
      simp only [] at he ⊢
      split
      · rename_i h2; rw [if_pos h2] at he; exact atU_no he
      · rename_i h2; rw [if_neg h2] at he; exact parse_no he

/-! Where references lead. -/
theorem resolve_empty {u : U} (h : right u = true) : resolve u [] = (u, 0) := by
  unfold resolve
  rw [if_neg (by rw [h]; decide), if_neg (by simp), if_pos rfl]
theorem resolve_http {u : U} {r : L} (h : right u = true) (hr : http r = true) : resolve u r = parse r := by
  unfold resolve
  rw [if_neg (by rw [h]; decide)]
  split
  · rename_i h1; unfold parse; rw [if_pos h1]
  · rw [if_neg (by rintro rfl; revert hr; decide)]
theorem resolve_own {u : U} (h : right u = true) : resolve u (print u) = (u, 0) := by
  have h1 : parse (print u) = (u, 0) := by simpa [right] using h
  rw [resolve_http h (by unfold print; rw [List.append_assoc, List.append_assoc]; exact http_print _), h1]
theorem parse_http {r : L} (h : (parse r).2 = 0) : http r = true := by
  unfold parse at h
  split at h
  · cases h
  · split at h
    · cases h
    · rename_i h2; simpa using h2
theorem resolve_path {u v : U} (hu : Ok u) (hv : right v = true) (hh : v.host = u.host) (hp : v.port = u.port) (hl : u.path.length ≤ 8000) (h2 : u.path.take 2 ≠ [47, 47]) : resolve v u.path = (u, 0) := by
  obtain ⟨t, ht⟩ := hu.head
  unfold resolve
  rw [if_neg (by rw [hv]; decide), if_neg (by omega), if_neg (by rw [ht]; simp)]
  rw [if_neg (by
    rw [ht]; unfold http
    intro e
    rw [Bool.and_eq_true] at e
    have := e.2
    simp [lower, httpT, Oct.low] at this), if_neg h2, if_pos (by rw [ht]; rfl), hh, hp]
  exact hu.at
theorem place_zz : place [47, 122, 122, 57, 47, 121, 63, 122] = some [47, 122, 122, 57, 47, 121, 63, 122] := by decide +kernel
theorem ok_zz {u : U} (hu : Ok u) : Ok ⟨u.host, u.port, [47, 122, 122, 57, 47, 121, 63, 122]⟩ := ⟨hu.site, place_zz, ⟨_, rfl⟩⟩
end Tg
