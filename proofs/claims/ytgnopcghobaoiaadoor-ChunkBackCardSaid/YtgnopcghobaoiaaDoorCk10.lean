/- The statements of layer 7: what a decoder is to answer, in one pack; ChunkFeeds. -/
import Derived.Test.YtgnopcghobaoiaaDoorCk7
import Derived.Test.YtgnopcghobaoiaaDoorCkBut
namespace Ck
/-- What a call tells that is fed octets, where the body stands at s. -/
def fed (s : S) (l : L) : L × Nat × Bool × Int := if (go s l).2.2.2 ≠ 0 then ([], 0, false, (go s l).2.2.2) else ((go s l).1, (go s l).2.1, isOver (go s l).2.2.1, 0)
/-- Where it stands then; or the error that stays. -/
def next (s : S) (l : L) : S ⊕ Int := if (go s l).2.2.2 ≠ 0 then .inr (go s l).2.2.2 else .inl (go s l).2.2.1
/-- So far: at so many octets that came, so many of them taken. -/
structure So (l : L) (A K : Nat) (acc : L) (s : S) : Prop where
  le : A ≤ l.length
  eq : go (.size 0) (l.take A) = (acc, K, s, 0)
theorem So.start (l : L) : So l 0 0 [] (.size 0) := ⟨Nat.zero_le _, by rw [List.take_zero, go_nil]⟩
theorem So.took {l : L} {A K : Nat} {acc : L} {s : S} (h : So l A K acc s) : K ≤ A ∧ acc.length ≤ K := by
  have h1 := go_len (.size 0) (l.take A)
  rw [h.eq, List.length_take] at h1
  simp only [] at h1
  omega
theorem So.all {l : L} {A K : Nat} {acc : L} {s : S} (h : So l A K acc s) {E : Nat} (hE : A ≤ E) (_hl : E ≤ l.length) :
    go (.size 0) (l.take E) = (acc ++ (go s ((l.take E).drop K)).1, K + (go s ((l.take E).drop K)).2.1, (go s ((l.take E).drop K)).2.2) := by
  have hK := h.took.1
  have e : l.take E = l.take A ++ (l.take E).drop A := by
    conv => lhs; rw [← List.take_append_drop A (l.take E), List.take_take, Nat.min_eq_left hE]
  have e2 : (l.take E).drop K = (l.take A).drop K ++ (l.take E).drop A := by
    conv => lhs; rw [e]
    rw [List.drop_append_of_le_length (by rw [List.length_take]; have := h.le; omega)]
  conv => lhs; rw [e]
  rw [go_app (.size 0) (l.take A) ((l.take E).drop A) (by rw [h.eq]), h.eq, e2]
theorem So.told {l : L} {A K : Nat} {acc : L} {s : S} (h : So l A K acc s) {E : Nat} (hE : A ≤ E) (hl : E ≤ l.length) :
    Ck.told (l.take E) = if (fed s ((l.take E).drop K)).2.2.2 ≠ 0 then ([], 0, false, (fed s ((l.take E).drop K)).2.2.2) else (acc ++ (fed s ((l.take E).drop K)).1, K + (fed s ((l.take E).drop K)).2.1, (fed s ((l.take E).drop K)).2.2.1, 0) := by
  unfold Ck.told fed
  rw [h.all hE hl]
  simp only []
  by_cases h0 : (go s ((l.take E).drop K)).2.2.2 ≠ 0
  · rw [if_pos h0, if_pos h0, if_pos h0]
  · rw [if_neg h0, if_neg h0, if_neg (by simp)]
theorem So.next {l : L} {A K : Nat} {acc : L} {s : S} (h : So l A K acc s) {E : Nat} (hE : A ≤ E) (hl : E ≤ l.length) (h0 : (fed s ((l.take E).drop K)).2.2.2 = 0) :
    ∃ s', Ck.next s ((l.take E).drop K) = .inl s' ∧ So l E (K + (fed s ((l.take E).drop K)).2.1) (acc ++ (fed s ((l.take E).drop K)).1) s' := by
  have hz : (go s ((l.take E).drop K)).2.2.2 = 0 := by
    unfold fed at h0
    by_cases h1 : (go s ((l.take E).drop K)).2.2.2 ≠ 0
    · rw [if_pos h1] at h0; exact h0
    · exact Decidable.of_not_not h1
  refine ⟨(go s ((l.take E).drop K)).2.2.1, by unfold Ck.next; rw [if_neg (by rw [hz]; simp)], hl, ?_⟩
  rw [h.all hE hl]
  unfold fed
  rw [if_neg (by rw [hz]; simp)]
  have : (go s ((l.take E).drop K)).2.2 = ((go s ((l.take E).drop K)).2.2.1, 0) := by rw [← hz]
  rw [this]
theorem next_bad {s : S} {l : L} (h0 : (fed s l).2.2.2 ≠ 0) : Ck.next s l = .inr (fed s l).2.2.2 ∧ fed s l = ([], 0, false, (fed s l).2.2.2) := by
  unfold fed at h0 ⊢
  unfold Ck.next
  by_cases h1 : (go s l).2.2.2 ≠ 0
  · rw [if_pos h1, if_pos h1]; exact ⟨rfl, rfl⟩
  · rw [if_neg h1] at h0; exact absurd rfl h0
end Ck
namespace Go.Proofs.YtgnopcghobaoiaaDoor
open Go.RowKit

/-- What a decoder answers; its memory is the one block g. -/
structure Feed7 (Env : World → Prop) (Dec : World → Nat → Ck.S ⊕ Int → Prop) : Prop where
  new : ∀ (w : World), Env w → Calls Tryd.prog 11 #[] w fun e w' => (∃ g, e = .returned (.pointer (some ⟨g, 0, none⟩)) ∧ w.heap.size ≤ g ∧ g < w'.heap.size ∧ Dec w' g (.inl (.size 0))) ∧ Below w.heap.size w w'
  keep : ∀ {w w' : World} {g : Nat} {st : Ck.S ⊕ Int}, Dec w g st → w'.heap[g]? = w.heap[g]? → Dec w' g st
  feed : ∀ (g : Nat) (s : Ck.S) (v : Value) (l : List UInt8) (w : World), l.length ≤ 100000 → Dec w g (.inl s) → BIn w v l → Env w →
    Calls Tryd.prog 12 #[.pointer (some ⟨g, 0, none⟩), v] w fun e w' => (∃ u, e = .returned (.tuple #[u, .int .i64 (Ck.fed s l).2.1, .bool (Ck.fed s l).2.2.1, .int .i64 (Ck.fed s l).2.2.2]) ∧ BIn w' u (Ck.fed s l).1 ∧ NilOk u) ∧ But g w w' ∧ Dec w' g (Ck.next s l)
  bad : ∀ (g : Nat) (er : Int) (v : Value) (l : List UInt8) (w : World), l.length ≤ 100000 → Dec w g (.inr er) → BIn w v l → Env w →
    Calls Tryd.prog 12 #[.pointer (some ⟨g, 0, none⟩), v] w fun e w' => (∃ u, e = .returned (.tuple #[u, .int .i64 0, .bool false, .int .i64 er]) ∧ BIn w' u [] ∧ NilOk u) ∧ But g w w' ∧ Dec w' g (.inr er)

/-- A row of the call's own, at or behind block B. -/
structure Own (W : World) (B : Nat) (w : World) (v : Value) (l : List UInt8) : Prop where
  row : w.ownsRow B 5 1 v l.length (Lib.byteCells l)
  below : Below W.heap.size W w
  ge : W.heap.size ≤ B
  le : B ≤ w.heap.size
theorem Own.nil {W w : World} {B : Nat} (h : Below W.heap.size W w) (h1 : W.heap.size ≤ B) (h2 : B ≤ w.heap.size) : Own W B w (.slice none 0 0) [] := ⟨World.ownsRow_nil _ _ _ _, h, h1, h2⟩
theorem Own.after {W w w' : World} {B : Nat} {v : Value} {l : List UInt8} (h : Own W B w v l) (hb : Below w.heap.size w w') : Own W B w' v l := by
  refine ⟨⟨h.row.1, ?_⟩, h.below.trans (hb.mono h.below.size), h.ge, Nat.le_trans h.le hb.size⟩
  rcases h.row.2 with h0 | ⟨g, cap, cur, hv, hg, hh, rest⟩
  · exact .inl h0
  · exact .inr ⟨g, cap, cur, hv, hg, by rw [hb.block g (lt_of_block hh)]; exact hh, rest⟩
theorem Own.but {W w w' : World} {B k : Nat} {v : Value} {l : List UInt8} (h : Own W B w v l) (hb : But k w w') (hk : k < B) (hk2 : W.heap.size ≤ k) : Own W B w' v l := by
  refine ⟨⟨h.row.1, ?_⟩, hb.below h.below hk2 h.below.size, h.ge, Nat.le_trans h.le hb.size⟩
  rcases h.row.2 with h0 | ⟨g, cap, cur, hv, hg, hh, rest⟩
  · exact .inl h0
  · exact .inr ⟨g, cap, cur, hv, hg, by rw [hb.block g (lt_of_block hh) (by omega)]; exact hh, rest⟩
theorem Own.in_ {W w : World} {B : Nat} {v : Value} {l : List UInt8} (h : Own W B w v l) : BIn w v l ∧ NilOk v := own_in h.row
/-- 'append(b, c..)'. -/
theorem appOwn {ops : Array Oper} {rest : List Oper} {o : Oper} {a : Act} {Q : Exit → Act → World → Prop} {W w : World} {B : Nat} {v u : Value} {l m : List UInt8} (h : Own W B w v l) (hu : BIn w u m) (hnil : NilOk u) (hlen : l.length + m.length ≤ 1000000000)
    (hgd : o.guard = none) (s x : Operand) (ho : o.op = .call { callee := .builtin .append, args := #[s, x], argTypes := #[22, 22] })
    (hs : a.eval s = v) (hx : a.eval x = u)
    (hK : ∀ v' w', Own W B w' v' (l ++ m) → Below B w w' → (∀ k, k < w.heap.size → v.ownBlock ≠ some k → w'.heap[k]? = w.heap[k]?) → wpList Tryd.prog ops Q rest (a.put o.dst v') w') : wpList Tryd.prog ops Q (o :: rest) a w := by
  obtain ⟨i0, hi, hz0, hz1, hz2⟩ := info_parts bytes_info
  obtain ⟨ao, cap, rfl, hlc, _, hg⟩ := hu
  cases ao with
  | none =>
    have h0 : m = [] := by
      rcases hg with h | ⟨b, o, h, _⟩
      · exact h
      · cases h
    subst h0
    obtain rfl : cap = 0 := hnil cap rfl
    refine wpList_append_own_none hgd s x _ ho B 5 i0 1 Tryd.underlying22 hi v l.length (Lib.byteCells l) hs h.row hx ?_
    have := hK v w
    rw [List.append_nil] at this
    exact this h (Below.refl _ _) (fun _ _ _ => rfl)
  | some ad =>
    refine wpList_append_own _ hgd s x _ ho B 5 i0 _ 1 1 Tryd.underlying22 hi hz0 hz1 hz2 rfl (by decide) v l.length (Lib.byteCells l) hs h.row ad m.length cap (Lib.byteCells m) hx (by rw [Lib.byteCells_length]; omega) ?_ ?_ (by unfold maxLen; omega) (by omega) h.le (fun v' w' h1 h2 h3 => ?_)
    · intro j c hj
      have hjl : j < m.length := by
        have := (List.getElem?_eq_some_iff.1 hj).1
        rw [Lib.byteCells_length] at this; exact this
      rcases hg with h | ⟨b, o, h, hb, hc⟩
      · subst h; simp at hjl
      · cases h
        rw [Addr.add_lit, hc j hjl]
        rw [← hj]; simp [Lib.byteCells, hjl]
    · intro c hc
      unfold Lib.byteCells at hc
      obtain ⟨d, _, rfl⟩ := List.mem_map.1 hc
      rfl
    · have e : Lib.byteCells (l ++ m) = Lib.byteCells l ++ Lib.byteCells m := by simp [Lib.byteCells]
      exact hK v' w' ⟨by rw [e, List.length_append]; exact h1, h.below.grown h2 h.below.size (fun k hk => Nat.le_trans h.ge (h.row.lt k hk).1), h.ge, Nat.le_trans h.le h2.size⟩ ((Below.refl B w).grown h2 h.le (fun k hk => (h.row.lt k hk).1)) (fun k hk hne => h2.block k hk (fun e => hne e.symm))
theorem Own.none_ (W w : World) (hb : Below W.heap.size W w) : Own W w.heap.size (w.alloc (.cells #[] 5)) (.slice (some ⟨w.heap.size, 0, none⟩) 0 0) [] :=
  ⟨World.ownsRow_made w #[] 0 (Nat.le_refl _) (by decide) rfl, hb.alloc hb.size _, hb.size, ((Below.refl w.heap.size w).alloc (Nat.le_refl _) _).size⟩
/-- A part of what came in. -/
theorem BIn.mid {w : World} {ad : Addr} {m cap : Nat} {l : List UInt8} (h : BIn w (.slice (some ad) m cap) l) (K E : Nat) (hK : K ≤ E) (hE : E ≤ l.length) : BIn w (.slice (if cap = K then some ad else some (ad.add K)) (E - K) (cap - K)) ((l.take E).drop K) := by
  obtain ⟨ao', cap', hv, h1, h2, hg⟩ := h
  injection hv with hv1 hv2 hv3
  subst hv1 hv2 hv3
  have hl : ((l.take E).drop K).length = E - K := by rw [List.length_drop, List.length_take]; omega
  refine ⟨_, cap - K, by rw [hl], by omega, by omega, ?_⟩
  by_cases hKE : K = E
  · left; rw [List.drop_of_length_le (by rw [List.length_take]; omega)]
  · right
    rcases hg with rfl | ⟨b, o, hao, hb, hc⟩
    · simp at hE; omega
    · cases hao
      rw [if_neg (by omega), Addr.add_lit]
      refine ⟨b, o + K, rfl, hb, fun j hj => ?_⟩
      rw [hl] at hj
      rw [Nat.add_assoc, hc (K + j) (by omega)]
      simp

set_option maxHeartbeats 6400000 in
set_option maxRecDepth 100000 in
theorem kfeeds_some {Env : World → Prop} {Dec : World → Nat → Ck.S ⊕ Int → Prop} (P : Prog7 Env) (Q : Feed7 Env Dec) (v v2 : Value) (l cs : List UInt8) (w : World) (h : BIn w v l) (hnil : NilOk v) (h2 : BIn w v2 cs) (_hnil2 : NilOk v2) (hE : Env w) (ad : Addr) (hsome : ∃ m c, v = .slice (some ad) m c) :
    Calls Tryd.prog 4 #[v, v2] w fun e w' => e = .returned (.bool true) ∧ Below w.heap.size w w' := by
  have HV := Lib.hid h
  have HNIL := Lib.hid hnil
  have HE := Lib.hid hE
  have HP := Lib.hid P
  have HQ := Lib.hid Q
  have cA := fun (W : World) (hb : Below w.heap.size w W) => kawake_w P W (P.later hE hb)
  have hwb : Below w.heap.size w w := Below.refl _ _
  obtain ⟨c, rfl, hlc, hc9⟩ : ∃ c, v = .slice (some ad) l.length c ∧ l.length ≤ c ∧ c ≤ 9223372036854775807 := by
    obtain ⟨ao, c, rfl, h1, h2, _⟩ := h
    obtain ⟨m, c', hs⟩ := hsome
    injection hs with e1 e2 e3
    subst e1 e2 e3
    exact ⟨c, rfl, h1, h2⟩
  obtain ⟨ao2, c2, rfl, hlc2, hc92, hg2⟩ := h2
  have HG2 := Lib.hid hg2
  obtain ⟨L, hL⟩ : ∃ L, L = l.length := ⟨_, rfl⟩
  obtain ⟨NC, hNC⟩ : ∃ NC, NC = cs.length := ⟨_, rfl⟩
  have HL := Lib.hid hL
  have HNC := Lib.hid hNC
  rw [← hL] at hlc HV HNIL ⊢
  rw [← hNC] at hlc2 ⊢
  clear hnil hE P Q hg2 hsome
  by_cases h9 : (4000 : Int) < L
  · clear hL hNC
    go_enter Tryd.func4, Tryd.ntmps4
    go_wp2_with fail
    refine (cA w hwb).mono ?_
    rintro e w1 ⟨rfl, hb1⟩
    go_wp2_with fail
    refine (cA w1 hb1).mono ?_
    rintro e w2 ⟨rfl, hb2⟩
    go_wp2_with fail
    go_ret
    exact ⟨rfl, hb1.trans (hb2.mono hb1.size)⟩
  by_cases h92 : (200 : Int) < NC
  · clear hL hNC
    go_enter Tryd.func4, Tryd.ntmps4
    go_wp2_with fail
    refine (cA w hwb).mono ?_
    rintro e w1 ⟨rfl, hb1⟩
    go_wp2_with fail
    refine (cA w1 hb1).mono ?_
    rintro e w2 ⟨rfl, hb2⟩
    go_wp2_with fail
    go_ret
    exact ⟨rfl, hb1.trans (hb2.mono hb1.size)⟩
  have hL8 : L ≤ 4000 := by omega
  clear hL hNC
  go_enter Tryd.func4, Tryd.ntmps4
  go_wp2_with fail
  refine (cA w hwb).mono ?_
  rintro e1 w1 ⟨rfl, hb1⟩
  have cN := HQ.out.new w1 (HP.out.later HE.out hb1)
  clear cA hwb
  go_wp2_with fail
  refine cN.mono ?_
  rintro e2 w2 ⟨⟨g, rfl, hg1, hg2, hD⟩, hb2⟩
  have hB2 := hb1.trans (hb2.mono hb1.size)
  have hgw : w.heap.size ≤ g := Nat.le_trans hb1.size hg1
  obtain ⟨B, hBB⟩ : ∃ B, B = w2.heap.size := ⟨_, rfl⟩
  have hgB : g < B := by rw [hBB]; exact hg2
  have hO := Own.nil hB2 (B := B) (by rw [hBB]; exact hB2.size) (by rw [hBB]; exact Nat.le_refl _)
  clear cN hb1 hb2 hg1 hg2 hBB
  go_wp2_with fail
  go_loopw [6, 7, 8, 9] (fun x6 x7 x8 x9 wr => ∃ (acc : List UInt8) (K A ix : Nat) (s : Ck.S), x7 = .int .i64 K ∧ x8 = .int .i64 A ∧ x9 = .int .i64 ix ∧ ix ≤ NC + 1 ∧ Ck.So l A K acc s ∧ Own w B wr x6 acc ∧ Dec wr g (.inl s)) (fun _ _ _ x9 _ => NC + 1 - (intOf x9).toNat)
  case atStart => exact ⟨[], 0, 0, 0, .size 0, rfl, rfl, rfl, Nat.zero_le _, Ck.So.start l, hO, hD⟩
  case round =>
    clear hO hD hB2
    obtain ⟨acc, K, A, ix, s, rfl, rfl, rfl, hix, hS, hO, hD⟩ := hrel
    have hix0 : (0 : Int) ≤ ix := by omega
    by_cases hend : ix ≤ NC
    · have hixi : (ix : Int) ≤ NC := by omega
      have hAL : A ≤ L := by rw [HL.out]; exact hS.le
      have hKA := hS.took.1
      have hacc := hS.took.2
      have HS := Lib.hid hS
      clear hS
      by_cases hlt : ix < NC
      · have hlti : (ix : Int) < NC := by omega
        obtain ⟨b2, o2, hao2, hbl2, hcell2⟩ := HG2.out.resolve_left (fun x => by have := HNC.out; rw [x] at this; simp at this; omega)
        subst hao2
        have k0 : ix < cs.length := by rw [← HNC.out]; exact hlt
        have cc0 := (hO.below.cell (p := ⟨b2, o2 + ix, none⟩) hbl2).trans (hcell2 ix k0)
        obtain ⟨x, hx⟩ : ∃ x : Nat, x = cs[ix].toNat := ⟨_, rfl⟩
        have hx9 : x < 256 := by rw [hx]; exact cs[ix].toNat_lt
        rw [← hx] at cc0
        obtain ⟨E, hEE⟩ : ∃ E, E = min L (A + x) := ⟨_, rfl⟩
        have hm : min (L : Int) ((A : Int) + (x : Int)) = (E : Int) := by omega
        have hAE : A ≤ E := by omega
        have hEL : E ≤ L := by omega
        clear hcell2 hx hEE k0
        obtain ⟨X, hX⟩ : ∃ X, X = (l.take E).drop K := ⟨_, rfl⟩
        have hXl : X.length ≤ 4000 := by rw [hX, List.length_drop, List.length_take]; omega
        have hEl : E ≤ l.length := by rw [← HL.out]; exact hEL
        have hmid := (HV.out.later hO.below).mid K E (by omega) hEl
        rw [← hX] at hmid
        have htold := HS.out.told hAE hEl
        have hnext := HS.out.next hAE hEl
        rw [← hX] at htold hnext
        have cF := fun (u : Value) (W : World) (hu : BIn W u X) (hd : Dec W g (.inl s)) (hb : Below w.heap.size w W) => HQ.out.feed g s u X W (by omega) hd hu (HP.out.later HE.out hb)
        have hbad := fun h => Ck.next_bad (s := s) (l := X) h
        obtain ⟨⟨fx, fn, fd, fe⟩, hfed⟩ : ∃ y, Ck.fed s X = y := ⟨_, rfl⟩
        rw [hfed] at htold hnext cF hbad
        simp only [] at htold hnext cF hbad
        have HT := Lib.hid htold
        have HN := Lib.hid hnext
        have HB := Lib.hid hbad
        have cT := fun (W : World) (hb : Below w.heap.size w W) => rTold_w (.slice (some ad) E c) (l.take E) W (by rw [List.length_take]; omega) ((HV.out.cut E hEl).later hb)
        have hlenX : ([] : List UInt8).length + X.length ≤ 1000000000 := by show 0 + _ ≤ _; omega
        have hKi : (0 : Int) ≤ K := by omega
        have hKE : (K : Int) ≤ E := by omega
        have hEc : (E : Int) ≤ c := by omega
        have hEi : (0 : Int) ≤ E := by omega
        have hXE : X.length = E - K := by rw [hX, List.length_drop, List.length_take]; omega
        have HXE := Lib.hid hXE
        have HS2 := Lib.hid (fun (n : Nat) (hn : n ≤ X.length) => hn)
        clear hX hfed htold hnext hbad hXE
        go_upto_region 15 with fail
        go_cut [11, 12, 13, 14] (fun x11 x12 x13 x14 wx => BIn wx x11 fx ∧ NilOk x11 ∧ x12 = .int .i64 fn ∧ x13 = .bool fd ∧ x14 = .int .i64 fe ∧ Own w B wx u6 acc ∧ Dec wx g (Ck.next s X))
        case first =>
          have HO := Lib.hid hO
          have HD := Lib.hid hD
          have hb0 := hO.below
          by_cases hcK : c = K
          · rw [if_pos hcK] at hmid
            have hEK : E = K := by omega
            clear HXE
            subst hEK
            subst hcK
            rw [Nat.sub_self] at hmid
            have q1 := Own.none_ w wr hb0
            have q2 := hmid.later ((Below.refl _ wr).alloc (Nat.le_refl _) (.cells #[] 5))
            go_wp2_with (at_builtin; refine appOwn q1 q2 (nil_at _ _ _) hlenX rfl (.tmp 68) (.tmp 72) rfl rfl rfl ?_; intro v3 w3 hB3 hb3 _)
            have hb03 : Below wr.heap.size wr w3 := ((Below.refl _ wr).alloc (Nat.le_refl _) _).trans hb3
            have hD3 := HQ.out.keep HD.out (hb03.block g (Nat.lt_of_lt_of_le hgB HO.out.le))
            have hO3 := HO.out.after hb03
            have c3 := cF v3 w3 hB3.in_.1 hD3 hO3.below
            clear q1 q2 hb3 hb03 hD3 hb0 hmid
            go_wp2_with fail
            refine c3.mono ?_
            rintro e4 w4 ⟨⟨u4', rfl, hx4, hn4⟩, hbut, hD4⟩
            have hO4 := hO3.but hbut hgB hgw
            clear c3 hO3 hbut
            go_wp2_with fail
            go_meet
            case rel => exact ⟨hx4, hn4, rfl, rfl, rfl, hO4, hD4⟩
          · rw [if_neg hcK] at hmid
            have q1 := Own.none_ w wr hb0
            have q2 := hmid.later ((Below.refl _ wr).alloc (Nat.le_refl _) (.cells #[] 5))
            go_wp2_with (at_builtin; refine appOwn q1 q2 (nil_at _ _ _) hlenX rfl (.tmp 68) (.tmp 72) rfl rfl rfl ?_; intro v3 w3 hB3 hb3 _)
            have hb03 : Below wr.heap.size wr w3 := ((Below.refl _ wr).alloc (Nat.le_refl _) _).trans hb3
            have hD3 := HQ.out.keep HD.out (hb03.block g (Nat.lt_of_lt_of_le hgB HO.out.le))
            have hO3 := HO.out.after hb03
            have c3 := cF v3 w3 hB3.in_.1 hD3 hO3.below
            clear q1 q2 hb3 hb03 hD3 hb0 hmid
            go_wp2_with fail
            refine c3.mono ?_
            rintro e4 w4 ⟨⟨u4', rfl, hx4, hn4⟩, hbut, hD4⟩
            have hO4 := hO3.but hbut hgB hgw
            clear c3 hO3 hbut
            go_wp2_with fail
            go_meet
            case rel => exact ⟨hx4, hn4, rfl, rfl, rfl, hO4, hD4⟩
        case rest =>
          obtain ⟨hx, hxn, rfl, rfl, rfl, hO2, hD2⟩ := hcut
          clear hO hD hmid cF
          have cT2 := cT wc hO2.below
          by_cases f0 : fe = 0
          · subst f0
            have ht : Ck.told (l.take E) = (acc ++ fx, K + fn, fd, 0) := HT.out.trans (if_neg (by simp))
            rw [ht] at cT2
            simp only [] at cT2
            obtain ⟨s', hs', hS'⟩ := HN.out rfl
            rw [hs'] at hD2
            have hS9 := hS'.took
            rw [List.length_append] at hS9
            have hlenF := Lib.hid (by omega : acc.length + fx.length ≤ 1000000000)
            have HS9 := Lib.hid hS'
            have hg0 : ∀ k, u6.ownBlock = some k → k < wc.heap.size := fun k hk => (hO2.row.lt k hk).2
            clear ht HT HN HB cT hs' hS'
            generalize hbody : acc ++ fx = body at *
            obtain ⟨M, hM⟩ : ∃ M, K + fn = M := ⟨_, rfl⟩
            rw [hM] at cT2 HS9
            have hkf : (K : Int) + (fn : Int) = (M : Int) := by omega
            have hM4 : M ≤ 4000 := by omega
            clear hM hS9
            go_wp2_with fail
            refine cT2.mono ?_
            rintro e5 w5 ⟨⟨y5, rfl, hy⟩, hb5⟩
            have hO5 := hO2.after hb5
            have hD5 := HQ.out.keep hD2 (hb5.block g (Nat.lt_of_lt_of_le hgB hO2.le))
            have hx5 := hx.later hb5
            clear cT2 hO2 hD2 hx
            go_upto_region 24 with (at_builtin; refine appOwn hO5 hx5 hxn hlenF.out rfl (.tmp 135) (.tmp 136) rfl rfl rfl ?_; intro v7 w7 hO7 hb7 hk7)
            have hD7 := HQ.out.keep hD5 (hb7.block g hgB)
            obtain ⟨hy7, hyn7⟩ := hy.kept (w' := w7) (fun k hk1 hk2 => hk7 k hk1 (fun e => by have := hg0 k e; omega))
            have sy := hy7.all hyn7
            have so := hO7.in_.1.all hO7.in_.2
            rw [hbody] at so hO7
            have HO7 := Lib.hid hO7
            have HD7 := Lib.hid hD7
            generalize hsb : str body = SB at so sy
            clear hy hO5 hD5 hx5 hb5 hb7 hk7 hy7 hg0 hO7 hD7 hsb hbody
            go_wp2_with fail
            go_round
            case rel => exact ⟨body, M, E, ix + 1, s', rfl, rfl, by go_num, by omega, HS9.out, HO7.out, HD7.out⟩
            case measure => simp [intOf]; omega
          · obtain ⟨hnx, hfd⟩ := HB.out f0
            simp only [Prod.mk.injEq] at hfd
            obtain ⟨rfl, rfl, rfl, _⟩ := hfd
            have ht : Ck.told (l.take E) = ([], 0, false, fe) := HT.out.trans (if_pos f0)
            rw [ht] at cT2
            simp only [] at cT2
            rw [hnx] at hD2
            have be : (fe != 0) = true := by rw [bne, beq_eq_false_iff_ne.2 f0]; rfl
            obtain ⟨xa, xc, rfl, _, _, _⟩ := hx
            clear ht HT HN HB cT hnx
            go_wp2_with fail
            refine cT2.mono ?_
            rintro e5 w5 ⟨⟨y5, rfl, hy⟩, hb5⟩
            have hO5 := hO2.after hb5
            have hD5 := HQ.out.keep hD2 (hb5.block g (Nat.lt_of_lt_of_le hgB hO2.le))
            have cB1 := HQ.out.bad g fe (.slice none 0 0) [] w5 (by decide) hD5 (bin_nil w5).1 (HP.out.later HE.out hO5.below)
            clear cT2 hO2 hD2 hy hb5 hD5
            go_wp2_with fail
            refine cB1.mono ?_
            rintro e6 w6 ⟨⟨u6', rfl, _, _⟩, hbut6, hD6⟩
            have hO6 := hO5.but hbut6 hgB hgw
            obtain ⟨W7, hcv, hin7, hb7⟩ := octets_block w6 #[.int .u8 48, .int .u8 13, .int .u8 10, .int .u8 13, .int .u8 10] [48, 13, 10, 13, 10] rfl (by decide)
            have hcv' : (convert 22 22 (.slice (some ⟨w6.heap.size, 0, none⟩) 5 5)).run Tryd.prog (w6.alloc (.cells #[.int .u8 48, .int .u8 13, .int .u8 10, .int .u8 13, .int .u8 10] 5)) = .ok (.slice (some ⟨w6.heap.size, 0, none⟩) 5 5) W7 := hcv
            have hO7 := hO6.after hb7
            have hD7 := HQ.out.keep hD6 (hb7.block g (Nat.lt_of_lt_of_le hgB hO6.le))
            have cB2 := HQ.out.bad g fe (.slice (some ⟨w6.heap.size, 0, none⟩) 5 5) [48, 13, 10, 13, 10] W7 (by decide) hD7 hin7 (HP.out.later HE.out hO7.below)
            clear cB1 hO5 hbut6 hD6 hcv hin7 hb7 hD7 hO6
            go_wp2_with fail
            refine cB2.mono ?_
            rintro e8 w8 ⟨⟨u8', rfl, _, _⟩, hbut8, _⟩
            have hB8 := (hO7.but hbut8 hgB hgw).below
            clear cB2 hcv' hO7 hbut8
            go_wp2_with fail
            go_ret
            exact ⟨rfl, hB8⟩
      · have hlti : ¬ (ix : Int) < NC := by omega
        have hAE : A ≤ L := hAL
        have hEL : L ≤ L := Nat.le_refl _
        obtain ⟨X, hX⟩ : ∃ X, X = (l.take L).drop K := ⟨_, rfl⟩
        have hXl : X.length ≤ 4000 := by rw [hX, List.length_drop, List.length_take]; omega
        have hEl : L ≤ l.length := by rw [← HL.out]; exact hEL
        have hmid := (HV.out.later hO.below).mid K L (by omega) hEl
        rw [← hX] at hmid
        have htold := HS.out.told hAE hEl
        have hnext := HS.out.next hAE hEl
        rw [← hX] at htold hnext
        have cF := fun (u : Value) (W : World) (hu : BIn W u X) (hd : Dec W g (.inl s)) (hb : Below w.heap.size w W) => HQ.out.feed g s u X W (by omega) hd hu (HP.out.later HE.out hb)
        have hbad := fun h => Ck.next_bad (s := s) (l := X) h
        obtain ⟨⟨fx, fn, fd, fe⟩, hfed⟩ : ∃ y, Ck.fed s X = y := ⟨_, rfl⟩
        rw [hfed] at htold hnext cF hbad
        simp only [] at htold hnext cF hbad
        have HT := Lib.hid htold
        have HN := Lib.hid hnext
        have HB := Lib.hid hbad
        have cT := fun (W : World) (hb : Below w.heap.size w W) => rTold_w (.slice (some ad) L c) (l.take L) W (by rw [List.length_take]; omega) ((HV.out.cut L hEl).later hb)
        have hlenX : ([] : List UInt8).length + X.length ≤ 1000000000 := by show 0 + _ ≤ _; omega
        have hKi : (0 : Int) ≤ K := by omega
        have hKE : (K : Int) ≤ L := by omega
        have hEc : (L : Int) ≤ c := by omega
        have hEi : (0 : Int) ≤ L := by omega
        have hXE : X.length = L - K := by rw [hX, List.length_drop, List.length_take]; omega
        have HXE := Lib.hid hXE
        have HS2 := Lib.hid (fun (n : Nat) (hn : n ≤ X.length) => hn)
        clear hX hfed htold hnext hbad hXE
        go_upto_region 15 with fail
        go_cut [11, 12, 13, 14] (fun x11 x12 x13 x14 wx => BIn wx x11 fx ∧ NilOk x11 ∧ x12 = .int .i64 fn ∧ x13 = .bool fd ∧ x14 = .int .i64 fe ∧ Own w B wx u6 acc ∧ Dec wx g (Ck.next s X))
        case first =>
          have HO := Lib.hid hO
          have HD := Lib.hid hD
          have hb0 := hO.below
          by_cases hcK : c = K
          · rw [if_pos hcK] at hmid
            have hEK : L = K := by omega
            clear HXE
            subst hEK
            subst hcK
            rw [Nat.sub_self] at hmid
            have q1 := Own.none_ w wr hb0
            have q2 := hmid.later ((Below.refl _ wr).alloc (Nat.le_refl _) (.cells #[] 5))
            go_wp2_with (at_builtin; refine appOwn q1 q2 (nil_at _ _ _) hlenX rfl (.tmp 68) (.tmp 72) rfl rfl rfl ?_; intro v3 w3 hB3 hb3 _)
            have hb03 : Below wr.heap.size wr w3 := ((Below.refl _ wr).alloc (Nat.le_refl _) _).trans hb3
            have hD3 := HQ.out.keep HD.out (hb03.block g (Nat.lt_of_lt_of_le hgB HO.out.le))
            have hO3 := HO.out.after hb03
            have c3 := cF v3 w3 hB3.in_.1 hD3 hO3.below
            clear q1 q2 hb3 hb03 hD3 hb0 hmid
            go_wp2_with fail
            refine c3.mono ?_
            rintro e4 w4 ⟨⟨u4', rfl, hx4, hn4⟩, hbut, hD4⟩
            have hO4 := hO3.but hbut hgB hgw
            clear c3 hO3 hbut
            go_wp2_with fail
            go_meet
            case rel => exact ⟨hx4, hn4, rfl, rfl, rfl, hO4, hD4⟩
          · rw [if_neg hcK] at hmid
            have q1 := Own.none_ w wr hb0
            have q2 := hmid.later ((Below.refl _ wr).alloc (Nat.le_refl _) (.cells #[] 5))
            go_wp2_with (at_builtin; refine appOwn q1 q2 (nil_at _ _ _) hlenX rfl (.tmp 68) (.tmp 72) rfl rfl rfl ?_; intro v3 w3 hB3 hb3 _)
            have hb03 : Below wr.heap.size wr w3 := ((Below.refl _ wr).alloc (Nat.le_refl _) _).trans hb3
            have hD3 := HQ.out.keep HD.out (hb03.block g (Nat.lt_of_lt_of_le hgB HO.out.le))
            have hO3 := HO.out.after hb03
            have c3 := cF v3 w3 hB3.in_.1 hD3 hO3.below
            clear q1 q2 hb3 hb03 hD3 hb0 hmid
            go_wp2_with fail
            refine c3.mono ?_
            rintro e4 w4 ⟨⟨u4', rfl, hx4, hn4⟩, hbut, hD4⟩
            have hO4 := hO3.but hbut hgB hgw
            clear c3 hO3 hbut
            go_wp2_with fail
            go_meet
            case rel => exact ⟨hx4, hn4, rfl, rfl, rfl, hO4, hD4⟩
        case rest =>
          obtain ⟨hx, hxn, rfl, rfl, rfl, hO2, hD2⟩ := hcut
          clear hO hD hmid cF
          have cT2 := cT wc hO2.below
          by_cases f0 : fe = 0
          · subst f0
            have ht : Ck.told (l.take L) = (acc ++ fx, K + fn, fd, 0) := HT.out.trans (if_neg (by simp))
            rw [ht] at cT2
            simp only [] at cT2
            obtain ⟨s', hs', hS'⟩ := HN.out rfl
            rw [hs'] at hD2
            have hS9 := hS'.took
            rw [List.length_append] at hS9
            have hlenF := Lib.hid (by omega : acc.length + fx.length ≤ 1000000000)
            have HS9 := Lib.hid hS'
            have hg0 : ∀ k, u6.ownBlock = some k → k < wc.heap.size := fun k hk => (hO2.row.lt k hk).2
            clear ht HT HN HB cT hs' hS'
            generalize hbody : acc ++ fx = body at *
            obtain ⟨M, hM⟩ : ∃ M, K + fn = M := ⟨_, rfl⟩
            rw [hM] at cT2 HS9
            have hkf : (K : Int) + (fn : Int) = (M : Int) := by omega
            have hM4 : M ≤ 4000 := by omega
            clear hM hS9
            go_wp2_with fail
            refine cT2.mono ?_
            rintro e5 w5 ⟨⟨y5, rfl, hy⟩, hb5⟩
            have hO5 := hO2.after hb5
            have hD5 := HQ.out.keep hD2 (hb5.block g (Nat.lt_of_lt_of_le hgB hO2.le))
            have hx5 := hx.later hb5
            clear cT2 hO2 hD2 hx
            go_upto_region 24 with (at_builtin; refine appOwn hO5 hx5 hxn hlenF.out rfl (.tmp 135) (.tmp 136) rfl rfl rfl ?_; intro v7 w7 hO7 hb7 hk7)
            have hD7 := HQ.out.keep hD5 (hb7.block g hgB)
            obtain ⟨hy7, hyn7⟩ := hy.kept (w' := w7) (fun k hk1 hk2 => hk7 k hk1 (fun e => by have := hg0 k e; omega))
            have sy := hy7.all hyn7
            have so := hO7.in_.1.all hO7.in_.2
            rw [hbody] at so hO7
            have HO7 := Lib.hid hO7
            have HD7 := Lib.hid hD7
            generalize hsb : str body = SB at so sy
            clear hy hO5 hD5 hx5 hb5 hb7 hk7 hy7 hg0 hO7 hD7 hsb hbody
            go_wp2_with fail
            go_round
            case rel => exact ⟨body, M, L, ix + 1, s', rfl, rfl, by go_num, by omega, HS9.out, HO7.out, HD7.out⟩
            case measure => simp [intOf]; omega
          · obtain ⟨hnx, hfd⟩ := HB.out f0
            simp only [Prod.mk.injEq] at hfd
            obtain ⟨rfl, rfl, rfl, _⟩ := hfd
            have ht : Ck.told (l.take L) = ([], 0, false, fe) := HT.out.trans (if_pos f0)
            rw [ht] at cT2
            simp only [] at cT2
            rw [hnx] at hD2
            have be : (fe != 0) = true := by rw [bne, beq_eq_false_iff_ne.2 f0]; rfl
            obtain ⟨xa, xc, rfl, _, _, _⟩ := hx
            clear ht HT HN HB cT hnx
            go_wp2_with fail
            refine cT2.mono ?_
            rintro e5 w5 ⟨⟨y5, rfl, hy⟩, hb5⟩
            have hO5 := hO2.after hb5
            have hD5 := HQ.out.keep hD2 (hb5.block g (Nat.lt_of_lt_of_le hgB hO2.le))
            have cB1 := HQ.out.bad g fe (.slice none 0 0) [] w5 (by decide) hD5 (bin_nil w5).1 (HP.out.later HE.out hO5.below)
            clear cT2 hO2 hD2 hy hb5 hD5
            go_wp2_with fail
            refine cB1.mono ?_
            rintro e6 w6 ⟨⟨u6', rfl, _, _⟩, hbut6, hD6⟩
            have hO6 := hO5.but hbut6 hgB hgw
            obtain ⟨W7, hcv, hin7, hb7⟩ := octets_block w6 #[.int .u8 48, .int .u8 13, .int .u8 10, .int .u8 13, .int .u8 10] [48, 13, 10, 13, 10] rfl (by decide)
            have hcv' : (convert 22 22 (.slice (some ⟨w6.heap.size, 0, none⟩) 5 5)).run Tryd.prog (w6.alloc (.cells #[.int .u8 48, .int .u8 13, .int .u8 10, .int .u8 13, .int .u8 10] 5)) = .ok (.slice (some ⟨w6.heap.size, 0, none⟩) 5 5) W7 := hcv
            have hO7 := hO6.after hb7
            have hD7 := HQ.out.keep hD6 (hb7.block g (Nat.lt_of_lt_of_le hgB hO6.le))
            have cB2 := HQ.out.bad g fe (.slice (some ⟨w6.heap.size, 0, none⟩) 5 5) [48, 13, 10, 13, 10] W7 (by decide) hD7 hin7 (HP.out.later HE.out hO7.below)
            clear cB1 hO5 hbut6 hD6 hcv hin7 hb7 hD7 hO6
            go_wp2_with fail
            refine cB2.mono ?_
            rintro e8 w8 ⟨⟨u8', rfl, _, _⟩, hbut8, _⟩
            have hB8 := (hO7.but hbut8 hgB hgw).below
            clear cB2 hcv' hO7 hbut8
            go_wp2_with fail
            go_ret
            exact ⟨rfl, hB8⟩
    · have hixi : ¬ (ix : Int) ≤ NC := by omega
      have hB9 := hO.below
      go_wp2_with fail
      go_ret
      exact ⟨rfl, hB9⟩
set_option maxHeartbeats 6400000 in
set_option maxRecDepth 100000 in
theorem kfeeds_none {Env : World → Prop} {Dec : World → Nat → Ck.S ⊕ Int → Prop} (P : Prog7 Env) (Q : Feed7 Env Dec) (v v2 : Value) (l cs : List UInt8) (w : World) (h : BIn w v l) (hnil : NilOk v) (h2 : BIn w v2 cs) (_hnil2 : NilOk v2) (hE : Env w) (hsome : ∃ m c, v = .slice none m c) :
    Calls Tryd.prog 4 #[v, v2] w fun e w' => e = .returned (.bool true) ∧ Below w.heap.size w w' := by
  have HV := Lib.hid h
  have HNIL := Lib.hid hnil
  have HE := Lib.hid hE
  have HP := Lib.hid P
  have HQ := Lib.hid Q
  have cA := fun (W : World) (hb : Below w.heap.size w W) => kawake_w P W (P.later hE hb)
  have hwb : Below w.heap.size w w := Below.refl _ _
  obtain ⟨hl0, rfl⟩ : l = [] ∧ v = .slice none 0 0 := by
    obtain ⟨ao, c, rfl, h1, h2, h3⟩ := h
    obtain ⟨m, c', hs⟩ := hsome
    injection hs with e1 e2 e3
    subst e1 e2 e3
    have hl : l = [] := by
      rcases h3 with h | ⟨b, o, h, _⟩
      · exact h
      · cases h
    subst hl
    exact ⟨rfl, by rw [hnil c rfl]; rfl⟩
  obtain ⟨ao2, c2, rfl, hlc2, hc92, hg2⟩ := h2
  have HG2 := Lib.hid hg2
  obtain ⟨NC, hNC⟩ : ∃ NC, NC = cs.length := ⟨_, rfl⟩
  have HL0 := Lib.hid hl0
  have HNC := Lib.hid hNC
  rw [← hNC] at hlc2 ⊢
  clear hnil hE P Q hg2 hsome hl0
  by_cases h92 : (200 : Int) < NC
  · clear hNC
    go_enter Tryd.func4, Tryd.ntmps4
    go_wp2_with fail
    refine (cA w hwb).mono ?_
    rintro e w1 ⟨rfl, hb1⟩
    go_wp2_with fail
    refine (cA w1 hb1).mono ?_
    rintro e w2 ⟨rfl, hb2⟩
    go_wp2_with fail
    go_ret
    exact ⟨rfl, hb1.trans (hb2.mono hb1.size)⟩
  clear hNC
  go_enter Tryd.func4, Tryd.ntmps4
  go_wp2_with fail
  refine (cA w hwb).mono ?_
  rintro e1 w1 ⟨rfl, hb1⟩
  have cN := HQ.out.new w1 (HP.out.later HE.out hb1)
  clear cA hwb
  go_wp2_with fail
  refine cN.mono ?_
  rintro e2 w2 ⟨⟨g, rfl, hg1, hg2, hD⟩, hb2⟩
  have hB2 := hb1.trans (hb2.mono hb1.size)
  have hgw : w.heap.size ≤ g := Nat.le_trans hb1.size hg1
  obtain ⟨B, hBB⟩ : ∃ B, B = w2.heap.size := ⟨_, rfl⟩
  have hgB : g < B := by rw [hBB]; exact hg2
  have hO := Own.nil hB2 (B := B) (by rw [hBB]; exact hB2.size) (by rw [hBB]; exact Nat.le_refl _)
  clear cN hb1 hb2 hg1 hg2 hBB
  go_wp2_with fail
  go_loopw [6, 7, 8, 9] (fun x6 x7 x8 x9 wr => ∃ (acc : List UInt8) (K A ix : Nat) (s : Ck.S), x7 = .int .i64 K ∧ x8 = .int .i64 A ∧ x9 = .int .i64 ix ∧ ix ≤ NC + 1 ∧ Ck.So l A K acc s ∧ Own w B wr x6 acc ∧ Dec wr g (.inl s)) (fun _ _ _ x9 _ => NC + 1 - (intOf x9).toNat)
  case atStart => exact ⟨[], 0, 0, 0, .size 0, rfl, rfl, rfl, Nat.zero_le _, Ck.So.start l, hO, hD⟩
  case round =>
    clear hO hD hB2
    obtain ⟨acc, K, A, ix, s, rfl, rfl, rfl, hix, hS, hO, hD⟩ := hrel
    have hix0 : (0 : Int) ≤ ix := by omega
    by_cases hend : ix ≤ NC
    · have hixi : (ix : Int) ≤ NC := by omega
      obtain rfl : A = 0 := by have := hS.le; rw [HL0.out] at this; simpa using this
      obtain rfl : K = 0 := by have := hS.took.1; omega
      have hacc := hS.took.2
      have HS := Lib.hid hS
      clear hS
      by_cases hlt : ix < NC
      · have hlti : (ix : Int) < NC := by omega
        obtain ⟨b2, o2, hao2, hbl2, hcell2⟩ := HG2.out.resolve_left (fun x => by have := HNC.out; rw [x] at this; simp at this; omega)
        subst hao2
        have k0 : ix < cs.length := by rw [← HNC.out]; exact hlt
        have cc0 := (hO.below.cell (p := ⟨b2, o2 + ix, none⟩) hbl2).trans (hcell2 ix k0)
        obtain ⟨x, hx⟩ : ∃ x : Nat, x = cs[ix].toNat := ⟨_, rfl⟩
        have hx9 : x < 256 := by rw [hx]; exact cs[ix].toNat_lt
        rw [← hx] at cc0
        have hm : min (0 : Int) (x : Int) = 0 := by omega
        clear hcell2 hx k0
        obtain ⟨X, hX⟩ : ∃ X, X = (l.take 0).drop 0 := ⟨_, rfl⟩
        have hX0 : X = [] := by rw [hX, HL0.out]; rfl
        have hXl : X.length ≤ 4000 := by rw [hX0]; decide
        have hmid : BIn wr (.slice none 0 0) X := by rw [hX0]; exact (bin_nil wr).1
        have htold := HS.out.told (Nat.zero_le _) (Nat.zero_le _)
        have hnext := HS.out.next (Nat.zero_le _) (Nat.zero_le _)
        rw [← hX] at htold hnext
        have cF := fun (u : Value) (W : World) (hu : BIn W u X) (hd : Dec W g (.inl s)) (hb : Below w.heap.size w W) => HQ.out.feed g s u X W (by omega) hd hu (HP.out.later HE.out hb)
        have hbad := fun h => Ck.next_bad (s := s) (l := X) h
        obtain ⟨⟨fx, fn, fd, fe⟩, hfed⟩ : ∃ y, Ck.fed s X = y := ⟨_, rfl⟩
        rw [hfed] at htold hnext cF hbad
        simp only [] at htold hnext cF hbad
        have HT := Lib.hid htold
        have HN := Lib.hid hnext
        have HB := Lib.hid hbad
        have cT := fun (W : World) (hb : Below w.heap.size w W) => rTold_w (.slice none 0 0) (l.take 0) W (by rw [List.take_zero]; decide) (by rw [List.take_zero]; exact (bin_nil W).1)
        have hlenX : ([] : List UInt8).length + X.length ≤ 1000000000 := by show 0 + _ ≤ _; omega
        have HS2 := Lib.hid (fun (n : Nat) (hn : n ≤ X.length) => hn)
        clear hX hX0 hfed htold hnext hbad
        go_upto_region 15 with fail
        go_cut [11, 12, 13, 14] (fun x11 x12 x13 x14 wx => BIn wx x11 fx ∧ NilOk x11 ∧ x12 = .int .i64 fn ∧ x13 = .bool fd ∧ x14 = .int .i64 fe ∧ Own w B wx u6 acc ∧ Dec wx g (Ck.next s X))
        case first =>
          have HO := Lib.hid hO
          have HD := Lib.hid hD
          have hb0 := hO.below
          have q1 := Own.none_ w wr hb0
          have q2 := hmid.later ((Below.refl _ wr).alloc (Nat.le_refl _) (.cells #[] 5))
          go_wp2_with (at_builtin; refine appOwn q1 q2 (bin_nil wr).2 hlenX rfl (.tmp 68) (.tmp 72) rfl rfl rfl ?_; intro v3 w3 hB3 hb3 _)
          have hb03 : Below wr.heap.size wr w3 := ((Below.refl _ wr).alloc (Nat.le_refl _) _).trans hb3
          have hD3 := HQ.out.keep HD.out (hb03.block g (Nat.lt_of_lt_of_le hgB HO.out.le))
          have hO3 := HO.out.after hb03
          have c3 := cF v3 w3 hB3.in_.1 hD3 hO3.below
          clear q1 q2 hb3 hb03 hD3 hb0 hmid
          go_wp2_with fail
          refine c3.mono ?_
          rintro e4 w4 ⟨⟨u4', rfl, hx4, hn4⟩, hbut, hD4⟩
          have hO4 := hO3.but hbut hgB hgw
          clear c3 hO3 hbut
          go_wp2_with fail
          go_meet
          case rel => exact ⟨hx4, hn4, rfl, rfl, rfl, hO4, hD4⟩
        case rest =>
          obtain ⟨hx, hxn, rfl, rfl, rfl, hO2, hD2⟩ := hcut
          clear hO hD hmid cF
          have cT2 := cT wc hO2.below
          by_cases f0 : fe = 0
          · subst f0
            have ht : Ck.told (l.take 0) = (acc ++ fx, 0 + fn, fd, 0) := HT.out.trans (if_neg (by simp))
            rw [ht] at cT2
            simp only [] at cT2
            obtain ⟨s', hs', hS'⟩ := HN.out rfl
            rw [hs'] at hD2
            have hS9 := hS'.took
            rw [List.length_append] at hS9
            have hlenF := Lib.hid (by omega : acc.length + fx.length ≤ 1000000000)
            have HS9 := Lib.hid hS'
            have hg0 : ∀ k, u6.ownBlock = some k → k < wc.heap.size := fun k hk => (hO2.row.lt k hk).2
            clear ht HT HN HB cT hs' hS'
            generalize hbody : acc ++ fx = body at *
            obtain ⟨M, hM⟩ : ∃ M, 0 + fn = M := ⟨_, rfl⟩
            rw [hM] at cT2 HS9
            have hkf : (0 : Int) + (fn : Int) = (M : Int) := by omega
            have hM4 : M ≤ 4000 := by omega
            clear hM hS9
            go_wp2_with fail
            refine cT2.mono ?_
            rintro e5 w5 ⟨⟨y5, rfl, hy⟩, hb5⟩
            have hO5 := hO2.after hb5
            have hD5 := HQ.out.keep hD2 (hb5.block g (Nat.lt_of_lt_of_le hgB hO2.le))
            have hx5 := hx.later hb5
            clear cT2 hO2 hD2 hx
            go_upto_region 24 with (at_builtin; refine appOwn hO5 hx5 hxn hlenF.out rfl (.tmp 135) (.tmp 136) rfl rfl rfl ?_; intro v7 w7 hO7 hb7 hk7)
            have hD7 := HQ.out.keep hD5 (hb7.block g hgB)
            obtain ⟨hy7, hyn7⟩ := hy.kept (w' := w7) (fun k hk1 hk2 => hk7 k hk1 (fun e => by have := hg0 k e; omega))
            have sy := hy7.all hyn7
            have so := hO7.in_.1.all hO7.in_.2
            rw [hbody] at so hO7
            have HO7 := Lib.hid hO7
            have HD7 := Lib.hid hD7
            generalize hsb : str body = SB at so sy
            clear hy hO5 hD5 hx5 hb5 hb7 hk7 hy7 hg0 hO7 hD7 hsb hbody
            go_wp2_with fail
            go_round
            case rel => exact ⟨body, M, 0, ix + 1, s', rfl, rfl, by go_num, by omega, HS9.out, HO7.out, HD7.out⟩
            case measure => simp [intOf]; omega
          · obtain ⟨hnx, hfd⟩ := HB.out f0
            simp only [Prod.mk.injEq] at hfd
            obtain ⟨rfl, rfl, rfl, _⟩ := hfd
            have ht : Ck.told (l.take 0) = ([], 0, false, fe) := HT.out.trans (if_pos f0)
            rw [ht] at cT2
            simp only [] at cT2
            rw [hnx] at hD2
            have be : (fe != 0) = true := by rw [bne, beq_eq_false_iff_ne.2 f0]; rfl
            obtain ⟨xa, xc, rfl, _, _, _⟩ := hx
            clear ht HT HN HB cT hnx
            go_wp2_with fail
            refine cT2.mono ?_
            rintro e5 w5 ⟨⟨y5, rfl, hy⟩, hb5⟩
            have hO5 := hO2.after hb5
            have hD5 := HQ.out.keep hD2 (hb5.block g (Nat.lt_of_lt_of_le hgB hO2.le))
            have cB1 := HQ.out.bad g fe (.slice none 0 0) [] w5 (by decide) hD5 (bin_nil w5).1 (HP.out.later HE.out hO5.below)
            clear cT2 hO2 hD2 hy hb5 hD5
            go_wp2_with fail
            refine cB1.mono ?_
            rintro e6 w6 ⟨⟨u6', rfl, _, _⟩, hbut6, hD6⟩
            have hO6 := hO5.but hbut6 hgB hgw
            obtain ⟨W7, hcv, hin7, hb7⟩ := octets_block w6 #[.int .u8 48, .int .u8 13, .int .u8 10, .int .u8 13, .int .u8 10] [48, 13, 10, 13, 10] rfl (by decide)
            have hcv' : (convert 22 22 (.slice (some ⟨w6.heap.size, 0, none⟩) 5 5)).run Tryd.prog (w6.alloc (.cells #[.int .u8 48, .int .u8 13, .int .u8 10, .int .u8 13, .int .u8 10] 5)) = .ok (.slice (some ⟨w6.heap.size, 0, none⟩) 5 5) W7 := hcv
            have hO7 := hO6.after hb7
            have hD7 := HQ.out.keep hD6 (hb7.block g (Nat.lt_of_lt_of_le hgB hO6.le))
            have cB2 := HQ.out.bad g fe (.slice (some ⟨w6.heap.size, 0, none⟩) 5 5) [48, 13, 10, 13, 10] W7 (by decide) hD7 hin7 (HP.out.later HE.out hO7.below)
            clear cB1 hO5 hbut6 hD6 hcv hin7 hb7 hD7 hO6
            go_wp2_with fail
            refine cB2.mono ?_
            rintro e8 w8 ⟨⟨u8', rfl, _, _⟩, hbut8, _⟩
            have hB8 := (hO7.but hbut8 hgB hgw).below
            clear cB2 hcv' hO7 hbut8
            go_wp2_with fail
            go_ret
            exact ⟨rfl, hB8⟩
      · have hlti : ¬ (ix : Int) < NC := by omega
        obtain ⟨X, hX⟩ : ∃ X, X = (l.take 0).drop 0 := ⟨_, rfl⟩
        have hX0 : X = [] := by rw [hX, HL0.out]; rfl
        have hXl : X.length ≤ 4000 := by rw [hX0]; decide
        have hmid : BIn wr (.slice none 0 0) X := by rw [hX0]; exact (bin_nil wr).1
        have htold := HS.out.told (Nat.zero_le _) (Nat.zero_le _)
        have hnext := HS.out.next (Nat.zero_le _) (Nat.zero_le _)
        rw [← hX] at htold hnext
        have cF := fun (u : Value) (W : World) (hu : BIn W u X) (hd : Dec W g (.inl s)) (hb : Below w.heap.size w W) => HQ.out.feed g s u X W (by omega) hd hu (HP.out.later HE.out hb)
        have hbad := fun h => Ck.next_bad (s := s) (l := X) h
        obtain ⟨⟨fx, fn, fd, fe⟩, hfed⟩ : ∃ y, Ck.fed s X = y := ⟨_, rfl⟩
        rw [hfed] at htold hnext cF hbad
        simp only [] at htold hnext cF hbad
        have HT := Lib.hid htold
        have HN := Lib.hid hnext
        have HB := Lib.hid hbad
        have cT := fun (W : World) (hb : Below w.heap.size w W) => rTold_w (.slice none 0 0) (l.take 0) W (by rw [List.take_zero]; decide) (by rw [List.take_zero]; exact (bin_nil W).1)
        have hlenX : ([] : List UInt8).length + X.length ≤ 1000000000 := by show 0 + _ ≤ _; omega
        have HS2 := Lib.hid (fun (n : Nat) (hn : n ≤ X.length) => hn)
        clear hX hX0 hfed htold hnext hbad
        go_upto_region 15 with fail
        go_cut [11, 12, 13, 14] (fun x11 x12 x13 x14 wx => BIn wx x11 fx ∧ NilOk x11 ∧ x12 = .int .i64 fn ∧ x13 = .bool fd ∧ x14 = .int .i64 fe ∧ Own w B wx u6 acc ∧ Dec wx g (Ck.next s X))
        case first =>
          have HO := Lib.hid hO
          have HD := Lib.hid hD
          have hb0 := hO.below
          have q1 := Own.none_ w wr hb0
          have q2 := hmid.later ((Below.refl _ wr).alloc (Nat.le_refl _) (.cells #[] 5))
          go_wp2_with (at_builtin; refine appOwn q1 q2 (bin_nil wr).2 hlenX rfl (.tmp 68) (.tmp 72) rfl rfl rfl ?_; intro v3 w3 hB3 hb3 _)
          have hb03 : Below wr.heap.size wr w3 := ((Below.refl _ wr).alloc (Nat.le_refl _) _).trans hb3
          have hD3 := HQ.out.keep HD.out (hb03.block g (Nat.lt_of_lt_of_le hgB HO.out.le))
          have hO3 := HO.out.after hb03
          have c3 := cF v3 w3 hB3.in_.1 hD3 hO3.below
          clear q1 q2 hb3 hb03 hD3 hb0 hmid
          go_wp2_with fail
          refine c3.mono ?_
          rintro e4 w4 ⟨⟨u4', rfl, hx4, hn4⟩, hbut, hD4⟩
          have hO4 := hO3.but hbut hgB hgw
          clear c3 hO3 hbut
          go_wp2_with fail
          go_meet
          case rel => exact ⟨hx4, hn4, rfl, rfl, rfl, hO4, hD4⟩
        case rest =>
          obtain ⟨hx, hxn, rfl, rfl, rfl, hO2, hD2⟩ := hcut
          clear hO hD hmid cF
          have cT2 := cT wc hO2.below
          by_cases f0 : fe = 0
          · subst f0
            have ht : Ck.told (l.take 0) = (acc ++ fx, 0 + fn, fd, 0) := HT.out.trans (if_neg (by simp))
            rw [ht] at cT2
            simp only [] at cT2
            obtain ⟨s', hs', hS'⟩ := HN.out rfl
            rw [hs'] at hD2
            have hS9 := hS'.took
            rw [List.length_append] at hS9
            have hlenF := Lib.hid (by omega : acc.length + fx.length ≤ 1000000000)
            have HS9 := Lib.hid hS'
            have hg0 : ∀ k, u6.ownBlock = some k → k < wc.heap.size := fun k hk => (hO2.row.lt k hk).2
            clear ht HT HN HB cT hs' hS'
            generalize hbody : acc ++ fx = body at *
            obtain ⟨M, hM⟩ : ∃ M, 0 + fn = M := ⟨_, rfl⟩
            rw [hM] at cT2 HS9
            have hkf : (0 : Int) + (fn : Int) = (M : Int) := by omega
            have hM4 : M ≤ 4000 := by omega
            clear hM hS9
            go_wp2_with fail
            refine cT2.mono ?_
            rintro e5 w5 ⟨⟨y5, rfl, hy⟩, hb5⟩
            have hO5 := hO2.after hb5
            have hD5 := HQ.out.keep hD2 (hb5.block g (Nat.lt_of_lt_of_le hgB hO2.le))
            have hx5 := hx.later hb5
            clear cT2 hO2 hD2 hx
            go_upto_region 24 with (at_builtin; refine appOwn hO5 hx5 hxn hlenF.out rfl (.tmp 135) (.tmp 136) rfl rfl rfl ?_; intro v7 w7 hO7 hb7 hk7)
            have hD7 := HQ.out.keep hD5 (hb7.block g hgB)
            obtain ⟨hy7, hyn7⟩ := hy.kept (w' := w7) (fun k hk1 hk2 => hk7 k hk1 (fun e => by have := hg0 k e; omega))
            have sy := hy7.all hyn7
            have so := hO7.in_.1.all hO7.in_.2
            rw [hbody] at so hO7
            have HO7 := Lib.hid hO7
            have HD7 := Lib.hid hD7
            generalize hsb : str body = SB at so sy
            clear hy hO5 hD5 hx5 hb5 hb7 hk7 hy7 hg0 hO7 hD7 hsb hbody
            go_wp2_with fail
            go_round
            case rel => exact ⟨body, M, 0, ix + 1, s', rfl, rfl, by go_num, by omega, HS9.out, HO7.out, HD7.out⟩
            case measure => simp [intOf]; omega
          · obtain ⟨hnx, hfd⟩ := HB.out f0
            simp only [Prod.mk.injEq] at hfd
            obtain ⟨rfl, rfl, rfl, _⟩ := hfd
            have ht : Ck.told (l.take 0) = ([], 0, false, fe) := HT.out.trans (if_pos f0)
            rw [ht] at cT2
            simp only [] at cT2
            rw [hnx] at hD2
            have be : (fe != 0) = true := by rw [bne, beq_eq_false_iff_ne.2 f0]; rfl
            obtain ⟨xa, xc, rfl, _, _, _⟩ := hx
            clear ht HT HN HB cT hnx
            go_wp2_with fail
            refine cT2.mono ?_
            rintro e5 w5 ⟨⟨y5, rfl, hy⟩, hb5⟩
            have hO5 := hO2.after hb5
            have hD5 := HQ.out.keep hD2 (hb5.block g (Nat.lt_of_lt_of_le hgB hO2.le))
            have cB1 := HQ.out.bad g fe (.slice none 0 0) [] w5 (by decide) hD5 (bin_nil w5).1 (HP.out.later HE.out hO5.below)
            clear cT2 hO2 hD2 hy hb5 hD5
            go_wp2_with fail
            refine cB1.mono ?_
            rintro e6 w6 ⟨⟨u6', rfl, _, _⟩, hbut6, hD6⟩
            have hO6 := hO5.but hbut6 hgB hgw
            obtain ⟨W7, hcv, hin7, hb7⟩ := octets_block w6 #[.int .u8 48, .int .u8 13, .int .u8 10, .int .u8 13, .int .u8 10] [48, 13, 10, 13, 10] rfl (by decide)
            have hcv' : (convert 22 22 (.slice (some ⟨w6.heap.size, 0, none⟩) 5 5)).run Tryd.prog (w6.alloc (.cells #[.int .u8 48, .int .u8 13, .int .u8 10, .int .u8 13, .int .u8 10] 5)) = .ok (.slice (some ⟨w6.heap.size, 0, none⟩) 5 5) W7 := hcv
            have hO7 := hO6.after hb7
            have hD7 := HQ.out.keep hD6 (hb7.block g (Nat.lt_of_lt_of_le hgB hO6.le))
            have cB2 := HQ.out.bad g fe (.slice (some ⟨w6.heap.size, 0, none⟩) 5 5) [48, 13, 10, 13, 10] W7 (by decide) hD7 hin7 (HP.out.later HE.out hO7.below)
            clear cB1 hO5 hbut6 hD6 hcv hin7 hb7 hD7 hO6
            go_wp2_with fail
            refine cB2.mono ?_
            rintro e8 w8 ⟨⟨u8', rfl, _, _⟩, hbut8, _⟩
            have hB8 := (hO7.but hbut8 hgB hgw).below
            clear cB2 hcv' hO7 hbut8
            go_wp2_with fail
            go_ret
            exact ⟨rfl, hB8⟩
    · have hixi : ¬ (ix : Int) ≤ NC := by omega
      have hB9 := hO.below
      go_wp2_with fail
      go_ret
      exact ⟨rfl, hB9⟩

theorem kfeeds_w {Env : World → Prop} {Dec : World → Nat → Ck.S ⊕ Int → Prop} (P : Prog7 Env) (Q : Feed7 Env Dec) (v : Value) (l : List UInt8) (v2 : Value) (cs : List UInt8) (w : World) (h : BIn w v l) (hnil : NilOk v) (h2 : BIn w v2 cs) (hnil2 : NilOk v2) (hE : Env w) :
    Calls Tryd.prog 4 #[v, v2] w fun e w' => e = .returned (.bool true) ∧ Below w.heap.size w w' := by
  obtain ⟨ao, c, hv, _⟩ := id h
  cases ao with
  | none => exact kfeeds_none P Q v v2 l cs w h hnil h2 hnil2 hE ⟨_, c, hv⟩
  | some ad => exact kfeeds_some P Q v v2 l cs w h hnil h2 hnil2 hE ad ⟨_, c, hv⟩
end Go.Proofs.YtgnopcghobaoiaaDoor
