/- What came in: a list of acts, each with a list of extents. -/
import Derived.Test.YtgfgafondiipoaaSpM
import Derived.Test.YtgfgafondiipoaaSpIn
namespace Go.Proofs.Ytgfgafondiipoaa
open Go.RowKit Go.ChangeShapes Go.WideShapes

section
variable {H : Type} {enc : TypeId × Value → H} {W : World} {sp : Nat → Bool} {held : Bool} {fuel : Nat}
set_option maxRecDepth 100000 in
theorem ext_came {l : List Value} {n0 : Nat} {y : DataW H × List MemPlace} (hf : DataW.trod enc Try.prog W 0 sp held n0 35 l = some y) (hll : l.length = 2) :
    ∃ e : Sp.Ext, l = [.int .i64 e.1, .int .i64 e.2] ∧ I64 e.1 ∧ I64 e.2 := by
  have c1 : Try.prog.cellsOf 3 = 1 := by kernel_rfl
  obtain ⟨xs, n, _, _, _, hlen, hel⟩ := DataW.trod_struct Try.underlying35 hf
  have hl : xs.length = 2 := hlen
  have hx : ∀ i, i < 2 → ∃ u, xs[i]? = some u := fun i hi => ⟨_, List.getElem?_eq_getElem (by omega)⟩
  have hmin : IntKind.i64.min = -9223372036854775808 := rfl
  have hmax : IntKind.i64.max = 9223372036854775807 := rfl
  match l, hll with
  | [v0, v1], _ =>
    obtain ⟨u0, x0⟩ := hx 0 (by decide)
    have k0 := (hel 0 _ rfl).trans x0
    obtain ⟨a0, e0, _, w0⟩ := DataW.trod_int Try.underlying3 (by simpa [c1] using k0 : DataW.trod enc Try.prog W 0 sp held n 3 [v0] = some u0)
    obtain ⟨u1, x1⟩ := hx 1 (by decide)
    have k1 := (hel 1 _ rfl).trans x1
    obtain ⟨a1, e1, _, w1⟩ := DataW.trod_int Try.underlying3 (by simpa [c1] using k1 : DataW.trod enc Try.prog W 0 sp held n 3 [v1] = some u1)
    have e0 : v0 = .int .i64 a0 := by simpa using e0
    have e1 : v1 = .int .i64 a1 := by simpa using e1
    subst e0 e1
    simp only [Lit.wf, Bool.and_eq_true, decide_eq_true_eq] at w0 w1
    exact ⟨(a0, a1), rfl, by unfold I64; show _ ≤ a0 ∧ a0 ≤ _; omega, by unfold I64; show _ ≤ a1 ∧ a1 ≤ _; omega⟩
instance : Inhabited ActV := ⟨⟨0, 0, 0, [], .slice none 0 0⟩⟩
theorem exts_came {x0 : Option Addr} {l0 c0 : Nat} {y : DataW H × List MemPlace} (hf : DataW.trod enc Try.prog W 0 sp held fuel 31 [.slice x0 l0 c0] = some y) : ∃ l, EsCame W (.slice x0 l0 c0) l := by
  have c9 : Try.prog.cellsOf 35 = 2 := by kernel_rfl
  rcases Go.Deep.open_slice Try.underlying31 hf with ⟨hcs, _⟩ | ⟨a, len, cap, m, n, D, Pl, hcs, _, hl, hm, hmm, _, hx⟩
  · simp at hcs
    obtain ⟨rfl, rfl, rfl⟩ := hcs
    exact ⟨[], fun _ h => (by cases h), none, 0, rfl, Nat.le_refl _, by decide, .inl ⟨rfl, rfl, rfl⟩⟩
  · simp at hcs
    obtain ⟨rfl, rfl, rfl⟩ := hcs
    have hml : l0 ≤ m := by rw [hmm]; split <;> omega
    have each : ∀ i, i < l0 → ∃ A : Sp.Ext, (∀ j u, [Value.int .i64 A.1, .int .i64 A.2][j]? = some u → W.cell? ((a.add (i * 2)).add j) = some u) ∧ I64 A.1 ∧ I64 A.2 := fun i hi => by
      obtain ⟨cs', h1, h2⟩ := hx i (by omega)
      rw [c9] at h1
      obtain ⟨h3, h4, h5⟩ := World.cells?_some h1
      obtain ⟨A, hA, h9⟩ := ext_came h2 h4
      refine ⟨A, fun j u hj => ?_, h9⟩
      rw [← hA] at hj
      have hj9 : j < 2 := by rw [← h4]; exact (List.getElem?_eq_some_iff.1 hj).1
      rw [h5 j hj9]; exact hj
    obtain ⟨q, hq⟩ := Go.Deep.choose_lt each
    have hlen : ((List.range l0).map q).length = l0 := by rw [List.length_map, List.length_range]
    refine ⟨(List.range l0).map q, fun e he => ?_, some a, c0, by rw [hlen], by rw [hlen]; exact hl, by unfold maxLen at hm; omega, .inr ⟨a, rfl, ?_⟩⟩
    · obtain ⟨k, hk, rfl⟩ := List.mem_map.1 he
      exact (hq k (List.mem_range.1 hk)).2
    by_cases h0 : l0 = 0
    · left; subst h0; rfl
    · right
      obtain ⟨b, o, spot⟩ := a
      have hc0 := (hq 0 (by omega)).1 0 _ rfl
      have hspot : spot = none := by simpa [Addr.add] using World.cell?_spot hc0
      subst hspot
      rw [Addr.add_lit, Addr.add_lit] at hc0
      refine ⟨b, o, rfl, World.block_lt_of_cell? W _ hc0, fun j hj => ?_⟩
      rw [hlen] at hj
      obtain ⟨hc, _⟩ := hq j hj
      simp only [List.getElem_map, List.getElem_range]
      have hc' : ∀ i u, [Value.int .i64 (q j).1, .int .i64 (q j).2][i]? = some u → W.cell? ⟨b, o + j * 2 + i, none⟩ = some u := fun i u hu => by
        have := hc i u hu
        rw [Addr.add_lit, Addr.add_lit] at this
        exact this
      exact ⟨hc' 0 _ rfl, hc' 1 _ rfl⟩
set_option maxRecDepth 100000 in
theorem act_came {l : List Value} {n0 : Nat} {y : DataW H × List MemPlace} (hf : DataW.trod enc Try.prog W 0 sp held n0 33 l = some y) (hll : l.length = 4) :
    ∃ A : ActV, l = [.int .i64 A.kind, .int .i64 A.n, .int .i64 A.most, A.ve] ∧ (I64 A.n ∧ I64 A.most) ∧ EsCame W A.ve A.es := by
  have c1 : Try.prog.cellsOf 3 = 1 := by kernel_rfl
  have c2 : Try.prog.cellsOf 31 = 1 := by kernel_rfl
  obtain ⟨xs, n, _, _, _, hlen, hel⟩ := DataW.trod_struct Try.underlying33 hf
  have hl : xs.length = 4 := hlen
  have hx : ∀ i, i < 4 → ∃ u, xs[i]? = some u := fun i hi => ⟨_, List.getElem?_eq_getElem (by omega)⟩
  have hmin : IntKind.i64.min = -9223372036854775808 := rfl
  have hmax : IntKind.i64.max = 9223372036854775807 := rfl
  match l, hll with
  | [v0, v1, v2, v3], _ =>
    obtain ⟨u0, x0⟩ := hx 0 (by decide)
    have k0 := (hel 0 _ rfl).trans x0
    obtain ⟨a0, e0, _, w0⟩ := DataW.trod_int Try.underlying3 (by simpa [c1] using k0 : DataW.trod enc Try.prog W 0 sp held n 3 [v0] = some u0)
    obtain ⟨u1, x1⟩ := hx 1 (by decide)
    have k1 := (hel 1 _ rfl).trans x1
    obtain ⟨a1, e1, _, w1⟩ := DataW.trod_int Try.underlying3 (by simpa [c1] using k1 : DataW.trod enc Try.prog W 0 sp held n 3 [v1] = some u1)
    obtain ⟨u2, x2⟩ := hx 2 (by decide)
    have k2 := (hel 2 _ rfl).trans x2
    obtain ⟨a2, e2, _, w2⟩ := DataW.trod_int Try.underlying3 (by simpa [c1] using k2 : DataW.trod enc Try.prog W 0 sp held n 3 [v2] = some u2)
    obtain ⟨u3, x3⟩ := hx 3 (by decide)
    have k3 := (hel 3 _ rfl).trans x3
    have q3 : DataW.trod enc Try.prog W 0 sp held n 31 [v3] = some u3 := by simpa [c1, c2] using k3
    have e0 : v0 = .int .i64 a0 := by simpa using e0
    have e1 : v1 = .int .i64 a1 := by simpa using e1
    have e2 : v2 = .int .i64 a2 := by simpa using e2
    subst e0 e1 e2
    simp only [Lit.wf, Bool.and_eq_true, decide_eq_true_eq] at w0 w1 w2
    have s3 : ∃ x l c, v3 = .slice x l c := by
      rcases Go.Deep.open_slice Try.underlying31 q3 with ⟨hc, _⟩ | ⟨a', len', cap', _, _, _, _, hc, _⟩
      · exact ⟨none, 0, 0, by simpa using hc⟩
      · exact ⟨some a', len', cap', by simpa using hc⟩
    obtain ⟨xc, lc, cc, rfl⟩ := s3
    obtain ⟨es, hes⟩ := exts_came q3
    exact ⟨⟨a0, a1, a2, es, .slice xc lc cc⟩, rfl, ⟨by unfold I64; show _ ≤ a1 ∧ a1 ≤ _; omega, by unfold I64; show _ ≤ a2 ∧ a2 ≤ _; omega⟩, hes⟩
theorem acts_came {v : Value} {y : DataW H × List MemPlace} (hf : DataW.trod enc Try.prog W 0 sp held fuel 22 v.cells.toList = some y) (hv : ∃ x l c, v = .slice x l c) : ∃ l, ActsIn W v l := by
  obtain ⟨x0, l0, c0, rfl⟩ := hv
  have c9 : Try.prog.cellsOf 33 = 4 := by kernel_rfl
  rcases Go.Deep.open_slice Try.underlying22 hf with ⟨hcs, _⟩ | ⟨a, len, cap, m, n, D, Pl, hcs, _, hl, hm, hmm, _, hx⟩
  · simp [Value.cells] at hcs
    obtain ⟨rfl, rfl, rfl⟩ := hcs
    exact ⟨[], none, 0, rfl, Nat.le_refl _, by decide, .inl rfl⟩
  · simp [Value.cells] at hcs
    obtain ⟨rfl, rfl, rfl⟩ := hcs
    have hml : l0 ≤ m := by rw [hmm]; split <;> omega
    have each : ∀ i, i < l0 → ∃ A : ActV, (∀ j u, [Value.int .i64 A.kind, .int .i64 A.n, .int .i64 A.most, A.ve][j]? = some u → W.cell? ((a.add (i * 4)).add j) = some u) ∧ (I64 A.n ∧ I64 A.most) ∧ EsCame W A.ve A.es := fun i hi => by
      obtain ⟨cs', h1, h2⟩ := hx i (by omega)
      rw [c9] at h1
      obtain ⟨h3, h4, h5⟩ := World.cells?_some h1
      obtain ⟨A, hA, h9⟩ := act_came h2 h4
      refine ⟨A, fun j u hj => ?_, h9⟩
      rw [← hA] at hj
      have hj9 : j < 4 := by rw [← h4]; exact (List.getElem?_eq_some_iff.1 hj).1
      rw [h5 j hj9]; exact hj
    obtain ⟨q, hq⟩ := Go.Deep.choose_lt each
    have hlen : ((List.range l0).map q).length = l0 := by rw [List.length_map, List.length_range]
    refine ⟨(List.range l0).map q, some a, c0, by rw [hlen], by rw [hlen]; exact hl, by unfold maxLen at hm; omega, ?_⟩
    by_cases h0 : l0 = 0
    · left; subst h0; rfl
    · right
      obtain ⟨b, o, spot⟩ := a
      have hc0 := (hq 0 (by omega)).1 0 _ rfl
      have hspot : spot = none := by simpa [Addr.add] using World.cell?_spot hc0
      subst hspot
      rw [Addr.add_lit, Addr.add_lit] at hc0
      refine ⟨b, o, rfl, World.block_lt_of_cell? W _ hc0, fun j hj => ?_⟩
      rw [hlen] at hj
      obtain ⟨hc, h1, h2⟩ := hq j hj
      simp only [List.getElem_map, List.getElem_range]
      have hc' : ∀ i u, [Value.int .i64 (q j).kind, .int .i64 (q j).n, .int .i64 (q j).most, (q j).ve][i]? = some u → W.cell? ⟨b, o + j * 4 + i, none⟩ = some u := fun i u hu => by
        have := hc i u hu
        rw [Addr.add_lit, Addr.add_lit] at this
        exact this
      exact ⟨hc' 0 _ rfl, hc' 1 _ rfl, hc' 2 _ rfl, hc' 3 _ rfl, h1, h2⟩
end
end Go.Proofs.Ytgfgafondiipoaa
