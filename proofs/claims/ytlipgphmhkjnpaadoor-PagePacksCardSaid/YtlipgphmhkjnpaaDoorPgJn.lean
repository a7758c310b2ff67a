/- What came in besides (out of crc's CrIn and lib's Tab): lists of octets, two numbers by value, the package's table out of the row's list. -/
import Derived.Test.YtlipgphmhkjnpaaDoorPgIn
import Derived.Lib.LaidTab
namespace Go.Proofs.YtlipgphmhkjnpaaDoor
open Go.RowKit Go.ChangeShapes Go.WideShapes

theorem bs_came {H : Type} {enc : TypeId × Value → H} {W : World} {sp : Nat → Bool} {held : Bool} {fuel : Nat} {v : Value} {y : DataW H × List MemPlace} (hf : DataW.trod enc Tryd.prog W 0 sp held fuel 22 v.cells.toList = some y) (hv : ∃ x l c, v = .slice x l c) :
    ∃ ls, BsIn W v ls := by
  obtain ⟨x0, l0, c0, rfl⟩ := hv
  rcases Go.Deep.open_slice1 Tryd.underlying22 (by kernel_rfl) hf with ⟨hcs, _⟩ | ⟨a, len, cap, m, n, V, D, Pl, hcs, _, hl, hm, hmm, _, hx⟩
  · simp [Value.cells] at hcs
    obtain ⟨rfl, rfl, rfl⟩ := hcs
    exact ⟨[], none, 0, rfl, Nat.le_refl _, by decide, .inl rfl⟩
  · simp [Value.cells] at hcs
    obtain ⟨rfl, rfl, rfl⟩ := hcs
    have hml : l0 ≤ m := by rw [hmm]; split <;> omega
    have each : ∀ i, i < l0 → ∃ l : List UInt8, BIn W (V i) l ∧ NilOk (V i) := fun i hi => by
      have h2 := (hx i (by omega)).2
      have hs : ∃ x l c, V i = .slice x l c := by
        rcases open_ints Tryd.underlying23 Tryd.underlying5 (by kernel_rfl) h2 with ⟨hc, _⟩ | ⟨a', len', cap', zs, hc, _⟩
        · exact ⟨none, 0, 0, by simpa using hc⟩
        · exact ⟨some a', len', cap', by simpa using hc⟩
      obtain ⟨x, l, c, hs⟩ := hs
      rw [hs] at h2 ⊢
      exact bin_came (v := .slice x l c) h2 ⟨x, l, c, rfl⟩
    obtain ⟨q, hq⟩ := Go.Deep.choose_lt each
    have hlen : ((List.range l0).map q).length = l0 := by rw [List.length_map, List.length_range]
    refine ⟨(List.range l0).map q, some a, c0, by rw [hlen], by rw [hlen]; exact hl, by unfold maxLen at hm; omega, ?_⟩
    by_cases h0 : l0 = 0
    · left; subst h0; rfl
    · right
      obtain ⟨b, o, rfl⟩ := plain_addr (hx 0 (by omega)).1
      refine ⟨b, o, rfl, World.block_lt_of_cell? W ⟨b, o, none⟩ (by simpa [Addr.add] using (hx 0 (by omega)).1), fun j hj => ?_⟩
      rw [hlen] at hj
      have h2 := (hx j (by omega)).1
      rw [Addr.add_lit] at h2
      refine ⟨V j, h2, ?_⟩
      simp only [List.getElem_map, List.getElem_range]
      exact hq j hj

theorem open_two {H : Type} {enc : TypeId × Value → H} {P : Program} {w : World} {r : Reach} {b0 base : Nat} {sp : Nat → Bool} {held : Bool} {t e : TypeId} {v : Value} {d : DataW H} {p : List MemPlace}
    (ht : P.underlying t = some (.array 2 e)) (he : P.underlying e = some (.int .i64)) (hce : P.cellsOf e = 1) (hct : P.cellsOf t = 2) (hv : Value.okWide P w r b0 t v) (h : DataW.Trod enc P w base sp held t v d p) :
    ∃ a b : Int, v = .agg #[.int .i64 a, .int .i64 b] ∧ d = .agg [.lit (.int .i64 a), .lit (.int .i64 b)] ∧ p = [] ∧ (Lit.int .i64 a).wf = true ∧ (Lit.int .i64 b).wf = true := by
  simp only [Value.okWide, ht] at hv
  obtain ⟨cs, rfl, hsz, _⟩ := hv
  obtain ⟨c0, c1, rfl⟩ := Joins.array2 (hsz.trans hct)
  obtain ⟨fuel, hf⟩ := h
  obtain ⟨xs, m, _, hx, _, hl, hel⟩ := DataW.trod_array ht hf
  match xs, hl with
  | [y0, y1], _ =>
    have h0 := hel 0 (by omega)
    have h1 := hel 1 (by omega)
    simp only [hce, Value.cells] at h0 h1
    obtain ⟨a, e0, f0, wa⟩ := DataW.trod_int he (x := y0) (by simpa using h0)
    obtain ⟨b, e1, f1, wb⟩ := DataW.trod_int he (x := y1) (by simpa using h1)
    simp at e0 e1
    subst e0 e1 f0 f1
    simp only [Prod.mk.injEq] at hx
    exact ⟨a, b, rfl, by simpa using hx.1, by simpa using hx.2, wa, wb⟩
theorem shut_two {H : Type} {enc : TypeId × Value → H} {P : Program} {w : World} {base : Nat} {sp : Nat → Bool} {held : Bool} {t e : TypeId} {a b : Int}
    (ht : P.underlying t = some (.array 2 e)) (he : P.underlying e = some (.int .i64)) (hce : P.cellsOf e = 1) (hct : P.cellsOf t = 2) (wa : (Lit.int .i64 a).wf = true) (wb : (Lit.int .i64 b).wf = true) :
    DataW.Trod enc P w base sp held t (.agg #[.int .i64 a, .int .i64 b]) (.agg [.lit (.int .i64 a), .lit (.int .i64 b)]) [] := by
  refine ⟨2, ?_⟩
  have hr : List.range 2 = [0, 1] := rfl
  simp [Value.cells, DataW.trod, ht, he, hce, hct, wa, wb, hr]

theorem tab_laid {W : World} (h : laidMet Tryd.prog [("icehouse/crc.leaving", Lib.tabData .u32 (Cr.tab.map fun n : Nat => (n : Int)))] W) : CTab W := by
  have hg : Tryd.prog.globalNamed "icehouse/crc.leaving" = some 0 := by kernel_rfl
  have ht : (Tryd.prog.globals[0]?).map (·.type) = some 125 := by kernel_rfl
  have T := Lib.tabIs_of_head hg ht Tryd.underlying125 Tryd.underlying95 (by kernel_rfl) (by kernel_rfl) h
  intro j hj
  have := T.cell hg j (by rw [List.length_map]; exact hj)
  rw [this]
  have hl : j < Cr.tab.length := hj
  simp [List.getD, hl]
end Go.Proofs.YtlipgphmhkjnpaaDoor
