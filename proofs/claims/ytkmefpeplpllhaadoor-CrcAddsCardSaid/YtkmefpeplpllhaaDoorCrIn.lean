/- What came in: octets, lists of octets, four octets; the package's table out of the row's list. -/
import Derived.Test.YtkmefpeplpllhaaDoorCrJ
import Derived.ChangeSlices
import Derived.SliceStrings
import Derived.Deep.Slices
import Derived.Stop.LaidErr
import Derived.LaidMore
import Derived.SevenTiedAt
import Derived.OpenShut
import Derived.Lib.SmallJoins
import Derived.Lib.LaidTab
namespace Go.Proofs.YtkmefpeplpllhaaDoor
open Go.RowKit Go.ChangeShapes Go.WideShapes

section
variable {H : Type} {enc : TypeId × Value → H} {W : World} {sp : Nat → Bool} {held : Bool} {fuel : Nat}
/-- The address of a cell that is there bears no mark. -/
theorem plain_addr {w : World} {a : Addr} {v : Value} (h : w.cell? (a.add 0) = some v) : ∃ b o, a = ⟨b, o, none⟩ := by
  obtain ⟨b, o, spot⟩ := a
  have hspot : spot = none := by simpa [Addr.add] using World.cell?_spot h
  subst hspot
  exact ⟨b, o, rfl⟩
theorem bin_came {v : Value} {y : DataW H × List MemPlace} (hf : DataW.trod enc Tryd.prog W 0 sp held fuel 23 v.cells.toList = some y) (hv : ∃ x l c, v = .slice x l c) : ∃ l, BIn W v l ∧ NilOk v := by
  obtain ⟨x0, l0, c0, rfl⟩ := hv
  rcases Go.ChangeShapes.open_ints Tryd.underlying23 Tryd.underlying5 (by kernel_rfl) hf with ⟨hcs, _⟩ | ⟨a, len, cap, zs, hcs, _, hl, hm, hz, _, hcell, hwf⟩
  · simp [Value.cells] at hcs
    obtain ⟨rfl, rfl, rfl⟩ := hcs
    exact ⟨[], ⟨none, 0, rfl, Nat.le_refl _, by decide, .inl rfl⟩, fun c h => by injection h with _ _ h; exact h.symm⟩
  · simp [Value.cells] at hcs
    obtain ⟨rfl, rfl, rfl⟩ := hcs
    have hzl : l0 ≤ zs.length := by rw [hz]; split <;> omega
    refine ⟨(zs.take l0).map (fun n => UInt8.ofNat n.toNat), ?_, fun _ h => by injection h with h; cases h⟩
    have hlen : ((zs.take l0).map (fun n : Int => UInt8.ofNat n.toNat)).length = l0 := by rw [List.length_map, List.length_take]; omega
    refine ⟨some a, c0, by rw [hlen], by rw [hlen]; exact hl, by unfold maxLen at hm; omega, ?_⟩
    by_cases h0 : l0 = 0
    · left; subst h0; simp
    · right
      obtain ⟨b, o, rfl⟩ := plain_addr (hcell 0 (by omega))
      refine ⟨b, o, rfl, World.block_lt_of_cell? W ⟨b, o, none⟩ (by simpa [Addr.add] using hcell 0 (by omega)), fun j hj => ?_⟩
      rw [hlen] at hj
      have h2 := hcell j (by omega)
      rw [Addr.add_lit] at h2
      rw [h2]
      have hjz : j < zs.length := by omega
      have hw := hwf zs[j] (List.getElem_mem hjz)
      have h1 : IntKind.u8.min = 0 := rfl
      have h3 : IntKind.u8.max = 255 := rfl
      simp only [Lit.wf, Bool.and_eq_true, decide_eq_true_eq] at hw
      rw [List.getD_eq_getElem?_getD, List.getElem?_eq_getElem hjz]
      simp only [Option.getD_some, List.getElem_map, List.getElem_take]
      congr 2
      have : (UInt8.ofNat zs[j].toNat).toNat = zs[j].toNat := by
        rw [UInt8.toNat_ofNat', Nat.mod_eq_of_lt (by omega)]
      rw [this]; omega
end
theorem bs_came {H : Type} {enc : TypeId × Value → H} {W : World} {sp : Nat → Bool} {held : Bool} {fuel : Nat} {v : Value} {y : DataW H × List MemPlace} (hf : DataW.trod enc Tryd.prog W 0 sp held fuel 22 v.cells.toList = some y) (hv : ∃ x l c, v = .slice x l c) :
    ∃ ls, BsIn W v ls := by
  obtain ⟨x0, l0, c0, rfl⟩ := hv
  rcases Go.Deep.open_slice1 Tryd.underlying22 (by kernel_rfl) hf with ⟨hcs, _⟩ | ⟨a, len, cap, m, n, V, D, Pl, hcs, _, hl, hm, hmm, _, hx⟩
  · simp [Value.cells] at hcs
    obtain ⟨rfl, rfl, rfl⟩ := hcs
    exact ⟨[], none, 0, rfl, Nat.le_refl _, by decide, .inl rfl⟩
  · simp [Value.cells] at hcs
    obtain ⟨rfl, rfl, rfl⟩ := hcs
    have hml : l0 ≤ m := by rw [hmm]; split <;> omega
    have each : ∀ i, i < l0 → ∃ l : List UInt8, BIn W (V i) l ∧ NilOk (V i) := fun i hi => by
      have h2 := (hx i (by omega)).2
      have hs : ∃ x l c, V i = .slice x l c := by
        rcases open_ints Tryd.underlying23 Tryd.underlying5 (by kernel_rfl) h2 with ⟨hc, _⟩ | ⟨a', len', cap', zs, hc, _⟩
        · exact ⟨none, 0, 0, by simpa using hc⟩
        · exact ⟨some a', len', cap', by simpa using hc⟩
      obtain ⟨x, l, c, hs⟩ := hs
      rw [hs] at h2 ⊢
      exact bin_came (v := .slice x l c) h2 ⟨x, l, c, rfl⟩
    obtain ⟨q, hq⟩ := Go.Deep.choose_lt each
    have hlen : ((List.range l0).map q).length = l0 := by rw [List.length_map, List.length_range]
    refine ⟨(List.range l0).map q, some a, c0, by rw [hlen], by rw [hlen]; exact hl, by unfold maxLen at hm; omega, ?_⟩
    by_cases h0 : l0 = 0
    · left; subst h0; rfl
    · right
      obtain ⟨b, o, rfl⟩ := plain_addr (hx 0 (by omega)).1
      refine ⟨b, o, rfl, World.block_lt_of_cell? W ⟨b, o, none⟩ (by simpa [Addr.add] using (hx 0 (by omega)).1), fun j hj => ?_⟩
      rw [hlen] at hj
      have h2 := (hx j (by omega)).1
      rw [Addr.add_lit] at h2
      refine ⟨V j, h2, ?_⟩
      simp only [List.getElem_map, List.getElem_range]
      exact hq j hj

theorem oct_back {a : Int} (h : (Lit.int .u8 a).wf = true) : ((UInt8.ofNat a.toNat).toNat : Int) = a := by
  have h1 : IntKind.u8.min = 0 := rfl
  have h3 : IntKind.u8.max = 255 := rfl
  simp only [Lit.wf, Bool.and_eq_true, decide_eq_true_eq] at h
  have : (UInt8.ofNat a.toNat).toNat = a.toNat := by
    rw [UInt8.toNat_ofNat', Nat.mod_eq_of_lt (by omega)]
  rw [this]; omega
/-- An array of four octets that came in. -/
theorem open_four {H : Type} {enc : TypeId × Value → H} {P : Program} {w : World} {r : Reach} {b0 base : Nat} {sp : Nat → Bool} {held : Bool} {t e : TypeId} {v : Value} {d : DataW H} {p : List MemPlace}
    (ht : P.underlying t = some (.array 4 e)) (he : P.underlying e = some (.int .u8)) (hce : P.cellsOf e = 1) (hct : P.cellsOf t = 4) (hv : Value.okWide P w r b0 t v) (h : DataW.Trod enc P w base sp held t v d p) :
    ∃ x0 x1 x2 x3 : UInt8, v = .agg #[.int .u8 x0.toNat, .int .u8 x1.toNat, .int .u8 x2.toNat, .int .u8 x3.toNat] ∧ d = .agg [.lit (.int .u8 x0.toNat), .lit (.int .u8 x1.toNat), .lit (.int .u8 x2.toNat), .lit (.int .u8 x3.toNat)] ∧ p = [] := by
  simp only [Value.okWide, ht] at hv
  obtain ⟨cs, rfl, hsz, _⟩ := hv
  have h4 : cs.size = 4 := hsz.trans hct
  obtain ⟨cl⟩ := cs
  match cl, h4 with
  | [c0, c1, c2, c3], _ =>
    obtain ⟨fuel, hf⟩ := h
    obtain ⟨xs, m, _, hx, _, hl, hel⟩ := DataW.trod_array ht hf
    match xs, hl with
    | [y0, y1, y2, y3], _ =>
      have h0 := hel 0 (by omega)
      have h1 := hel 1 (by omega)
      have h2 := hel 2 (by omega)
      have h3 := hel 3 (by omega)
      simp only [hce, Value.cells] at h0 h1 h2 h3
      obtain ⟨a0, e0, f0, w0⟩ := DataW.trod_int he (x := y0) (by simpa using h0)
      obtain ⟨a1, e1, f1, w1⟩ := DataW.trod_int he (x := y1) (by simpa using h1)
      obtain ⟨a2, e2, f2, w2⟩ := DataW.trod_int he (x := y2) (by simpa using h2)
      obtain ⟨a3, e3, f3, w3⟩ := DataW.trod_int he (x := y3) (by simpa using h3)
      simp at e0 e1 e2 e3
      subst e0 e1 e2 e3 f0 f1 f2 f3
      simp only [Prod.mk.injEq] at hx
      refine ⟨UInt8.ofNat a0.toNat, UInt8.ofNat a1.toNat, UInt8.ofNat a2.toNat, UInt8.ofNat a3.toNat, ?_, ?_, by simpa using hx.2⟩
      · rw [oct_back w0, oct_back w1, oct_back w2, oct_back w3]
      · rw [oct_back w0, oct_back w1, oct_back w2, oct_back w3]; simpa using hx.1
theorem lit_oct (x : UInt8) : (Lit.int .u8 (x.toNat : Int)).wf = true := by
  have := x.toNat_lt
  have h1 : IntKind.u8.min = 0 := rfl
  have h3 : IntKind.u8.max = 255 := rfl
  simp only [Lit.wf, Bool.and_eq_true, decide_eq_true_eq]
  omega
theorem shut_four {H : Type} {enc : TypeId × Value → H} {P : Program} {w : World} {base : Nat} {sp : Nat → Bool} {held : Bool} {t e : TypeId} {x0 x1 x2 x3 : UInt8}
    (ht : P.underlying t = some (.array 4 e)) (he : P.underlying e = some (.int .u8)) (hce : P.cellsOf e = 1) (hct : P.cellsOf t = 4) :
    DataW.Trod enc P w base sp held t (.agg #[.int .u8 x0.toNat, .int .u8 x1.toNat, .int .u8 x2.toNat, .int .u8 x3.toNat]) (.agg [.lit (.int .u8 x0.toNat), .lit (.int .u8 x1.toNat), .lit (.int .u8 x2.toNat), .lit (.int .u8 x3.toNat)]) [] := by
  refine ⟨2, ?_⟩
  have hr : List.range 4 = [0, 1, 2, 3] := rfl
  simp [Value.cells, DataW.trod, ht, he, hce, hct, lit_oct, hr]
theorem tab_laid {W : World} (h : laidMet Tryd.prog [("icehouse/crc.leaving", Lib.tabData .u32 (Cr.tab.map fun n : Nat => (n : Int)))] W) : CTab W := by
  have hg : Tryd.prog.globalNamed "icehouse/crc.leaving" = some 0 := by kernel_rfl
  have ht : (Tryd.prog.globals[0]?).map (·.type) = some 43 := by kernel_rfl
  have T := Lib.tabIs_of_head hg ht Tryd.underlying43 Tryd.underlying27 (by kernel_rfl) (by kernel_rfl) h
  intro j hj
  have := T.cell hg j (by rw [List.length_map]; exact hj)
  rw [this]
  have hl : j < Cr.tab.length := hj
  simp [List.getD, hl]
end Go.Proofs.YtkmefpeplpllhaaDoor
