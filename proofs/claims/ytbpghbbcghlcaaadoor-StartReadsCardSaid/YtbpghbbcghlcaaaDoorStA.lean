/- What came in: a first line, by value; octets. -/
import Derived.Test.YtbpghbbcghlcaaaDoorSt6
import Derived.ChangeSlices
import Derived.SliceStrings
import Derived.Stop.LaidErr
import Derived.LaidMore
import Derived.SevenTiedAt
import Derived.OpenShut
import Derived.Lib.SmallJoins
namespace Go.Proofs.YtbpghbbcghlcaaaDoor
open Go.RowKit Go.ChangeShapes Go.WideShapes

section
variable {H : Type} {enc : TypeId × Value → H} {W : World} {sp : Nat → Bool} {held : Bool} {fuel : Nat}
/-- The address of a cell that is there bears no mark. -/
theorem plain_addr {w : World} {a : Addr} {v : Value} (h : w.cell? (a.add 0) = some v) : ∃ b o, a = ⟨b, o, none⟩ := by
  obtain ⟨b, o, spot⟩ := a
  have hspot : spot = none := by simpa [Addr.add] using World.cell?_spot h
  subst hspot
  exact ⟨b, o, rfl⟩
theorem bin_came {v : Value} {y : DataW H × List MemPlace} (hf : DataW.trod enc Tryd.prog W 0 sp held fuel 22 v.cells.toList = some y) (hv : ∃ x l c, v = .slice x l c) : ∃ l, BIn W v l ∧ NilOk v := by
  obtain ⟨x0, l0, c0, rfl⟩ := hv
  rcases Go.ChangeShapes.open_ints Tryd.underlying22 Tryd.underlying5 (by kernel_rfl) hf with ⟨hcs, _⟩ | ⟨a, len, cap, zs, hcs, _, hl, hm, hz, _, hcell, hwf⟩
  · simp [Value.cells] at hcs
    obtain ⟨rfl, rfl, rfl⟩ := hcs
    exact ⟨[], ⟨none, 0, rfl, Nat.le_refl _, by decide, .inl rfl⟩, fun c h => by injection h with _ _ h; exact h.symm⟩
  · simp [Value.cells] at hcs
    obtain ⟨rfl, rfl, rfl⟩ := hcs
    have hzl : l0 ≤ zs.length := by rw [hz]; split <;> omega
    refine ⟨(zs.take l0).map (fun n => UInt8.ofNat n.toNat), ?_, fun _ h => by injection h with h; cases h⟩
    have hlen : ((zs.take l0).map (fun n : Int => UInt8.ofNat n.toNat)).length = l0 := by rw [List.length_map, List.length_take]; omega
    refine ⟨some a, c0, by rw [hlen], by rw [hlen]; exact hl, by unfold maxLen at hm; omega, ?_⟩
    by_cases h0 : l0 = 0
    · left; subst h0; simp
    · right
      obtain ⟨b, o, rfl⟩ := plain_addr (hcell 0 (by omega))
      refine ⟨b, o, rfl, World.block_lt_of_cell? W ⟨b, o, none⟩ (by simpa [Addr.add] using hcell 0 (by omega)), fun j hj => ?_⟩
      rw [hlen] at hj
      have h2 := hcell j (by omega)
      rw [Addr.add_lit] at h2
      rw [h2]
      have hjz : j < zs.length := by omega
      have hw := hwf zs[j] (List.getElem_mem hjz)
      have h1 : IntKind.u8.min = 0 := rfl
      have h3 : IntKind.u8.max = 255 := rfl
      simp only [Lit.wf, Bool.and_eq_true, decide_eq_true_eq] at hw
      rw [List.getD_eq_getElem?_getD, List.getElem?_eq_getElem hjz]
      simp only [Option.getD_some, List.getElem_map, List.getElem_take]
      congr 2
      have : (UInt8.ofNat zs[j].toNat).toNat = zs[j].toNat := by
        rw [UInt8.toNat_ofNat', Nat.mod_eq_of_lt (by omega)]
      rw [this]; omega
set_option maxRecDepth 100000 in
theorem start_came {v : Value} {y : DataW H × List MemPlace} (hf : DataW.trod enc Tryd.prog W 0 sp held fuel 25 v.cells.toList = some y) (hv : ∃ cs, v = .agg cs ∧ cs.size = Tryd.prog.cellsOf 25) : ∃ s, v = sval s ∧ s.status ≤ 9223372036854775807 ∧ s.minor ≤ 9223372036854775807 := by
  obtain ⟨cs, rfl, hsz⟩ := hv
  have hC : Tryd.prog.cellsOf 25 = 5 := by kernel_rfl
  have c3 : Tryd.prog.cellsOf 3 = 1 := by kernel_rfl
  have c9 : Tryd.prog.cellsOf 9 = 1 := by kernel_rfl
  rw [hC] at hsz
  obtain ⟨xs, n, _, _, _, hlen, hel⟩ := DataW.trod_struct Tryd.underlying25 hf
  have hl : xs.length = 5 := hlen
  obtain ⟨l⟩ := cs
  have hll : l.length = 5 := hsz
  have hx : ∀ i, i < 5 → ∃ u, xs[i]? = some u := fun i hi => ⟨_, List.getElem?_eq_getElem (by omega)⟩
  match l, hll with
  | [v0, v1, v2, v3, v4], _ =>
    obtain ⟨u0, x0⟩ := hx 0 (by decide)
    have k0 := (hel 0 _ rfl).trans x0
    obtain ⟨a0, e0, _, w0⟩ := DataW.trod_string Tryd.underlying9 (by simpa [Value.cells, c9] using k0 : DataW.trod enc Tryd.prog W 0 sp held n 9 [v0] = some u0)
    obtain ⟨u1, x1⟩ := hx 1 (by decide)
    have k1 := (hel 1 _ rfl).trans x1
    obtain ⟨a1, e1, _, w1⟩ := DataW.trod_string Tryd.underlying9 (by simpa [Value.cells, c9] using k1 : DataW.trod enc Tryd.prog W 0 sp held n 9 [v1] = some u1)
    obtain ⟨u2, x2⟩ := hx 2 (by decide)
    have k2 := (hel 2 _ rfl).trans x2
    obtain ⟨a2, e2, _, w2⟩ := DataW.trod_int Tryd.underlying3 (by simpa [Value.cells, c3, c9] using k2 : DataW.trod enc Tryd.prog W 0 sp held n 3 [v2] = some u2)
    obtain ⟨u3, x3⟩ := hx 3 (by decide)
    have k3 := (hel 3 _ rfl).trans x3
    obtain ⟨a3, e3, _, w3⟩ := DataW.trod_string Tryd.underlying9 (by simpa [Value.cells, c3, c9] using k3 : DataW.trod enc Tryd.prog W 0 sp held n 9 [v3] = some u3)
    obtain ⟨u4, x4⟩ := hx 4 (by decide)
    have k4 := (hel 4 _ rfl).trans x4
    obtain ⟨a4, e4, _, w4⟩ := DataW.trod_int Tryd.underlying3 (by simpa [Value.cells, c3, c9] using k4 : DataW.trod enc Tryd.prog W 0 sp held n 3 [v4] = some u4)
    have e0 : v0 = .string a0 := by simpa using e0
    have e1 : v1 = .string a1 := by simpa using e1
    have e2 : v2 = .int .i64 a2 := by simpa using e2
    have e3 : v3 = .string a3 := by simpa using e3
    have e4 : v4 = .int .i64 a4 := by simpa using e4
    subst e0 e1 e2 e3 e4
    have hmax : IntKind.i64.max = 9223372036854775807 := rfl
    have b2 : a2 ≤ 9223372036854775807 := by
      simp only [Lit.wf, Bool.and_eq_true, decide_eq_true_eq] at w2
      omega
    have b4 : a4 ≤ 9223372036854775807 := by
      simp only [Lit.wf, Bool.and_eq_true, decide_eq_true_eq] at w4
      omega
    refine ⟨⟨a0.data.toList, a1.data.toList, a2, a3.data.toList, a4⟩, ?_, b2, b4⟩
    rw [sval_s, str_of, str_of, str_of]
end
end Go.Proofs.YtbpghbbcghlcaaaDoor
