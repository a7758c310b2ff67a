/- What came in: octets, fields, a message by value, how octets come in. -/
import Derived.Test.YtlbjjeonchcgbaaGreatDoorMsP2
import Derived.Deep.SlicePairs
import Derived.ChangeSlices
import Derived.SliceStrings
import Derived.Stop.LaidErr
import Derived.LaidMore
import Derived.SevenTiedAt
import Derived.OpenShut
import Derived.Lib.SmallJoins
namespace Go.Proofs.YtlbjjeonchcgbaaGreatDoor
open Go.RowKit Go.ChangeShapes Go.WideShapes

section
variable {H : Type} {enc : TypeId × Value → H} {W : World} {sp : Nat → Bool} {held : Bool} {fuel : Nat}
theorem nilok_some (a : Addr) (n c : Nat) : NilOk (.slice (some a) n c) := fun _ h => by injection h with h; cases h
theorem nilok_nil : NilOk (.slice none 0 0) := fun c h => by injection h with _ _ h; exact h.symm
/-- The address of a cell that is there bears no mark. -/
theorem plain_addr {w : World} {a : Addr} {v : Value} (h : w.cell? (a.add 0) = some v) : ∃ b o, a = ⟨b, o, none⟩ := by
  obtain ⟨b, o, spot⟩ := a
  have hspot : spot = none := by simpa [Addr.add] using World.cell?_spot h
  subst hspot
  exact ⟨b, o, rfl⟩

theorem bin_came {v : Value} {y : DataW H × List MemPlace} (hf : DataW.trod enc Tryz.prog W 0 sp held fuel 22 v.cells.toList = some y) (hv : ∃ x l c, v = .slice x l c) : ∃ l, BIn W v l ∧ NilOk v := by
  obtain ⟨x0, l0, c0, rfl⟩ := hv
  rcases Go.ChangeShapes.open_ints Tryz.underlying22 Tryz.underlying5 (by kernel_rfl) hf with ⟨hcs, _⟩ | ⟨a, len, cap, zs, hcs, _, hl, hm, hz, _, hcell, hwf⟩
  · simp [Value.cells] at hcs
    obtain ⟨rfl, rfl, rfl⟩ := hcs
    exact ⟨[], ⟨none, 0, rfl, Nat.le_refl _, by decide, .inl rfl⟩, nilok_nil⟩
  · simp [Value.cells] at hcs
    obtain ⟨rfl, rfl, rfl⟩ := hcs
    have hzl : l0 ≤ zs.length := by rw [hz]; split <;> omega
    refine ⟨(zs.take l0).map (fun n => UInt8.ofNat n.toNat), ?_, nilok_some _ _ _⟩
    have hlen : ((zs.take l0).map (fun n : Int => UInt8.ofNat n.toNat)).length = l0 := by rw [List.length_map, List.length_take]; omega
    refine ⟨some a, c0, by rw [hlen], by rw [hlen]; exact hl, by unfold maxLen at hm; omega, ?_⟩
    by_cases h0 : l0 = 0
    · left; subst h0; simp
    · right
      obtain ⟨b, o, rfl⟩ := plain_addr (hcell 0 (by omega))
      refine ⟨b, o, rfl, World.block_lt_of_cell? W ⟨b, o, none⟩ (by simpa [Addr.add] using hcell 0 (by omega)), fun j hj => ?_⟩
      rw [hlen] at hj
      have h2 := hcell j (by omega)
      rw [Addr.add_lit] at h2
      rw [h2]
      have hjz : j < zs.length := by omega
      have hw := hwf zs[j] (List.getElem_mem hjz)
      have h1 : IntKind.u8.min = 0 := rfl
      have h3 : IntKind.u8.max = 255 := rfl
      simp only [Lit.wf, Bool.and_eq_true, decide_eq_true_eq] at hw
      rw [List.getD_eq_getElem?_getD, List.getElem?_eq_getElem hjz]
      simp only [Option.getD_some, List.getElem_map, List.getElem_take]
      congr 2
      have : (UInt8.ofNat zs[j].toNat).toNat = zs[j].toNat := by
        rw [UInt8.toNat_ofNat', Nat.mod_eq_of_lt (by omega)]
      rw [this]; omega

theorem fin_came {v : Value} {y : DataW H × List MemPlace} (hf : DataW.trod enc Tryz.prog W 0 sp held fuel 26 v.cells.toList = some y) (hv : ∃ x l c, v = .slice x l c) :
    ∃ fs, FIn W v fs ∧ NilOk v ∧ fs.length ≤ 9223372036854775807 ∧ ∀ f ∈ fs, f.1.length ≤ 9223372036854775807 ∧ f.2.length ≤ 9223372036854775807 := by
  obtain ⟨x0, l0, c0, rfl⟩ := hv
  rcases Go.Deep.open_slice_pairs Tryz.underlying26 Tryz.underlying65 (by kernel_rfl) rfl rfl (by kernel_rfl) (by kernel_rfl) hf with ⟨hcs, _⟩ | ⟨a, len, cap, m, n, V0, V1, D0, D1, P0, P1, hcs, _, hl, hm, hmm, _, hc⟩
  · simp [Value.cells] at hcs
    obtain ⟨rfl, rfl, rfl⟩ := hcs
    exact ⟨[], ⟨none, 0, rfl, .inl rfl⟩, nilok_nil, by decide, fun f h => by cases h⟩
  · simp [Value.cells] at hcs
    obtain ⟨rfl, rfl, rfl⟩ := hcs
    have hml : l0 ≤ m := by rw [hmm]; split <;> omega
    have each : ∀ i, i < l0 → ∃ q : List UInt8 × List UInt8, V0 i = .string (str q.1) ∧ V1 i = .string (str q.2) ∧ q.1.length ≤ 9223372036854775807 ∧ q.2.length ≤ 9223372036854775807 := fun i hi => by
      obtain ⟨_, _, t0, t1⟩ := hc i (by omega)
      obtain ⟨s0, e0, _, z0⟩ := DataW.trod_string Tryz.underlying9 t0
      obtain ⟨s1, e1, _, z1⟩ := DataW.trod_string Tryz.underlying9 t1
      simp at e0 e1
      unfold maxLen at z0 z1
      exact ⟨(s0.data.toList, s1.data.toList), by rw [e0, str_of], by rw [e1, str_of], by show s0.data.toList.length ≤ _; rw [Oct.length_size]; exact z0, by show s1.data.toList.length ≤ _; rw [Oct.length_size]; exact z1⟩
    obtain ⟨q, hq⟩ := Go.Deep.choose_lt each
    have hlen : ((List.range l0).map q).length = l0 := by rw [List.length_map, List.length_range]
    refine ⟨(List.range l0).map q, ⟨some a, c0, by rw [hlen], ?_⟩, nilok_some _ _ _, by rw [hlen]; unfold maxLen at hm; omega, fun f hf => ?_⟩
    · by_cases h0 : l0 = 0
      · left; subst h0; rfl
      · right
        obtain ⟨b, o, rfl⟩ := plain_addr (a := a) (by have := (hc 0 (by omega)).1; simpa using this)
        refine ⟨b, o, rfl, World.block_lt_of_cell? W ⟨b, o, none⟩ (by have := (hc 0 (by omega)).1; simpa [Addr.add] using this), fun j hj => ?_⟩
        rw [hlen] at hj
        obtain ⟨k0, k1, _, _⟩ := hc j (by omega)
        obtain ⟨e0, e1, _, _⟩ := hq j hj
        rw [Addr.add_lit] at k0 k1
        rw [e0] at k0
        rw [e1, ← Nat.add_assoc] at k1
        simp only [List.getElem_map, List.getElem_range]
        exact ⟨k0, k1⟩
    · obtain ⟨i, hi, rfl⟩ := List.mem_map.1 hf
      exact (hq i (List.mem_range.1 hi)).2.2

set_option maxRecDepth 100000 in
theorem start_came {v : Value} {y : DataW H × List MemPlace} (hf : DataW.trod enc Tryz.prog W 0 sp held fuel 25 v.cells.toList = some y) (hv : ∃ cs, v = .agg cs ∧ cs.size = Tryz.prog.cellsOf 25) : ∃ s, v = sval s ∧ s.status ≤ 9223372036854775807 ∧ s.minor ≤ 9223372036854775807 := by
  obtain ⟨cs, rfl, hsz⟩ := hv
  have hC : Tryz.prog.cellsOf 25 = 5 := by kernel_rfl
  have c3 : Tryz.prog.cellsOf 3 = 1 := by kernel_rfl
  have c9 : Tryz.prog.cellsOf 9 = 1 := by kernel_rfl
  rw [hC] at hsz
  obtain ⟨xs, n, _, _, _, hlen, hel⟩ := DataW.trod_struct Tryz.underlying25 hf
  have hl : xs.length = 5 := hlen
  obtain ⟨l⟩ := cs
  have hll : l.length = 5 := hsz
  have hx : ∀ i, i < 5 → ∃ u, xs[i]? = some u := fun i hi => ⟨_, List.getElem?_eq_getElem (by omega)⟩
  match l, hll with
  | [v0, v1, v2, v3, v4], _ =>
    obtain ⟨u0, x0⟩ := hx 0 (by decide)
    have k0 := (hel 0 _ rfl).trans x0
    obtain ⟨a0, e0, _, w0⟩ := DataW.trod_string Tryz.underlying9 (by simpa [Value.cells, c9] using k0 : DataW.trod enc Tryz.prog W 0 sp held n 9 [v0] = some u0)
    obtain ⟨u1, x1⟩ := hx 1 (by decide)
    have k1 := (hel 1 _ rfl).trans x1
    obtain ⟨a1, e1, _, w1⟩ := DataW.trod_string Tryz.underlying9 (by simpa [Value.cells, c9] using k1 : DataW.trod enc Tryz.prog W 0 sp held n 9 [v1] = some u1)
    obtain ⟨u2, x2⟩ := hx 2 (by decide)
    have k2 := (hel 2 _ rfl).trans x2
    obtain ⟨a2, e2, _, w2⟩ := DataW.trod_int Tryz.underlying3 (by simpa [Value.cells, c3, c9] using k2 : DataW.trod enc Tryz.prog W 0 sp held n 3 [v2] = some u2)
    obtain ⟨u3, x3⟩ := hx 3 (by decide)
    have k3 := (hel 3 _ rfl).trans x3
    obtain ⟨a3, e3, _, w3⟩ := DataW.trod_string Tryz.underlying9 (by simpa [Value.cells, c3, c9] using k3 : DataW.trod enc Tryz.prog W 0 sp held n 9 [v3] = some u3)
    obtain ⟨u4, x4⟩ := hx 4 (by decide)
    have k4 := (hel 4 _ rfl).trans x4
    obtain ⟨a4, e4, _, w4⟩ := DataW.trod_int Tryz.underlying3 (by simpa [Value.cells, c3, c9] using k4 : DataW.trod enc Tryz.prog W 0 sp held n 3 [v4] = some u4)
    have e0 : v0 = .string a0 := by simpa using e0
    have e1 : v1 = .string a1 := by simpa using e1
    have e2 : v2 = .int .i64 a2 := by simpa using e2
    have e3 : v3 = .string a3 := by simpa using e3
    have e4 : v4 = .int .i64 a4 := by simpa using e4
    subst e0 e1 e2 e3 e4
    have hmax : IntKind.i64.max = 9223372036854775807 := rfl
    have b2 : a2 ≤ 9223372036854775807 := by
      simp only [Lit.wf, Bool.and_eq_true, decide_eq_true_eq] at w2
      omega
    have b4 : a4 ≤ 9223372036854775807 := by
      simp only [Lit.wf, Bool.and_eq_true, decide_eq_true_eq] at w4
      omega
    refine ⟨⟨a0.data.toList, a1.data.toList, a2, a3.data.toList, a4⟩, ?_, b2, b4⟩
    rw [sval_s, str_of, str_of, str_of]
theorem bytes_cell {u : Value} {y : DataW H × List MemPlace} (hf : DataW.trod enc Tryz.prog W 0 sp held fuel 22 [u] = some y) : ∃ x l c, u = .slice x l c := by
  rcases Go.ChangeShapes.open_ints Tryz.underlying22 Tryz.underlying5 (by kernel_rfl) hf with ⟨hcs, _⟩ | ⟨a, len, cap, zs, hcs, _⟩
  · exact ⟨none, 0, 0, by simpa using hcs⟩
  · exact ⟨some a, len, cap, by simpa using hcs⟩
theorem fields_cell {u : Value} {y : DataW H × List MemPlace} (hf : DataW.trod enc Tryz.prog W 0 sp held fuel 26 [u] = some y) : ∃ x l c, u = .slice x l c := by
  rcases Go.Deep.open_slice_pairs Tryz.underlying26 Tryz.underlying65 (by kernel_rfl) rfl rfl (by kernel_rfl) (by kernel_rfl) hf with ⟨hcs, _⟩ | ⟨a, len, cap, m, n, V0, V1, D0, D1, P0, P1, hcs, _⟩
  · exact ⟨none, 0, 0, by simpa using hcs⟩
  · exact ⟨some a, len, cap, by simpa using hcs⟩
set_option maxRecDepth 100000 in
theorem msg_came {v : Value} {y : DataW H × List MemPlace} (hf : DataW.trod enc Tryz.prog W 0 sp held fuel 28 v.cells.toList = some y) (hv : ∃ cs, v = .agg cs ∧ cs.size = Tryz.prog.cellsOf 28) :
    ∃ s fv bv fs x, v = mval s fv bv ∧ FIn W fv fs ∧ NilOk fv ∧ BIn W bv x ∧ NilOk bv ∧ s.status ≤ 9223372036854775807 ∧ s.minor ≤ 9223372036854775807 := by
  obtain ⟨cs, rfl, hsz⟩ := hv
  have hC : Tryz.prog.cellsOf 28 = 7 := by kernel_rfl
  have hS : Tryz.prog.cellsOf 25 = 5 := by kernel_rfl
  have c3 : Tryz.prog.cellsOf 3 = 1 := by kernel_rfl
  have c9 : Tryz.prog.cellsOf 9 = 1 := by kernel_rfl
  have cF : Tryz.prog.cellsOf 26 = 1 := by kernel_rfl
  have cB : Tryz.prog.cellsOf 22 = 1 := by kernel_rfl
  rw [hC] at hsz
  obtain ⟨xs, n, _, _, _, hlen, hel⟩ := DataW.trod_struct Tryz.underlying28 hf
  have hl : xs.length = 3 := hlen
  obtain ⟨l⟩ := cs
  have hll : l.length = 7 := hsz
  have hx : ∀ i, i < 3 → ∃ u, xs[i]? = some u := fun i hi => ⟨_, List.getElem?_eq_getElem (by omega)⟩
  match l, hll with
  | [v0, v1, v2, v3, v4, v5, v6], _ =>
    obtain ⟨u0, x0⟩ := hx 0 (by decide)
    have k0 := (hel 0 _ rfl).trans x0
    have k0 : DataW.trod enc Tryz.prog W 0 sp held n 25 [v0, v1, v2, v3, v4] = some u0 := by simpa [Value.cells, hS] using k0
    obtain ⟨s, hs, b1, b2⟩ := start_came (v := .agg #[v0, v1, v2, v3, v4]) (y := u0) k0 ⟨_, rfl, hS.symm⟩
    obtain ⟨u1, x1⟩ := hx 1 (by decide)
    have k1 := (hel 1 _ rfl).trans x1
    have k1 : DataW.trod enc Tryz.prog W 0 sp held n 26 [v5] = some u1 := by simpa [Value.cells, hS, cF] using k1
    obtain ⟨q, r, z, hq⟩ := fields_cell k1
    subst hq
    obtain ⟨fs, hf1, hf2, _, _⟩ := fin_came (v := .slice q r z) (y := u1) k1 ⟨q, r, z, rfl⟩
    obtain ⟨u2, x2⟩ := hx 2 (by decide)
    have k2 := (hel 2 _ rfl).trans x2
    have k2 : DataW.trod enc Tryz.prog W 0 sp held n 22 [v6] = some u2 := by simpa [Value.cells, hS, cF, cB] using k2
    obtain ⟨q', r', z', hq'⟩ := bytes_cell k2
    subst hq'
    obtain ⟨x, hb1, hb2⟩ := bin_came (v := .slice q' r' z') (y := u2) k2 ⟨q', r', z', rfl⟩
    refine ⟨s, .slice q r z, .slice q' r' z', fs, x, ?_, hf1, hf2, hb1, hb2, b1, b2⟩
    rw [sval_s] at hs
    injection hs with hs
    injection hs with hs
    injection hs with e0 hs
    injection hs with e1 hs
    injection hs with e2 hs
    injection hs with e3 hs
    injection hs with e4 hs
    rw [mval_s, e0, e1, e2, e3, e4]
/-- How octets come. -/
def howval (asks : Bool) (m : ByteArray) (cv : Value) : Value := .agg #[.bool asks, .string m, cv]
set_option maxRecDepth 100000 in
theorem how_came {v : Value} {y : DataW H × List MemPlace} (hf : DataW.trod enc Tryz.prog W 0 sp held fuel 46 v.cells.toList = some y) (hv : ∃ cs, v = .agg cs ∧ cs.size = Tryz.prog.cellsOf 46) :
    ∃ asks m cv x, v = howval asks m cv ∧ m.size ≤ 9223372036854775807 ∧ BIn W cv x ∧ NilOk cv := by
  obtain ⟨cs, rfl, hsz⟩ := hv
  have hC : Tryz.prog.cellsOf 46 = 3 := by kernel_rfl
  have c4 : Tryz.prog.cellsOf 4 = 1 := by kernel_rfl
  have c9 : Tryz.prog.cellsOf 9 = 1 := by kernel_rfl
  have cB : Tryz.prog.cellsOf 22 = 1 := by kernel_rfl
  rw [hC] at hsz
  obtain ⟨xs, n, _, _, _, hlen, hel⟩ := DataW.trod_struct Tryz.underlying46 hf
  have hl : xs.length = 3 := hlen
  obtain ⟨l⟩ := cs
  have hll : l.length = 3 := hsz
  have hx : ∀ i, i < 3 → ∃ u, xs[i]? = some u := fun i hi => ⟨_, List.getElem?_eq_getElem (by omega)⟩
  match l, hll with
  | [v0, v1, v2], _ =>
    obtain ⟨u0, x0⟩ := hx 0 (by decide)
    have k0 := (hel 0 _ rfl).trans x0
    obtain ⟨a0, e0, _⟩ := DataW.trod_bool Tryz.underlying4 (by simpa [Value.cells, c4] using k0 : DataW.trod enc Tryz.prog W 0 sp held n 4 [v0] = some u0)
    obtain ⟨u1, x1⟩ := hx 1 (by decide)
    have k1 := (hel 1 _ rfl).trans x1
    obtain ⟨a1, e1, _, w1⟩ := DataW.trod_string Tryz.underlying9 (by simpa [Value.cells, c4, c9] using k1 : DataW.trod enc Tryz.prog W 0 sp held n 9 [v1] = some u1)
    obtain ⟨u2, x2⟩ := hx 2 (by decide)
    have k2 := (hel 2 _ rfl).trans x2
    have k2 : DataW.trod enc Tryz.prog W 0 sp held n 22 [v2] = some u2 := by simpa [Value.cells, c4, c9, cB] using k2
    obtain ⟨q', r', z', hq'⟩ := bytes_cell k2
    subst hq'
    obtain ⟨x, hb1, hb2⟩ := bin_came (v := .slice q' r' z') (y := u2) k2 ⟨q', r', z', rfl⟩
    have e0 : v0 = .bool a0 := by simpa using e0
    have e1 : v1 = .string a1 := by simpa using e1
    subst e0 e1
    unfold maxLen at w1
    exact ⟨a0, a1, _, x, rfl, w1, hb1, hb2⟩
end
end Go.Proofs.YtlbjjeonchcgbaaGreatDoor
