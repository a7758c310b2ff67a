/- What came in: a message by value, when it was asked for and when it came, what is asked. -/
import Derived.Test.YtajbeoignhnpjaaDoorFr6
import Derived.Test.YtajbeoignhnpjaaDoorShape
import Derived.Deep.SlicePairs
import Derived.ChangeSlices
import Derived.SliceStrings
import Derived.Stop.LaidErr
import Derived.LaidMore
import Derived.SevenTiedAt
import Derived.OpenShut
import Derived.Lib.SmallJoins
namespace Go.Proofs.YtajbeoignhnpjaaDoor
open Go.RowKit Go.ChangeShapes Go.WideShapes

theorem i64_wf {a : Int} (w : (Lit.int .i64 a).wf = true) : I64 a := by
  simp only [Lit.wf, Bool.and_eq_true, decide_eq_true_eq] at w
  have hmin : IntKind.i64.min = -9223372036854775808 := rfl
  have hmax : IntKind.i64.max = 9223372036854775807 := rfl
  unfold I64; omega
section
variable {H : Type} {enc : TypeId × Value → H} {W : World} {sp : Nat → Bool} {held : Bool} {fuel : Nat}
/-- The address of a cell that is there bears no mark. -/
theorem bare_addr {w : World} {a : Addr} {v : Value} (h : w.cell? (a.add 0) = some v) : ∃ b o, a = ⟨b, o, none⟩ := by
  obtain ⟨b, o, spot⟩ := a
  have hspot : spot = none := by simpa [Addr.add] using World.cell?_spot h
  subst hspot
  exact ⟨b, o, rfl⟩

theorem fin_in {v : Value} {y : DataW H × List MemPlace} (hf : DataW.trod enc Tryd.prog W 0 sp held fuel 24 v.cells.toList = some y) (hv : ∃ x l c, v = .slice x l c) :
    ∃ fs, FIn W v fs ∧ fs.length ≤ 9223372036854775807 ∧ ∀ f ∈ fs, f.1.length ≤ 9223372036854775807 ∧ f.2.length ≤ 9223372036854775807 := by
  obtain ⟨x0, l0, c0, rfl⟩ := hv
  rcases Go.Deep.open_slice_pairs Tryd.underlying24 Tryd.underlying48 (by kernel_rfl) rfl rfl (by kernel_rfl) (by kernel_rfl) hf with ⟨hcs, _⟩ | ⟨a, len, cap, m, n, V0, V1, D0, D1, P0, P1, hcs, _, hl, hm, hmm, _, hc⟩
  · simp [Value.cells] at hcs
    obtain ⟨rfl, rfl, rfl⟩ := hcs
    exact ⟨[], ⟨none, 0, rfl, .inl rfl⟩, by decide, fun f h => by cases h⟩
  · simp [Value.cells] at hcs
    obtain ⟨rfl, rfl, rfl⟩ := hcs
    have hml : l0 ≤ m := by rw [hmm]; split <;> omega
    have each : ∀ i, i < l0 → ∃ q : List UInt8 × List UInt8, V0 i = .string (str q.1) ∧ V1 i = .string (str q.2) ∧ q.1.length ≤ 9223372036854775807 ∧ q.2.length ≤ 9223372036854775807 := fun i hi => by
      obtain ⟨_, _, t0, t1⟩ := hc i (by omega)
      obtain ⟨s0, e0, _, z0⟩ := DataW.trod_string Tryd.underlying9 t0
      obtain ⟨s1, e1, _, z1⟩ := DataW.trod_string Tryd.underlying9 t1
      simp at e0 e1
      unfold maxLen at z0 z1
      exact ⟨(s0.data.toList, s1.data.toList), by rw [e0, str_of], by rw [e1, str_of], by show s0.data.toList.length ≤ _; rw [Oct.length_size]; exact z0, by show s1.data.toList.length ≤ _; rw [Oct.length_size]; exact z1⟩
    obtain ⟨q, hq⟩ := Go.Deep.choose_lt each
    have hlen : ((List.range l0).map q).length = l0 := by rw [List.length_map, List.length_range]
    refine ⟨(List.range l0).map q, ⟨some a, c0, by rw [hlen], ?_⟩, by rw [hlen]; unfold maxLen at hm; omega, fun f hf => ?_⟩
    · by_cases h0 : l0 = 0
      · left; subst h0; rfl
      · right
        obtain ⟨b, o, rfl⟩ := bare_addr (a := a) (by have := (hc 0 (by omega)).1; simpa using this)
        refine ⟨b, o, rfl, World.block_lt_of_cell? W ⟨b, o, none⟩ (by have := (hc 0 (by omega)).1; simpa [Addr.add] using this), fun j hj => ?_⟩
        rw [hlen] at hj
        obtain ⟨k0, k1, _, _⟩ := hc j (by omega)
        obtain ⟨e0, e1, _, _⟩ := hq j hj
        rw [Addr.add_lit] at k0 k1
        rw [e0] at k0
        rw [e1, ← Nat.add_assoc] at k1
        simp only [List.getElem_map, List.getElem_range]
        exact ⟨k0, k1⟩
    · obtain ⟨i, hi, rfl⟩ := List.mem_map.1 hf
      exact (hq i (List.mem_range.1 hi)).2.2

theorem octets_in {u : Value} {y : DataW H × List MemPlace} (hf : DataW.trod enc Tryd.prog W 0 sp held fuel 25 [u] = some y) : ∃ x l c, u = .slice x l c := by
  rcases Go.ChangeShapes.open_ints Tryd.underlying25 Tryd.underlying5 (by kernel_rfl) hf with ⟨hcs, _⟩ | ⟨a, len, cap, zs, hcs, _⟩
  · exact ⟨none, 0, 0, by simpa using hcs⟩
  · exact ⟨some a, len, cap, by simpa using hcs⟩
theorem fields_in {u : Value} {y : DataW H × List MemPlace} (hf : DataW.trod enc Tryd.prog W 0 sp held fuel 24 [u] = some y) : ∃ x l c, u = .slice x l c := by
  rcases Go.Deep.open_slice_pairs Tryd.underlying24 Tryd.underlying48 (by kernel_rfl) rfl rfl (by kernel_rfl) (by kernel_rfl) hf with ⟨hcs, _⟩ | ⟨a, len, cap, m, n, V0, V1, D0, D1, P0, P1, hcs, _⟩
  · exact ⟨none, 0, 0, by simpa using hcs⟩
  · exact ⟨some a, len, cap, by simpa using hcs⟩
set_option maxRecDepth 100000 in
theorem start_in {v : Value} {y : DataW H × List MemPlace} (hf : DataW.trod enc Tryd.prog W 0 sp held fuel 23 v.cells.toList = some y) (hv : ∃ cs, v = .agg cs ∧ cs.size = Tryd.prog.cellsOf 23) : ∃ a b st c mi, v = .agg #[.string a, .string b, .int .i64 st, .string c, .int .i64 mi] := by
  obtain ⟨cs, rfl, hsz⟩ := hv
  have hC : Tryd.prog.cellsOf 23 = 5 := by kernel_rfl
  have c4 : Tryd.prog.cellsOf 4 = 1 := by kernel_rfl
  have c3 : Tryd.prog.cellsOf 3 = 1 := by kernel_rfl
  have c9 : Tryd.prog.cellsOf 9 = 1 := by kernel_rfl
  rw [hC] at hsz
  obtain ⟨xs, n, _, _, _, hlen, hel⟩ := DataW.trod_struct Tryd.underlying23 hf
  have hl : xs.length = 5 := hlen
  obtain ⟨l⟩ := cs
  have hll : l.length = 5 := hsz
  have hx : ∀ i, i < 5 → ∃ u, xs[i]? = some u := fun i hi => ⟨_, List.getElem?_eq_getElem (by omega)⟩
  match l, hll with
  | [v0, v1, v2, v3, v4], _ =>
    obtain ⟨u0, x0⟩ := hx 0 (by decide)
    have k0 := (hel 0 _ rfl).trans x0
    obtain ⟨a0, e0, _, w0⟩ := DataW.trod_string Tryd.underlying9 (by simpa [Value.cells, c4, c3, c9] using k0 : DataW.trod enc Tryd.prog W 0 sp held n 9 [v0] = some u0)
    have e0 : v0 = .string a0 := by simpa using e0
    obtain ⟨u1, x1⟩ := hx 1 (by decide)
    have k1 := (hel 1 _ rfl).trans x1
    obtain ⟨a1, e1, _, w1⟩ := DataW.trod_string Tryd.underlying9 (by simpa [Value.cells, c4, c3, c9] using k1 : DataW.trod enc Tryd.prog W 0 sp held n 9 [v1] = some u1)
    have e1 : v1 = .string a1 := by simpa using e1
    obtain ⟨u2, x2⟩ := hx 2 (by decide)
    have k2 := (hel 2 _ rfl).trans x2
    obtain ⟨a2, e2, _, w2⟩ := DataW.trod_int Tryd.underlying3 (by simpa [Value.cells, c4, c3, c9] using k2 : DataW.trod enc Tryd.prog W 0 sp held n 3 [v2] = some u2)
    have e2 : v2 = .int .i64 a2 := by simpa using e2
    have b2 := i64_wf w2
    obtain ⟨u3, x3⟩ := hx 3 (by decide)
    have k3 := (hel 3 _ rfl).trans x3
    obtain ⟨a3, e3, _, w3⟩ := DataW.trod_string Tryd.underlying9 (by simpa [Value.cells, c4, c3, c9] using k3 : DataW.trod enc Tryd.prog W 0 sp held n 9 [v3] = some u3)
    have e3 : v3 = .string a3 := by simpa using e3
    obtain ⟨u4, x4⟩ := hx 4 (by decide)
    have k4 := (hel 4 _ rfl).trans x4
    obtain ⟨a4, e4, _, w4⟩ := DataW.trod_int Tryd.underlying3 (by simpa [Value.cells, c4, c3, c9] using k4 : DataW.trod enc Tryd.prog W 0 sp held n 3 [v4] = some u4)
    have e4 : v4 = .int .i64 a4 := by simpa using e4
    have b4 := i64_wf w4
    subst e0 e1 e2 e3 e4
    exact ⟨_, _, _, _, _, rfl⟩
set_option maxRecDepth 100000 in
theorem times_in {v : Value} {y : DataW H × List MemPlace} (hf : DataW.trod enc Tryd.prog W 0 sp held fuel 29 v.cells.toList = some y) (hv : ∃ cs, v = .agg cs ∧ cs.size = Tryd.prog.cellsOf 29) : ∃ a g, v = tv a g ∧ I64 a ∧ I64 g := by
  obtain ⟨cs, rfl, hsz⟩ := hv
  have hC : Tryd.prog.cellsOf 29 = 2 := by kernel_rfl
  have c4 : Tryd.prog.cellsOf 4 = 1 := by kernel_rfl
  have c3 : Tryd.prog.cellsOf 3 = 1 := by kernel_rfl
  have c9 : Tryd.prog.cellsOf 9 = 1 := by kernel_rfl
  rw [hC] at hsz
  obtain ⟨xs, n, _, _, _, hlen, hel⟩ := DataW.trod_struct Tryd.underlying29 hf
  have hl : xs.length = 2 := hlen
  obtain ⟨l⟩ := cs
  have hll : l.length = 2 := hsz
  have hx : ∀ i, i < 2 → ∃ u, xs[i]? = some u := fun i hi => ⟨_, List.getElem?_eq_getElem (by omega)⟩
  match l, hll with
  | [v0, v1], _ =>
    obtain ⟨u0, x0⟩ := hx 0 (by decide)
    have k0 := (hel 0 _ rfl).trans x0
    obtain ⟨a0, e0, _, w0⟩ := DataW.trod_int Tryd.underlying3 (by simpa [Value.cells, c4, c3, c9] using k0 : DataW.trod enc Tryd.prog W 0 sp held n 3 [v0] = some u0)
    have e0 : v0 = .int .i64 a0 := by simpa using e0
    have b0 := i64_wf w0
    obtain ⟨u1, x1⟩ := hx 1 (by decide)
    have k1 := (hel 1 _ rfl).trans x1
    obtain ⟨a1, e1, _, w1⟩ := DataW.trod_int Tryd.underlying3 (by simpa [Value.cells, c4, c3, c9] using k1 : DataW.trod enc Tryd.prog W 0 sp held n 3 [v1] = some u1)
    have e1 : v1 = .int .i64 a1 := by simpa using e1
    have b1 := i64_wf w1
    subst e0 e1
    exact ⟨a0, a1, rfl, b0, b1⟩
set_option maxRecDepth 100000 in
theorem ctl_in {v : Value} {y : DataW H × List MemPlace} (hf : DataW.trod enc Tryd.prog W 0 sp held fuel 39 v.cells.toList = some y) (hv : ∃ cs, v = .agg cs ∧ cs.size = Tryd.prog.cellsOf 39) : ∃ c, v = cval c ∧ I64 c.ma ∧ I64 c.sa ∧ I64 c.ms ∧ I64 c.mf := by
  obtain ⟨cs, rfl, hsz⟩ := hv
  have hC : Tryd.prog.cellsOf 39 = 11 := by kernel_rfl
  have c4 : Tryd.prog.cellsOf 4 = 1 := by kernel_rfl
  have c3 : Tryd.prog.cellsOf 3 = 1 := by kernel_rfl
  have c9 : Tryd.prog.cellsOf 9 = 1 := by kernel_rfl
  rw [hC] at hsz
  obtain ⟨xs, n, _, _, _, hlen, hel⟩ := DataW.trod_struct Tryd.underlying39 hf
  have hl : xs.length = 11 := hlen
  obtain ⟨l⟩ := cs
  have hll : l.length = 11 := hsz
  have hx : ∀ i, i < 11 → ∃ u, xs[i]? = some u := fun i hi => ⟨_, List.getElem?_eq_getElem (by omega)⟩
  match l, hll with
  | [v0, v1, v2, v3, v4, v5, v6, v7, v8, v9, v10], _ =>
    obtain ⟨u0, x0⟩ := hx 0 (by decide)
    have k0 := (hel 0 _ rfl).trans x0
    obtain ⟨a0, e0, _⟩ := DataW.trod_bool Tryd.underlying4 (by simpa [Value.cells, c4, c3, c9] using k0 : DataW.trod enc Tryd.prog W 0 sp held n 4 [v0] = some u0)
    have e0 : v0 = .bool a0 := by simpa using e0
    obtain ⟨u1, x1⟩ := hx 1 (by decide)
    have k1 := (hel 1 _ rfl).trans x1
    obtain ⟨a1, e1, _⟩ := DataW.trod_bool Tryd.underlying4 (by simpa [Value.cells, c4, c3, c9] using k1 : DataW.trod enc Tryd.prog W 0 sp held n 4 [v1] = some u1)
    have e1 : v1 = .bool a1 := by simpa using e1
    obtain ⟨u2, x2⟩ := hx 2 (by decide)
    have k2 := (hel 2 _ rfl).trans x2
    obtain ⟨a2, e2, _⟩ := DataW.trod_bool Tryd.underlying4 (by simpa [Value.cells, c4, c3, c9] using k2 : DataW.trod enc Tryd.prog W 0 sp held n 4 [v2] = some u2)
    have e2 : v2 = .bool a2 := by simpa using e2
    obtain ⟨u3, x3⟩ := hx 3 (by decide)
    have k3 := (hel 3 _ rfl).trans x3
    obtain ⟨a3, e3, _⟩ := DataW.trod_bool Tryd.underlying4 (by simpa [Value.cells, c4, c3, c9] using k3 : DataW.trod enc Tryd.prog W 0 sp held n 4 [v3] = some u3)
    have e3 : v3 = .bool a3 := by simpa using e3
    obtain ⟨u4, x4⟩ := hx 4 (by decide)
    have k4 := (hel 4 _ rfl).trans x4
    obtain ⟨a4, e4, _⟩ := DataW.trod_bool Tryd.underlying4 (by simpa [Value.cells, c4, c3, c9] using k4 : DataW.trod enc Tryd.prog W 0 sp held n 4 [v4] = some u4)
    have e4 : v4 = .bool a4 := by simpa using e4
    obtain ⟨u5, x5⟩ := hx 5 (by decide)
    have k5 := (hel 5 _ rfl).trans x5
    obtain ⟨a5, e5, _⟩ := DataW.trod_bool Tryd.underlying4 (by simpa [Value.cells, c4, c3, c9] using k5 : DataW.trod enc Tryd.prog W 0 sp held n 4 [v5] = some u5)
    have e5 : v5 = .bool a5 := by simpa using e5
    obtain ⟨u6, x6⟩ := hx 6 (by decide)
    have k6 := (hel 6 _ rfl).trans x6
    obtain ⟨a6, e6, _⟩ := DataW.trod_bool Tryd.underlying4 (by simpa [Value.cells, c4, c3, c9] using k6 : DataW.trod enc Tryd.prog W 0 sp held n 4 [v6] = some u6)
    have e6 : v6 = .bool a6 := by simpa using e6
    obtain ⟨u7, x7⟩ := hx 7 (by decide)
    have k7 := (hel 7 _ rfl).trans x7
    obtain ⟨a7, e7, _, w7⟩ := DataW.trod_int Tryd.underlying3 (by simpa [Value.cells, c4, c3, c9] using k7 : DataW.trod enc Tryd.prog W 0 sp held n 3 [v7] = some u7)
    have e7 : v7 = .int .i64 a7 := by simpa using e7
    have b7 := i64_wf w7
    obtain ⟨u8, x8⟩ := hx 8 (by decide)
    have k8 := (hel 8 _ rfl).trans x8
    obtain ⟨a8, e8, _, w8⟩ := DataW.trod_int Tryd.underlying3 (by simpa [Value.cells, c4, c3, c9] using k8 : DataW.trod enc Tryd.prog W 0 sp held n 3 [v8] = some u8)
    have e8 : v8 = .int .i64 a8 := by simpa using e8
    have b8 := i64_wf w8
    obtain ⟨u9, x9⟩ := hx 9 (by decide)
    have k9 := (hel 9 _ rfl).trans x9
    obtain ⟨a9, e9, _, w9⟩ := DataW.trod_int Tryd.underlying3 (by simpa [Value.cells, c4, c3, c9] using k9 : DataW.trod enc Tryd.prog W 0 sp held n 3 [v9] = some u9)
    have e9 : v9 = .int .i64 a9 := by simpa using e9
    have b9 := i64_wf w9
    obtain ⟨u10, x10⟩ := hx 10 (by decide)
    have k10 := (hel 10 _ rfl).trans x10
    obtain ⟨a10, e10, _, w10⟩ := DataW.trod_int Tryd.underlying3 (by simpa [Value.cells, c4, c3, c9] using k10 : DataW.trod enc Tryd.prog W 0 sp held n 3 [v10] = some u10)
    have e10 : v10 = .int .i64 a10 := by simpa using e10
    have b10 := i64_wf w10
    subst e0 e1 e2 e3 e4 e5 e6 e7 e8 e9 e10
    exact ⟨⟨a0, a1, a2, a3, a4, a5, a6, a7, a8, a9, a10⟩, rfl, b7, b8, b9, b10⟩
set_option maxRecDepth 100000 in
theorem msg_in {v : Value} {y : DataW H × List MemPlace} (hf : DataW.trod enc Tryd.prog W 0 sp held fuel 27 v.cells.toList = some y) (hv : ∃ cs, v = .agg cs ∧ cs.size = Tryd.prog.cellsOf 27) :
    ∃ a b st c mi fv bv fs, v = mv a b st c mi fv bv ∧ FIn W fv fs ∧ Sl bv ∧ fs.length ≤ 9223372036854775807 ∧ ∀ f ∈ fs, f.1.length ≤ 9223372036854775807 ∧ f.2.length ≤ 9223372036854775807 := by
  obtain ⟨cs, rfl, hsz⟩ := hv
  have hC : Tryd.prog.cellsOf 27 = 7 := by kernel_rfl
  have hS : Tryd.prog.cellsOf 23 = 5 := by kernel_rfl
  have cF : Tryd.prog.cellsOf 24 = 1 := by kernel_rfl
  have cB : Tryd.prog.cellsOf 25 = 1 := by kernel_rfl
  rw [hC] at hsz
  obtain ⟨xs, n, _, _, _, hlen, hel⟩ := DataW.trod_struct Tryd.underlying27 hf
  have hl : xs.length = 3 := hlen
  obtain ⟨l⟩ := cs
  have hll : l.length = 7 := hsz
  have hx : ∀ i, i < 3 → ∃ u, xs[i]? = some u := fun i hi => ⟨_, List.getElem?_eq_getElem (by omega)⟩
  match l, hll with
  | [v0, v1, v2, v3, v4, v5, v6], _ =>
    obtain ⟨u0, x0⟩ := hx 0 (by decide)
    have k0 := (hel 0 _ rfl).trans x0
    have k0 : DataW.trod enc Tryd.prog W 0 sp held n 23 [v0, v1, v2, v3, v4] = some u0 := by simpa [Value.cells, hS] using k0
    obtain ⟨a, b, s, c, mi, hs⟩ := start_in (v := .agg #[v0, v1, v2, v3, v4]) (y := u0) k0 ⟨_, rfl, hS.symm⟩
    obtain ⟨u1, x1⟩ := hx 1 (by decide)
    have k1 := (hel 1 _ rfl).trans x1
    have k1 : DataW.trod enc Tryd.prog W 0 sp held n 24 [v5] = some u1 := by simpa [Value.cells, hS, cF] using k1
    obtain ⟨q, r, z, hq⟩ := fields_in k1
    subst hq
    obtain ⟨fs, hf1, hf3, hf4⟩ := fin_in (v := .slice q r z) (y := u1) k1 ⟨q, r, z, rfl⟩
    obtain ⟨u2, x2⟩ := hx 2 (by decide)
    have k2 := (hel 2 _ rfl).trans x2
    have k2 : DataW.trod enc Tryd.prog W 0 sp held n 25 [v6] = some u2 := by simpa [Value.cells, hS, cF, cB] using k2
    refine ⟨a, b, s, c, mi, .slice q r z, v6, fs, ?_, hf1, octets_in k2, hf3, hf4⟩
    injection hs with hs
    injection hs with hs
    injection hs with e0 hs
    injection hs with e1 hs
    injection hs with e2 hs
    injection hs with e3 hs
    injection hs with e4 hs
    rw [e0, e1, e2, e3, e4]; rfl
set_option maxRecDepth 100000 in
theorem asked_in {v : Value} {y : DataW H × List MemPlace} (hf : DataW.trod enc Tryd.prog W 0 sp held fuel 41 v.cells.toList = some y) (hv : ∃ cs, v = .agg cs ∧ cs.size = Tryd.prog.cellsOf 41) :
    ∃ now q, v = av now q ∧ I64 now ∧ I64 q.sa := by
  obtain ⟨cs, rfl, hsz⟩ := hv
  have hC : Tryd.prog.cellsOf 41 = 12 := by kernel_rfl
  have hS : Tryd.prog.cellsOf 39 = 11 := by kernel_rfl
  have c3 : Tryd.prog.cellsOf 3 = 1 := by kernel_rfl
  rw [hC] at hsz
  obtain ⟨xs, n, _, _, _, hlen, hel⟩ := DataW.trod_struct Tryd.underlying41 hf
  have hl : xs.length = 2 := hlen
  obtain ⟨l⟩ := cs
  have hll : l.length = 12 := hsz
  have hx : ∀ i, i < 2 → ∃ u, xs[i]? = some u := fun i hi => ⟨_, List.getElem?_eq_getElem (by omega)⟩
  match l, hll with
  | [v0, v1, v2, v3, v4, v5, v6, v7, v8, v9, v10, v11], _ =>
    obtain ⟨u0, x0⟩ := hx 0 (by decide)
    have k0 := (hel 0 _ rfl).trans x0
    obtain ⟨a0, e0, _, w0⟩ := DataW.trod_int Tryd.underlying3 (by simpa [Value.cells, c3] using k0 : DataW.trod enc Tryd.prog W 0 sp held n 3 [v0] = some u0)
    have e0 : v0 = .int .i64 a0 := by simpa using e0
    obtain ⟨u1, x1⟩ := hx 1 (by decide)
    have k1 := (hel 1 _ rfl).trans x1
    have k1 : DataW.trod enc Tryd.prog W 0 sp held n 39 [v1, v2, v3, v4, v5, v6, v7, v8, v9, v10, v11] = some u1 := by simpa [Value.cells, hS, c3] using k1
    obtain ⟨c, hc, _, h2, _, _⟩ := ctl_in (v := .agg #[v1, v2, v3, v4, v5, v6, v7, v8, v9, v10, v11]) (y := u1) k1 ⟨_, rfl, hS.symm⟩
    refine ⟨a0, c, ?_, i64_wf w0, h2⟩
    subst e0
    unfold cval ccells at hc
    injection hc with hc
    injection hc with hc
    injection hc with e1 hc
    injection hc with e2 hc
    injection hc with e3 hc
    injection hc with e4 hc
    injection hc with e5 hc
    injection hc with e6 hc
    injection hc with e7 hc
    injection hc with e8 hc
    injection hc with e9 hc
    injection hc with e10 hc
    injection hc with e11 hc
    unfold av
    rw [e1, e2, e3, e4, e5, e6, e7, e8, e9, e10, e11]
end
end Go.Proofs.YtajbeoignhnpjaaDoor
