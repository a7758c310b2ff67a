/- What came in (out of device's DvIn, behind PgM): octets, numbers, Bools, a crash, acts. -/
import Derived.Test.YtlipgphmhkjnpaaDoorPgM
import Derived.ChangeSlices
import Derived.SliceStrings
import Derived.Deep.Slices
import Derived.Stop.LaidErr
import Derived.LaidMore
import Derived.SevenTiedAt
import Derived.OpenShut
import Derived.Lib.SmallJoins
namespace Go.Proofs.YtlipgphmhkjnpaaDoor
open Go.RowKit Go.ChangeShapes Go.WideShapes

section
variable {H : Type} {enc : TypeId × Value → H} {W : World} {sp : Nat → Bool} {held : Bool} {fuel : Nat}
/-- The address of a cell that is there bears no mark. -/
theorem plain_addr {w : World} {a : Addr} {v : Value} (h : w.cell? (a.add 0) = some v) : ∃ b o, a = ⟨b, o, none⟩ := by
  obtain ⟨b, o, spot⟩ := a
  have hspot : spot = none := by simpa [Addr.add] using World.cell?_spot h
  subst hspot
  exact ⟨b, o, rfl⟩
theorem bin_came {v : Value} {y : DataW H × List MemPlace} (hf : DataW.trod enc Tryd.prog W 0 sp held fuel 23 v.cells.toList = some y) (hv : ∃ x l c, v = .slice x l c) : ∃ l, BIn W v l ∧ NilOk v := by
  obtain ⟨x0, l0, c0, rfl⟩ := hv
  rcases Go.ChangeShapes.open_ints Tryd.underlying23 Tryd.underlying5 (by kernel_rfl) hf with ⟨hcs, _⟩ | ⟨a, len, cap, zs, hcs, _, hl, hm, hz, _, hcell, hwf⟩
  · simp [Value.cells] at hcs
    obtain ⟨rfl, rfl, rfl⟩ := hcs
    exact ⟨[], ⟨none, 0, rfl, Nat.le_refl _, by decide, .inl rfl⟩, fun c h => by injection h with _ _ h; exact h.symm⟩
  · simp [Value.cells] at hcs
    obtain ⟨rfl, rfl, rfl⟩ := hcs
    have hzl : l0 ≤ zs.length := by rw [hz]; split <;> omega
    refine ⟨(zs.take l0).map (fun n => UInt8.ofNat n.toNat), ?_, fun _ h => by injection h with h; cases h⟩
    have hlen : ((zs.take l0).map (fun n : Int => UInt8.ofNat n.toNat)).length = l0 := by rw [List.length_map, List.length_take]; omega
    refine ⟨some a, c0, by rw [hlen], by rw [hlen]; exact hl, by unfold maxLen at hm; omega, ?_⟩
    by_cases h0 : l0 = 0
    · left; subst h0; simp
    · right
      obtain ⟨b, o, rfl⟩ := plain_addr (hcell 0 (by omega))
      refine ⟨b, o, rfl, World.block_lt_of_cell? W ⟨b, o, none⟩ (by simpa [Addr.add] using hcell 0 (by omega)), fun j hj => ?_⟩
      rw [hlen] at hj
      have h2 := hcell j (by omega)
      rw [Addr.add_lit] at h2
      rw [h2]
      have hjz : j < zs.length := by omega
      have hw := hwf zs[j] (List.getElem_mem hjz)
      have h1 : IntKind.u8.min = 0 := rfl
      have h3 : IntKind.u8.max = 255 := rfl
      simp only [Lit.wf, Bool.and_eq_true, decide_eq_true_eq] at hw
      rw [List.getD_eq_getElem?_getD, List.getElem?_eq_getElem hjz]
      simp only [Option.getD_some, List.getElem_map, List.getElem_take]
      congr 2
      have : (UInt8.ofNat zs[j].toNat).toNat = zs[j].toNat := by
        rw [UInt8.toNat_ofNat', Nat.mod_eq_of_lt (by omega)]
      rw [this]; omega
theorem bools_came {x0 : Option Addr} {l0 c0 : Nat} {y : DataW H × List MemPlace} (hf : DataW.trod enc Tryd.prog W 0 sp held fuel 44 [.slice x0 l0 c0] = some y) : ∃ l, l.length = l0 ∧ KCame14 W (.slice x0 l0 c0) l := by
  rcases Go.Deep.open_slice1 Tryd.underlying44 (by kernel_rfl) hf with ⟨hcs, _⟩ | ⟨a, len, cap, m, n, V, D, Pl, hcs, _, hl, hm, hmm, _, hx⟩
  · simp at hcs
    obtain ⟨rfl, rfl, rfl⟩ := hcs
    exact ⟨[], rfl, none, 0, rfl, Nat.le_refl _, by decide, .inl rfl⟩
  · simp at hcs
    obtain ⟨rfl, rfl, rfl⟩ := hcs
    have hml : l0 ≤ m := by rw [hmm]; split <;> omega
    have each : ∀ i, i < l0 → ∃ b : Bool, V i = .bool b := fun i hi => by
      obtain ⟨b, h, _⟩ := DataW.trod_bool Tryd.underlying4 (hx i (by omega)).2
      exact ⟨b, by simpa using h⟩
    obtain ⟨q, hq⟩ := Go.Deep.choose_lt each
    have hlen : ((List.range l0).map q).length = l0 := by rw [List.length_map, List.length_range]
    refine ⟨(List.range l0).map q, hlen, some a, c0, by rw [hlen], by rw [hlen]; exact hl, by unfold maxLen at hm; omega, ?_⟩
    by_cases h0 : l0 = 0
    · left; subst h0; rfl
    · right
      obtain ⟨b, o, rfl⟩ := plain_addr (hx 0 (by omega)).1
      refine ⟨b, o, rfl, World.block_lt_of_cell? W ⟨b, o, none⟩ (by simpa [Addr.add] using (hx 0 (by omega)).1), fun j hj => ?_⟩
      rw [hlen] at hj
      have h2 := (hx j (by omega)).1
      rw [Addr.add_lit] at h2
      rw [h2, hq j hj]
      simp
set_option maxRecDepth 100000 in
theorem crash_came {v : Value} {y : DataW H × List MemPlace} (hf : DataW.trod enc Tryd.prog W 0 sp held fuel 46 v.cells.toList = some y) (hv : ∃ cs, v = .agg cs ∧ cs.size = Tryd.prog.cellsOf 46) :
    ∃ ka N kc keep torn p, v = .agg #[.slice ka N kc, .int .i64 torn, .int .i64 p] ∧ KCame14 W (.slice ka N kc) keep ∧ (-9223372036854775808 ≤ torn ∧ torn ≤ 9223372036854775807) ∧ (-9223372036854775808 ≤ p ∧ p ≤ 9223372036854775807) := by
  obtain ⟨cs, rfl, hsz⟩ := hv
  have hC : Tryd.prog.cellsOf 46 = 3 := by kernel_rfl
  have c3 : Tryd.prog.cellsOf 3 = 1 := by kernel_rfl
  have c9 : Tryd.prog.cellsOf 44 = 1 := by kernel_rfl
  rw [hC] at hsz
  obtain ⟨xs, n, _, _, _, hlen, hel⟩ := DataW.trod_struct Tryd.underlying46 hf
  have hl : xs.length = 3 := hlen
  obtain ⟨l⟩ := cs
  have hll : l.length = 3 := hsz
  have hx : ∀ i, i < 3 → ∃ u, xs[i]? = some u := fun i hi => ⟨_, List.getElem?_eq_getElem (by omega)⟩
  match l, hll with
  | [v0, v1, v2], _ =>
    obtain ⟨u0, x0⟩ := hx 0 (by decide)
    have k0 := (hel 0 _ rfl).trans x0
    have kb : DataW.trod enc Tryd.prog W 0 sp held n 44 [v0] = some u0 := by simpa [Value.cells, c9] using k0
    clear k0
    obtain ⟨u1, x1⟩ := hx 1 (by decide)
    have k1 := (hel 1 _ rfl).trans x1
    obtain ⟨a1, e1, _, w1⟩ := DataW.trod_int Tryd.underlying3 (by simpa [Value.cells, c3, c9] using k1 : DataW.trod enc Tryd.prog W 0 sp held n 3 [v1] = some u1)
    obtain ⟨u2, x2⟩ := hx 2 (by decide)
    have k2 := (hel 2 _ rfl).trans x2
    obtain ⟨a2, e2, _, w2⟩ := DataW.trod_int Tryd.underlying3 (by simpa [Value.cells, c3, c9] using k2 : DataW.trod enc Tryd.prog W 0 sp held n 3 [v2] = some u2)
    have e1 : v1 = .int .i64 a1 := by simpa using e1
    have e2 : v2 = .int .i64 a2 := by simpa using e2
    subst e1 e2
    have hmin : IntKind.i64.min = -9223372036854775808 := rfl
    have hmax : IntKind.i64.max = 9223372036854775807 := rfl
    simp only [Lit.wf, Bool.and_eq_true, decide_eq_true_eq] at w1 w2
    have hs : ∃ x l c, v0 = .slice x l c := by
      rcases Go.Deep.open_slice1 Tryd.underlying44 (by kernel_rfl) kb with ⟨hc, _⟩ | ⟨a', len', cap', _, _, _, _, _, hc, _⟩
      · exact ⟨none, 0, 0, by simpa using hc⟩
      · exact ⟨some a', len', cap', by simpa using hc⟩
    obtain ⟨ka, N, kc, rfl⟩ := hs
    obtain ⟨keep, _, hk⟩ := bools_came kb
    exact ⟨ka, N, kc, keep, a1, a2, rfl, hk, by omega, by omega⟩
theorem ints_came {x0 : Option Addr} {l0 c0 : Nat} {y : DataW H × List MemPlace} (hf : DataW.trod enc Tryd.prog W 0 sp held fuel 43 [.slice x0 l0 c0] = some y) : ∃ l, ICame W (.slice x0 l0 c0) l := by
  rcases Go.ChangeShapes.open_ints Tryd.underlying43 Tryd.underlying3 (by kernel_rfl) hf with ⟨hcs, _⟩ | ⟨a, len, cap, zs, hcs, _, hl, hm, hz, _, hcell, hwf⟩
  · simp at hcs
    obtain ⟨rfl, rfl, rfl⟩ := hcs
    exact ⟨[], none, 0, rfl, Nat.le_refl _, by decide, .inl rfl⟩
  · simp at hcs
    obtain ⟨rfl, rfl, rfl⟩ := hcs
    have hzl : l0 ≤ zs.length := by rw [hz]; split <;> omega
    have hlen : (zs.take l0).length = l0 := by rw [List.length_take]; omega
    refine ⟨zs.take l0, some a, c0, by rw [hlen], by rw [hlen]; exact hl, by unfold maxLen at hm; omega, ?_⟩
    by_cases h0 : l0 = 0
    · left; subst h0; simp
    · right
      obtain ⟨b, o, rfl⟩ := plain_addr (hcell 0 (by omega))
      refine ⟨b, o, rfl, World.block_lt_of_cell? W ⟨b, o, none⟩ (by simpa [Addr.add] using hcell 0 (by omega)), fun j hj => ?_⟩
      rw [hlen] at hj
      have h2 := hcell j (by omega)
      rw [Addr.add_lit] at h2
      rw [h2, List.getD_eq_getElem?_getD, List.getElem?_eq_getElem (by omega)]
      simp
instance : Inhabited ActV := ⟨⟨0, 0, 0, 0, 0, [], 0, [], [], .slice none 0 0, .slice none 0 0, .slice none 0 0⟩⟩
set_option maxRecDepth 100000 in
theorem act_came {l : List Value} {n0 : Nat} {y : DataW H × List MemPlace} (hf : DataW.trod enc Tryd.prog W 0 sp held n0 48 l = some y) (hll : l.length = 9) :
    ∃ A : ActV, l = [.int .i64 A.do_, .int .i64 A.at_, .int .i64 A.kind, A.vb, .int .u8 (A.x.toNat : Int), A.vc, A.vk, .int .i64 A.torn, .int .i64 A.part] ∧ (BIn W A.vb A.body ∧ NilOk A.vb) ∧ ICame W A.vc A.calls ∧ KCame14 W A.vk A.keep ∧ Word A.at_ ∧ Word A.kind ∧ Word A.torn ∧ Word A.part := by
  have c1 : Tryd.prog.cellsOf 3 = 1 := by kernel_rfl
  have c2 : Tryd.prog.cellsOf 23 = 1 := by kernel_rfl
  have c3 : Tryd.prog.cellsOf 5 = 1 := by kernel_rfl
  have c4 : Tryd.prog.cellsOf 43 = 1 := by kernel_rfl
  have c5 : Tryd.prog.cellsOf 46 = 3 := by kernel_rfl
  obtain ⟨xs, n, _, _, _, hlen, hel⟩ := DataW.trod_struct Tryd.underlying48 hf
  have hl : xs.length = 7 := hlen
  have hx : ∀ i, i < 7 → ∃ u, xs[i]? = some u := fun i hi => ⟨_, List.getElem?_eq_getElem (by omega)⟩
  have hmin : IntKind.i64.min = -9223372036854775808 := rfl
  have hmax : IntKind.i64.max = 9223372036854775807 := rfl
  have hmin8 : IntKind.u8.min = 0 := rfl
  have hmax8 : IntKind.u8.max = 255 := rfl
  match l, hll with
  | [v0, v1, v2, v3, v4, v5, v6, v7, v8], _ =>
    obtain ⟨u0, x0⟩ := hx 0 (by decide)
    have k0 := (hel 0 _ rfl).trans x0
    obtain ⟨a0, e0, _, w0⟩ := DataW.trod_int Tryd.underlying3 (by simpa [c1] using k0 : DataW.trod enc Tryd.prog W 0 sp held n 3 [v0] = some u0)
    obtain ⟨u1, x1⟩ := hx 1 (by decide)
    have k1 := (hel 1 _ rfl).trans x1
    obtain ⟨a1, e1, _, w1⟩ := DataW.trod_int Tryd.underlying3 (by simpa [c1] using k1 : DataW.trod enc Tryd.prog W 0 sp held n 3 [v1] = some u1)
    obtain ⟨u2, x2⟩ := hx 2 (by decide)
    have k2 := (hel 2 _ rfl).trans x2
    obtain ⟨a2, e2, _, w2⟩ := DataW.trod_int Tryd.underlying3 (by simpa [c1] using k2 : DataW.trod enc Tryd.prog W 0 sp held n 3 [v2] = some u2)
    obtain ⟨u3, x3⟩ := hx 3 (by decide)
    have k3 := (hel 3 _ rfl).trans x3
    have q3 : DataW.trod enc Tryd.prog W 0 sp held n 23 [v3] = some u3 := by simpa [c1, c2] using k3
    obtain ⟨u4, x4⟩ := hx 4 (by decide)
    have k4 := (hel 4 _ rfl).trans x4
    obtain ⟨a4, e4, _, w4⟩ := DataW.trod_int Tryd.underlying5 (by simpa [c1, c2, c3] using k4 : DataW.trod enc Tryd.prog W 0 sp held n 5 [v4] = some u4)
    obtain ⟨u5, x5⟩ := hx 5 (by decide)
    have k5 := (hel 5 _ rfl).trans x5
    have q5 : DataW.trod enc Tryd.prog W 0 sp held n 43 [v5] = some u5 := by simpa [c1, c2, c3, c4] using k5
    obtain ⟨u6, x6⟩ := hx 6 (by decide)
    have k6 := (hel 6 _ rfl).trans x6
    have q6 : DataW.trod enc Tryd.prog W 0 sp held n 46 (Value.agg #[v6, v7, v8]).cells.toList = some u6 := by simpa [Value.cells, c1, c2, c3, c4, c5] using k6
    have e0 : v0 = .int .i64 a0 := by simpa using e0
    have e1 : v1 = .int .i64 a1 := by simpa using e1
    have e2 : v2 = .int .i64 a2 := by simpa using e2
    have e4 : v4 = .int .u8 a4 := by simpa using e4
    subst e0 e1 e2 e4
    simp only [Lit.wf, Bool.and_eq_true, decide_eq_true_eq] at w0 w1 w2 w4
    have s3 : ∃ x l c, v3 = .slice x l c := by
      rcases Go.Deep.open_slice1 Tryd.underlying23 (by kernel_rfl) q3 with ⟨hc, _⟩ | ⟨a', len', cap', _, _, _, _, _, hc, _⟩
      · exact ⟨none, 0, 0, by simpa using hc⟩
      · exact ⟨some a', len', cap', by simpa using hc⟩
    have s5 : ∃ x l c, v5 = .slice x l c := by
      rcases Go.Deep.open_slice1 Tryd.underlying43 (by kernel_rfl) q5 with ⟨hc, _⟩ | ⟨a', len', cap', _, _, _, _, _, hc, _⟩
      · exact ⟨none, 0, 0, by simpa using hc⟩
      · exact ⟨some a', len', cap', by simpa using hc⟩
    obtain ⟨body, hbody⟩ := bin_came (v := v3) (by obtain ⟨x, l, c, rfl⟩ := s3; simpa [Value.cells] using q3) s3
    obtain ⟨xc, lc, cc, rfl⟩ := s5
    obtain ⟨calls, hcalls⟩ := ints_came q5
    obtain ⟨ka, N, kc, keep, torn, p, hv, hk, ht, hp⟩ := crash_came q6 ⟨_, rfl, by rw [c5]; rfl⟩
    injection hv with hv
    have hv2 : [v6, v7, v8] = [Value.slice ka N kc, .int .i64 torn, .int .i64 p] := congrArg Array.toList hv
    simp only [List.cons.injEq, and_true] at hv2
    obtain ⟨rfl, rfl, rfl⟩ := hv2
    refine ⟨⟨a0, a1, a2, torn, p, body, UInt8.ofNat a4.toNat, calls, keep, v3, .slice xc lc cc, .slice ka N kc⟩, ?_, hbody, hcalls, hk, by unfold Word; show _ ≤ a1 ∧ a1 ≤ _; omega, by unfold Word; show _ ≤ a2 ∧ a2 ≤ _; omega, ht, hp⟩
    have h8 : ((UInt8.ofNat a4.toNat).toNat : Int) = a4 := by rw [UInt8.toNat_ofNat', Nat.mod_eq_of_lt (by omega)]; omega
    simp only [h8]
theorem acts_came {v : Value} {y : DataW H × List MemPlace} (hf : DataW.trod enc Tryd.prog W 0 sp held fuel 37 v.cells.toList = some y) (hv : ∃ x l c, v = .slice x l c) : ∃ l, ActsIn W v l := by
  obtain ⟨x0, l0, c0, rfl⟩ := hv
  have c9 : Tryd.prog.cellsOf 48 = 9 := by kernel_rfl
  rcases Go.Deep.open_slice Tryd.underlying37 hf with ⟨hcs, _⟩ | ⟨a, len, cap, m, n, D, Pl, hcs, _, hl, hm, hmm, _, hx⟩
  · simp [Value.cells] at hcs
    obtain ⟨rfl, rfl, rfl⟩ := hcs
    exact ⟨[], none, 0, rfl, Nat.le_refl _, by decide, .inl rfl⟩
  · simp [Value.cells] at hcs
    obtain ⟨rfl, rfl, rfl⟩ := hcs
    have hml : l0 ≤ m := by rw [hmm]; split <;> omega
    have each : ∀ i, i < l0 → ∃ A : ActV, (∀ j u, [Value.int .i64 A.do_, .int .i64 A.at_, .int .i64 A.kind, A.vb, .int .u8 (A.x.toNat : Int), A.vc, A.vk, .int .i64 A.torn, .int .i64 A.part][j]? = some u → W.cell? ((a.add (i * 9)).add j) = some u) ∧ (BIn W A.vb A.body ∧ NilOk A.vb) ∧ ICame W A.vc A.calls ∧ KCame14 W A.vk A.keep ∧ Word A.at_ ∧ Word A.kind ∧ Word A.torn ∧ Word A.part := fun i hi => by
      obtain ⟨cs', h1, h2⟩ := hx i (by omega)
      rw [c9] at h1
      obtain ⟨h3, h4, h5⟩ := World.cells?_some h1
      obtain ⟨A, hA, h9⟩ := act_came h2 h4
      refine ⟨A, fun j u hj => ?_, h9⟩
      rw [← hA] at hj
      have hj9 : j < 9 := by rw [← h4]; exact (List.getElem?_eq_some_iff.1 hj).1
      rw [h5 j hj9]; exact hj
    obtain ⟨q, hq⟩ := Go.Deep.choose_lt each
    have hlen : ((List.range l0).map q).length = l0 := by rw [List.length_map, List.length_range]
    refine ⟨(List.range l0).map q, some a, c0, by rw [hlen], by rw [hlen]; exact hl, by unfold maxLen at hm; omega, ?_⟩
    by_cases h0 : l0 = 0
    · left; subst h0; rfl
    · right
      obtain ⟨b, o, spot⟩ := a
      have hc0 := (hq 0 (by omega)).1 0 _ rfl
      have hspot : spot = none := by simpa [Addr.add] using World.cell?_spot hc0
      subst hspot
      rw [Addr.add_lit, Addr.add_lit] at hc0
      refine ⟨b, o, rfl, World.block_lt_of_cell? W _ hc0, fun j hj => ?_⟩
      rw [hlen] at hj
      obtain ⟨hc, h1, h2, h3, h4⟩ := hq j hj
      simp only [List.getElem_map, List.getElem_range]
      have hc' : ∀ i u, [Value.int .i64 (q j).do_, .int .i64 (q j).at_, .int .i64 (q j).kind, (q j).vb, .int .u8 ((q j).x.toNat : Int), (q j).vc, (q j).vk, .int .i64 (q j).torn, .int .i64 (q j).part][i]? = some u → W.cell? ⟨b, o + j * 9 + i, none⟩ = some u := fun i u hu => by
        have := hc i u hu
        rw [Addr.add_lit, Addr.add_lit] at this
        exact this
      exact ⟨hc' 0 _ rfl, hc' 1 _ rfl, hc' 2 _ rfl, hc' 3 _ rfl, hc' 4 _ rfl, hc' 5 _ rfl, hc' 6 _ rfl, hc' 7 _ rfl, hc' 8 _ rfl, h1, h2, h3, h4⟩
end
