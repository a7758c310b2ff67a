/- What came in: a message by value, a URI. -/
import Derived.Test.YtoanelobggledaaGreatDoorVR1
import Derived.ChangeSlices
import Derived.Deep.SlicePairs
import Derived.Handed
import Derived.HandedShaped
import Derived.LaidMore
import Derived.Lib.SmallJoins
import Derived.OpenShut
import Derived.SevenTiedAt
import Derived.Shelf.Vars
import Derived.SizedLaws
import Derived.Stop.LaidErr
namespace Go.Proofs.YtoanelobggledaaGreatDoor
open Go.RowKit Go.ChangeShapes Go.WideShapes

theorem lifted_sized {H : Type} {enc : TypeId × Value → H} {C : Checked} {os : Os} {f : FuncId} {fn : Func} {s : ChangeSpec} {conds : List PathCond} {X : World → Array Value → Prop}
    (hX : ∀ (w w' : World) (args : Array Value), w.heap = w'.heap → X w args → X w' args)
    (own : ownKnob C.prog.godebug = none) (started : os.Started) (noInit : C.prog.inits.idxOf? f = none) (hfn : C.prog.funcs[f]? = some fn)
    (witness : ∃ (w : World) (tape : Tape) (i : Input), w.os = os ∧ (w.forCall tape i).Shaped C.prog ∧ i.vars = [] ∧ Input.okWide C.prog (w.forCall tape i) .any w.heap.size f i ∧
      ((s.pre enc C.prog fn conds false (w.forCall tape i).memory i.args ∧ X (w.forCall tape i).memory i.args) ∧ sizedMet enc C.prog fn (OpenSpec.ofChange s) false (w.forCall tape i).memory i.args) ∧ Assume.holds {} C.prog (lone (Frame.enter C.prog f i.args .normal) [] (w.forCall tape i)))
    (contract : ∀ (W : World) (base : Nat) (args : Array Value) (ds gs : List (DataW H)) (before : List MemPlace),
      (∀ (j : Nat) t v, fn.params[j]? = some t → args[j]? = some v → Value.okWide C.prog W .any base t v) →
      DataW.Whole enc C.prog fn.params.toList s.vars false W args.toList ds gs before → X W args → W.ShapedOpen C.prog → (DataW.weightsEach C.prog (fn.params.toList ++ s.plain.varTypes C.prog) (ds ++ gs)).all (· ≤ reachBytes) = true →
      Calls C.prog f args W fun e W' => ∃ v, e = .returned v ∧ s.post enc C.prog fn false true false false W args v W') :
    ReturnsInHanded {} C os f .any (fun w args => (s.pre enc C.prog fn conds false w args ∧ X w args) ∧ sizedMet enc C.prog fn (OpenSpec.ofChange s) false w args) (s.post enc C.prog fn false true false false) := by
  refine returnsInHanded_of_calls own started noInit witness ?_
  intro w tape i _ hshape _ hok hpre _
  obtain ⟨_, _, _, fn', hfn', _, _, _, _, hval⟩ := hok
  obtain rfl : fn' = fn := Option.some.inj (hfn'.symm.trans hfn)
  obtain ⟨⟨⟨ds, gs, before, hw, _⟩, hx⟩, hz⟩ := hpre
  refine (contract (w.forCall tape i) w.heap.size i.args ds gs before hval (DataW.Whole.of_heap (w' := w.forCall tape i) (by rfl) hw) (hX _ _ _ (by rfl) hx) hshape (hz.weights hw)).mono fun e W' ⟨v, he, hp⟩ => ?_
  subst he
  exact ChangeSpec.post_blind hp
theorem i64_wf {a : Int} (w : (Lit.int .i64 a).wf = true) : I64 a := by
  simp only [Lit.wf, Bool.and_eq_true, decide_eq_true_eq] at w
  have hmin : IntKind.i64.min = -9223372036854775808 := rfl
  have hmax : IntKind.i64.max = 9223372036854775807 := rfl
  unfold I64; omega
section
variable {H : Type} {enc : TypeId × Value → H} {W : World} {sp : Nat → Bool} {held : Bool} {fuel : Nat}
theorem nilok_some (a : Addr) (n c : Nat) : NilOk (.slice (some a) n c) := fun _ h => by injection h with h; cases h
theorem nilok_nil : NilOk (.slice none 0 0) := fun c h => by injection h with _ _ h; exact h.symm
theorem plain_addr {w : World} {a : Addr} {v : Value} (h : w.cell? (a.add 0) = some v) : ∃ b o, a = ⟨b, o, none⟩ := by
  obtain ⟨b, o, spot⟩ := a
  have hspot : spot = none := by simpa [Addr.add] using World.cell?_spot h
  subst hspot
  exact ⟨b, o, rfl⟩
theorem bin_came {v : Value} {y : DataW H × List MemPlace} (hf : DataW.trod enc Tryz.prog W 0 sp held fuel 25 v.cells.toList = some y) (hv : ∃ x l c, v = .slice x l c) : ∃ l, BIn W v l ∧ NilOk v := by
  obtain ⟨x0, l0, c0, rfl⟩ := hv
  rcases Go.ChangeShapes.open_ints Tryz.underlying25 Tryz.underlying5 (by kernel_rfl) hf with ⟨hcs, _⟩ | ⟨a, len, cap, zs, hcs, _, hl, hm, hz, _, hcell, hwf⟩
  · simp [Value.cells] at hcs
    obtain ⟨rfl, rfl, rfl⟩ := hcs
    exact ⟨[], ⟨none, 0, rfl, Nat.le_refl _, by decide, .inl rfl⟩, nilok_nil⟩
  · simp [Value.cells] at hcs
    obtain ⟨rfl, rfl, rfl⟩ := hcs
    have hzl : l0 ≤ zs.length := by rw [hz]; split <;> omega
    refine ⟨(zs.take l0).map (fun n => UInt8.ofNat n.toNat), ?_, nilok_some _ _ _⟩
    have hlen : ((zs.take l0).map (fun n : Int => UInt8.ofNat n.toNat)).length = l0 := by rw [List.length_map, List.length_take]; omega
    refine ⟨some a, c0, by rw [hlen], by rw [hlen]; exact hl, by unfold maxLen at hm; omega, ?_⟩
    by_cases h0 : l0 = 0
    · left; subst h0; simp
    · right
      obtain ⟨b, o, rfl⟩ := plain_addr (hcell 0 (by omega))
      refine ⟨b, o, rfl, World.block_lt_of_cell? W ⟨b, o, none⟩ (by simpa [Addr.add] using hcell 0 (by omega)), fun j hj => ?_⟩
      rw [hlen] at hj
      have h2 := hcell j (by omega)
      rw [Addr.add_lit] at h2
      rw [h2]
      have hjz : j < zs.length := by omega
      have hw := hwf zs[j] (List.getElem_mem hjz)
      have h1 : IntKind.u8.min = 0 := rfl
      have h3 : IntKind.u8.max = 255 := rfl
      simp only [Lit.wf, Bool.and_eq_true, decide_eq_true_eq] at hw
      rw [List.getD_eq_getElem?_getD, List.getElem?_eq_getElem hjz]
      simp only [Option.getD_some, List.getElem_map, List.getElem_take]
      congr 2
      have : (UInt8.ofNat zs[j].toNat).toNat = zs[j].toNat := by
        rw [UInt8.toNat_ofNat', Nat.mod_eq_of_lt (by omega)]
      rw [this]; omega
theorem fin_came {v : Value} {y : DataW H × List MemPlace} (hf : DataW.trod enc Tryz.prog W 0 sp held fuel 24 v.cells.toList = some y) (hv : ∃ x l c, v = .slice x l c) :
    ∃ fs, FIn W v fs ∧ NilOk v ∧ fs.length ≤ 9223372036854775807 ∧ ∀ f ∈ fs, f.1.length ≤ 9223372036854775807 ∧ f.2.length ≤ 9223372036854775807 := by
  obtain ⟨x0, l0, c0, rfl⟩ := hv
  rcases Go.Deep.open_slice_pairs Tryz.underlying24 Tryz.underlying53 (by kernel_rfl) rfl rfl (by kernel_rfl) (by kernel_rfl) hf with ⟨hcs, _⟩ | ⟨a, len, cap, m, n, V0, V1, D0, D1, P0, P1, hcs, _, hl, hm, hmm, _, hc⟩
  · simp [Value.cells] at hcs
    obtain ⟨rfl, rfl, rfl⟩ := hcs
    exact ⟨[], ⟨none, 0, rfl, .inl rfl⟩, nilok_nil, by decide, fun f h => by cases h⟩
  · simp [Value.cells] at hcs
    obtain ⟨rfl, rfl, rfl⟩ := hcs
    have hml : l0 ≤ m := by rw [hmm]; split <;> omega
    have each : ∀ i, i < l0 → ∃ q : List UInt8 × List UInt8, V0 i = .string (str q.1) ∧ V1 i = .string (str q.2) ∧ q.1.length ≤ 9223372036854775807 ∧ q.2.length ≤ 9223372036854775807 := fun i hi => by
      obtain ⟨_, _, t0, t1⟩ := hc i (by omega)
      obtain ⟨s0, e0, _, z0⟩ := DataW.trod_string Tryz.underlying9 t0
      obtain ⟨s1, e1, _, z1⟩ := DataW.trod_string Tryz.underlying9 t1
      simp at e0 e1
      unfold maxLen at z0 z1
      exact ⟨(s0.data.toList, s1.data.toList), by rw [e0, str_of], by rw [e1, str_of], by show s0.data.toList.length ≤ _; rw [Oct.length_size]; exact z0, by show s1.data.toList.length ≤ _; rw [Oct.length_size]; exact z1⟩
    obtain ⟨q, hq⟩ := Go.Deep.choose_lt each
    have hlen : ((List.range l0).map q).length = l0 := by rw [List.length_map, List.length_range]
    refine ⟨(List.range l0).map q, ⟨some a, c0, by rw [hlen], ?_⟩, nilok_some _ _ _, by rw [hlen]; unfold maxLen at hm; omega, fun f hf => ?_⟩
    · by_cases h0 : l0 = 0
      · left; subst h0; rfl
      · right
        obtain ⟨b, o, rfl⟩ := plain_addr (a := a) (by have := (hc 0 (by omega)).1; simpa using this)
        refine ⟨b, o, rfl, World.block_lt_of_cell? W ⟨b, o, none⟩ (by have := (hc 0 (by omega)).1; simpa [Addr.add] using this), fun j hj => ?_⟩
        rw [hlen] at hj
        obtain ⟨k0, k1, _, _⟩ := hc j (by omega)
        obtain ⟨e0, e1, _, _⟩ := hq j hj
        rw [Addr.add_lit] at k0 k1
        rw [e0] at k0
        rw [e1, ← Nat.add_assoc] at k1
        simp only [List.getElem_map, List.getElem_range]
        exact ⟨k0, k1⟩
    · obtain ⟨i, hi, rfl⟩ := List.mem_map.1 hf
      exact (hq i (List.mem_range.1 hi)).2.2
theorem bytes_cell {u : Value} {y : DataW H × List MemPlace} (hf : DataW.trod enc Tryz.prog W 0 sp held fuel 25 [u] = some y) : ∃ x l c, u = .slice x l c := by
  rcases Go.ChangeShapes.open_ints Tryz.underlying25 Tryz.underlying5 (by kernel_rfl) hf with ⟨hcs, _⟩ | ⟨a, len, cap, zs, hcs, _⟩
  · exact ⟨none, 0, 0, by simpa using hcs⟩
  · exact ⟨some a, len, cap, by simpa using hcs⟩
theorem fields_cell {u : Value} {y : DataW H × List MemPlace} (hf : DataW.trod enc Tryz.prog W 0 sp held fuel 24 [u] = some y) : ∃ x l c, u = .slice x l c := by
  rcases Go.Deep.open_slice_pairs Tryz.underlying24 Tryz.underlying53 (by kernel_rfl) rfl rfl (by kernel_rfl) (by kernel_rfl) hf with ⟨hcs, _⟩ | ⟨a, len, cap, m, n, V0, V1, D0, D1, P0, P1, hcs, _⟩
  · exact ⟨none, 0, 0, by simpa using hcs⟩
  · exact ⟨some a, len, cap, by simpa using hcs⟩
set_option maxRecDepth 100000 in
theorem start_in {v : Value} {y : DataW H × List MemPlace} (hf : DataW.trod enc Tryz.prog W 0 sp held fuel 23 v.cells.toList = some y) (hv : ∃ cs, v = .agg cs ∧ cs.size = Tryz.prog.cellsOf 23) : ∃ a b st c mi, v = .agg #[.string a, .string b, .int .i64 st, .string c, .int .i64 mi] ∧ a.size ≤ 9223372036854775807 ∧ b.size ∈ y.1.weights Tryz.prog 23 ∧ c.size ∈ y.1.weights Tryz.prog 23 := by
  obtain ⟨cs, rfl, hsz⟩ := hv
  have hC : Tryz.prog.cellsOf 23 = 5 := by kernel_rfl
  have c4 : Tryz.prog.cellsOf 4 = 1 := by kernel_rfl
  have c3 : Tryz.prog.cellsOf 3 = 1 := by kernel_rfl
  have c9 : Tryz.prog.cellsOf 9 = 1 := by kernel_rfl
  rw [hC] at hsz
  obtain ⟨xs, n, _, hxe, _, hlen, hel⟩ := DataW.trod_struct Tryz.underlying23 hf
  have hl : xs.length = 5 := hlen
  have weigh : ∀ (j : Nat) (d : DataW H), (xs.map (·.1))[j]? = some d → ∀ n, ([9, 9, 3, 9, 3][j]?).map (fun t => decide (n ∈ d.weights Tryz.prog t)) = some true → n ∈ y.1.weights Tryz.prog 23 := fun j d hd n hn => by
    rw [hxe]
    simp only [DataW.weights, Tryz.underlying23]
    obtain ⟨t, ht, hb⟩ := Option.map_eq_some_iff.1 hn
    exact DataW.weights_mem_each (t := t) ht hd n (of_decide_eq_true hb)
  obtain ⟨l⟩ := cs
  have hll : l.length = 5 := hsz
  have hx : ∀ i, i < 5 → ∃ u, xs[i]? = some u := fun i hi => ⟨_, List.getElem?_eq_getElem (by omega)⟩
  match l, hll with
  | [v0, v1, v2, v3, v4], _ =>
    obtain ⟨u0, x0⟩ := hx 0 (by decide)
    have k0 := (hel 0 _ rfl).trans x0
    obtain ⟨a0, e0, z0, w0⟩ := DataW.trod_string Tryz.underlying9 (by simpa [Value.cells, c4, c3, c9] using k0 : DataW.trod enc Tryz.prog W 0 sp held n 9 [v0] = some u0)
    have e0 : v0 = .string a0 := by simpa using e0
    obtain ⟨u1, x1⟩ := hx 1 (by decide)
    have k1 := (hel 1 _ rfl).trans x1
    obtain ⟨a1, e1, z1, w1⟩ := DataW.trod_string Tryz.underlying9 (by simpa [Value.cells, c4, c3, c9] using k1 : DataW.trod enc Tryz.prog W 0 sp held n 9 [v1] = some u1)
    have e1 : v1 = .string a1 := by simpa using e1
    obtain ⟨u2, x2⟩ := hx 2 (by decide)
    have k2 := (hel 2 _ rfl).trans x2
    obtain ⟨a2, e2, _, w2⟩ := DataW.trod_int Tryz.underlying3 (by simpa [Value.cells, c4, c3, c9] using k2 : DataW.trod enc Tryz.prog W 0 sp held n 3 [v2] = some u2)
    have e2 : v2 = .int .i64 a2 := by simpa using e2
    have b2 := i64_wf w2
    obtain ⟨u3, x3⟩ := hx 3 (by decide)
    have k3 := (hel 3 _ rfl).trans x3
    obtain ⟨a3, e3, z3, w3⟩ := DataW.trod_string Tryz.underlying9 (by simpa [Value.cells, c4, c3, c9] using k3 : DataW.trod enc Tryz.prog W 0 sp held n 9 [v3] = some u3)
    have e3 : v3 = .string a3 := by simpa using e3
    obtain ⟨u4, x4⟩ := hx 4 (by decide)
    have k4 := (hel 4 _ rfl).trans x4
    obtain ⟨a4, e4, _, w4⟩ := DataW.trod_int Tryz.underlying3 (by simpa [Value.cells, c4, c3, c9] using k4 : DataW.trod enc Tryz.prog W 0 sp held n 3 [v4] = some u4)
    have e4 : v4 = .int .i64 a4 := by simpa using e4
    have b4 := i64_wf w4
    subst e0 e1 e2 e3 e4
    exact ⟨_, _, _, _, _, rfl, w0, weigh 1 u1.1 (by simp [x1]) _ (by rw [z1]; simp [DataW.weights]), weigh 3 u3.1 (by simp [x3]) _ (by rw [z3]; simp [DataW.weights])⟩
set_option maxRecDepth 100000 in
theorem msg_came {v : Value} {y : DataW H × List MemPlace} (hf : DataW.trod enc Tryz.prog W 0 sp held fuel 27 v.cells.toList = some y) (hv : ∃ cs, v = .agg cs ∧ cs.size = Tryz.prog.cellsOf 27) (hz : ∀ n ∈ y.1.weights Tryz.prog 27, n ≤ reachBytes) :
    ∃ m : Msg, v = m.val ∧ MOk W m := by
  obtain ⟨cs, rfl, hsz⟩ := hv
  have hC : Tryz.prog.cellsOf 27 = 7 := by kernel_rfl
  have hS : Tryz.prog.cellsOf 23 = 5 := by kernel_rfl
  have cF : Tryz.prog.cellsOf 24 = 1 := by kernel_rfl
  have cB : Tryz.prog.cellsOf 25 = 1 := by kernel_rfl
  rw [hC] at hsz
  obtain ⟨xs, n, _, hxe, _, hlen, hel⟩ := DataW.trod_struct Tryz.underlying27 hf
  have hl : xs.length = 3 := hlen
  obtain ⟨l⟩ := cs
  have hll : l.length = 7 := hsz
  have hx : ∀ i, i < 3 → ∃ u, xs[i]? = some u := fun i hi => ⟨_, List.getElem?_eq_getElem (by omega)⟩
  match l, hll with
  | [v0, v1, v2, v3, v4, v5, v6], _ =>
    obtain ⟨u0, x0⟩ := hx 0 (by decide)
    have k0 := (hel 0 _ rfl).trans x0
    have k0 : DataW.trod enc Tryz.prog W 0 sp held n 23 [v0, v1, v2, v3, v4] = some u0 := by simpa [Value.cells, hS] using k0
    obtain ⟨a, b, s, c, mi, hs, ha, hwb, hwc⟩ := start_in (v := .agg #[v0, v1, v2, v3, v4]) (y := u0) k0 ⟨_, rfl, hS.symm⟩
    obtain ⟨u1, x1⟩ := hx 1 (by decide)
    have k1 := (hel 1 _ rfl).trans x1
    have k1 : DataW.trod enc Tryz.prog W 0 sp held n 24 [v5] = some u1 := by simpa [Value.cells, hS, cF] using k1
    obtain ⟨q, r, z, hq⟩ := fields_cell k1
    subst hq
    obtain ⟨fs, hf1, hf2, hf3, hf4⟩ := fin_came (v := .slice q r z) (y := u1) k1 ⟨q, r, z, rfl⟩
    obtain ⟨u2, x2⟩ := hx 2 (by decide)
    have k2 := (hel 2 _ rfl).trans x2
    have k2 : DataW.trod enc Tryz.prog W 0 sp held n 25 [v6] = some u2 := by simpa [Value.cells, hS, cF, cB] using k2
    obtain ⟨q', r', z', hq'⟩ := bytes_cell k2
    subst hq'
    obtain ⟨x, hb1, hb2⟩ := bin_came (v := .slice q' r' z') (y := u2) k2 ⟨q', r', z', rfl⟩
    have weigh : ∀ n ∈ u0.1.weights Tryz.prog 23, n ≤ 281474976710656 := fun n hn => by
      have h1 : n ∈ y.1.weights Tryz.prog 27 := by
        rw [hxe]
        simp only [DataW.weights, Tryz.underlying27]
        exact DataW.weights_mem_each (j := 0) (t := 23) (d := u0.1) rfl (by simp [x0]) n hn
      have h2 := hz n h1
      unfold reachBytes at h2; omega
    have hb0 := hb1
    obtain ⟨ao, cap, he, h1, h2, _⟩ := hb0
    refine ⟨⟨a, b, c, s, mi, .slice q r z, .slice q' r' z', fs, x.length⟩, ?_, ⟨hf1, ⟨ao, cap, he⟩, hf3, hf4, Nat.le_trans h1 h2, ha, ⟨x, ⟨hb1, hb2⟩, rfl⟩, hf2, weigh _ hwb, weigh _ hwc⟩⟩
    injection hs with hs
    injection hs with hs
    injection hs with e0 hs
    injection hs with e1 hs
    injection hs with e2 hs
    injection hs with e3 hs
    injection hs with e4 hs
    rw [e0, e1, e2, e3, e4]; rfl
set_option maxRecDepth 100000 in
theorem uri_came {v : Value} {y : DataW H × List MemPlace} (hf : DataW.trod enc Tryz.prog W 0 sp held fuel 46 v.cells.toList = some y) (hv : ∃ cs, v = .agg cs ∧ cs.size = Tryz.prog.cellsOf 46) : ∃ u, v = uval u ∧ u.host.length ≤ 9223372036854775807 ∧ u.path.length ≤ 9223372036854775807 ∧ u.port ≤ 9223372036854775807 := by
  obtain ⟨cs, rfl, hsz⟩ := hv
  have hC : Tryz.prog.cellsOf 46 = 3 := by kernel_rfl
  have c3 : Tryz.prog.cellsOf 3 = 1 := by kernel_rfl
  have c9 : Tryz.prog.cellsOf 9 = 1 := by kernel_rfl
  rw [hC] at hsz
  obtain ⟨xs, n, _, _, _, hlen, hel⟩ := DataW.trod_struct Tryz.underlying46 hf
  have hl : xs.length = 3 := hlen
  obtain ⟨l⟩ := cs
  have hll : l.length = 3 := hsz
  have hx : ∀ i, i < 3 → ∃ u, xs[i]? = some u := fun i hi => ⟨_, List.getElem?_eq_getElem (by omega)⟩
  match l, hll with
  | [v0, v1, v2], _ =>
    obtain ⟨u0, x0⟩ := hx 0 (by decide)
    have k0 := (hel 0 _ rfl).trans x0
    obtain ⟨a0, e0, _, w0⟩ := DataW.trod_string Tryz.underlying9 (by simpa [Value.cells, c9] using k0 : DataW.trod enc Tryz.prog W 0 sp held n 9 [v0] = some u0)
    obtain ⟨u1, x1⟩ := hx 1 (by decide)
    have k1 := (hel 1 _ rfl).trans x1
    obtain ⟨a1, e1, _, w1⟩ := DataW.trod_int Tryz.underlying3 (by simpa [Value.cells, c3, c9] using k1 : DataW.trod enc Tryz.prog W 0 sp held n 3 [v1] = some u1)
    obtain ⟨u2, x2⟩ := hx 2 (by decide)
    have k2 := (hel 2 _ rfl).trans x2
    obtain ⟨a2, e2, _, w2⟩ := DataW.trod_string Tryz.underlying9 (by simpa [Value.cells, c3, c9] using k2 : DataW.trod enc Tryz.prog W 0 sp held n 9 [v2] = some u2)
    have e0 : v0 = .string a0 := by simpa using e0
    have e1 : v1 = .int .i64 a1 := by simpa using e1
    have e2 : v2 = .string a2 := by simpa using e2
    subst e0 e1 e2
    have b1 : a1 ≤ 9223372036854775807 := by
      simp only [Lit.wf, Bool.and_eq_true, decide_eq_true_eq] at w1
      have hmax : IntKind.i64.max = 9223372036854775807 := rfl
      omega
    refine ⟨⟨a0.data.toList, a1, a2.data.toList⟩, ?_, ?_, ?_, b1⟩
    · rw [uval_mk, str_of, str_of]
    · unfold maxLen at w0; simpa using w0
    · unfold maxLen at w2; simpa using w2
end
end Go.Proofs.YtoanelobggledaaGreatDoor

