/- RulesInvalidates (P11.5): for every input the law answers true, and each argument reads as it did. Under no condition of its own: the row lists tables of math/bits, strconv, utf8 and of package date (the card ties them). The library's variable internal/bytealg.MaxLen may hold any number. -/
import Derived.Test.YtoanelobggledaaGreatDoorCards
import Derived.Test.YtoanelobggledaaGreatDoorTie
import Derived.Test.YtoanelobggledaaGreatDoorVRlIn
import Derived.Test.YtoanelobggledaaGreatDoorVRpY
import Derived.Test.YtoanelobggledaaGreatDoorVRlA6
import Derived.ChangeOld
import Derived.Lay
import Derived.ProofKit
import Derived.Stop.Joined
namespace Go.Proofs.YtoanelobggledaaGreatDoor.lawRulesInvalidates
open Go.ChangeShapes Go.WideShapes Go.ChangeAt Go.RowKit
open Go.ChangeMaps (open_string shut_string)

theorem own : ownKnob Tryz.prog.godebug = none := by kernel_rfl
theorem laidOut : laidOutB Tryz.prog = true := by kernel_rfl
set_option maxRecDepth 100000 in
theorem lifted (os : Os) (started : os.Started) (H : Type) (enc : TypeId × Value → H) :
    ReturnsInHanded {} Tryz.checked os 6 .any (fun w args => (Rows.rulesInvalidatesSpec.pre enc Tryz.prog Tryz.f6 Rows.rulesInvalidatesRow.domain false w args ∧ laidMetH Tryz.prog Rows.rulesInvalidatesRow.laid w) ∧ sizedMet enc Tryz.prog Tryz.f6 (OpenSpec.ofChange Rows.rulesInvalidatesSpec) false w args)
      (Rows.rulesInvalidatesSpec.post enc Tryz.prog Tryz.f6 false true false false) := by
  refine lifted_sized (C := Tryz.checked) (X := fun w _ => laidMetH Tryz.prog Rows.rulesInvalidatesRow.laid w) (fun _ _ _ hh h => h.of_heap hh) own started (by kernel_rfl) Tryz.func6
    (ChangeSpec.witness_shaped (enc := enc) (C := Tryz.checked) (os := os) (X := fun w _ => laidMetH Tryz.prog Rows.rulesInvalidatesRow.laid w) false (World.laidAll Tryz.prog os Rows.rulesInvalidatesRow.laid) #[.agg #[.string ByteArray.empty, .int .i64 0, .string ByteArray.empty], .agg #[.string ByteArray.empty, .string ByteArray.empty, .int .i64 0, .string ByteArray.empty, .int .i64 0, .slice none 0 0, .slice none 0 0], .agg #[.string ByteArray.empty, .string ByteArray.empty, .int .i64 0, .string ByteArray.empty, .int .i64 0, .slice none 0 0, .slice none 0 0]] 8 (World.laidAll_os _ _ _)
      (World.shaped_of_ZipB (by kernel_rfl) (by kernel_rfl)) (by kernel_rfl) (by kernel_rfl) (by kernel_rfl)
      (by rw [MakeChecks.laidMetH_plain _ _ _ (by kernel_rfl)]; exact laidMet_laidAll _ (by kernel_rfl) (by kernel_rfl))) ?_
  intro W base args ds gs before hval0 hW hL hsh hsz0
  have hsz : (DataW.weightsEach Tryz.prog (Tryz.f6.params.toList ++ Rows.rulesInvalidatesSpec.plain.varTypes Tryz.prog) (ds ++ gs)).all (· ≤ reachBytes) = true := hsz0
  clear hsz0
  have hval : ∀ (j : Nat) t v, Tryz.f6.params[j]? = some t → args[j]? = some v → Value.okWide Tryz.prog W .any base t v := hval0
  have hW' := hW
  obtain ⟨p, q, hA0, hV, rfl, hfz, hnd⟩ := hW
  have hA : DataW.TrodAll enc Tryz.prog W 0 (fun _ => true) true Tryz.f6.params.toList args.toList ds p := hA0
  rw [Tryz.params6] at hA hval hsz
  obtain ⟨v0, vs0, d0, ds0, p0, q0, hargs, rfl, rfl, h0, r0⟩ := trodAll_cons hA
  obtain ⟨v1, vs1, d1, ds1, p1, q1, rfl, rfl, rfl, h1, r1⟩ := trodAll_cons r0
  obtain ⟨v2, vs2, d2, ds2, p2, q2, rfl, rfl, rfl, h2, r2⟩ := trodAll_cons r1
  obtain ⟨rfl, rfl, rfl⟩ := trodAll_nil r2
  obtain rfl : args = #[v0, v1, v2] := by cases args; simp_all
  obtain ⟨rfl, rfl⟩ := trodVars_none hV
  have k0 := h0
  have hs0 : ∃ cs, v0 = .agg cs ∧ cs.size = Tryz.prog.cellsOf 46 := okWide_struct Tryz.underlying46 (hval 0 46 v0 rfl rfl)
  have lt0 : ∀ x ∈ p0, x.block < W.heap.size := by obtain ⟨m, hm⟩ := k0; exact DataW.trod_lt m _ _ _ hm
  obtain ⟨u0, e0, hh0, hp0, ho0⟩ := (by obtain ⟨fuel, hf⟩ := h0; exact uri_came hf hs0 : ∃ u, v0 = uval u ∧ u.host.length ≤ 9223372036854775807 ∧ u.path.length ≤ 9223372036854775807 ∧ u.port ≤ 9223372036854775807)
  subst e0
  have k1 := h1
  have hs1 : ∃ cs, v1 = .agg cs ∧ cs.size = Tryz.prog.cellsOf 27 := okWide_struct Tryz.underlying27 (hval 1 27 v1 rfl rfl)
  have lt1 : ∀ x ∈ p1, x.block < W.heap.size := by obtain ⟨m, hm⟩ := k1; exact DataW.trod_lt m _ _ _ hm
  have hz1 : ∀ n ∈ d1.weights Tryz.prog 27, n ≤ reachBytes := fun n hn => by
    have := List.all_eq_true.1 hsz n (DataW.weights_mem_each (j := 1) (t := 27) (d := d1) rfl rfl n hn)
    simpa using this
  obtain ⟨m1, e1, hm1⟩ := (by obtain ⟨fuel, hf⟩ := h1; exact msg_came hf hs1 hz1 : ∃ m : Msg, v1 = m.val ∧ MOk W m)
  subst e1
  have k2 := h2
  have hs2 : ∃ cs, v2 = .agg cs ∧ cs.size = Tryz.prog.cellsOf 27 := okWide_struct Tryz.underlying27 (hval 2 27 v2 rfl rfl)
  have lt2 : ∀ x ∈ p2, x.block < W.heap.size := by obtain ⟨m, hm⟩ := k2; exact DataW.trod_lt m _ _ _ hm
  have hz2 : ∀ n ∈ d2.weights Tryz.prog 27, n ≤ reachBytes := fun n hn => by
    have := List.all_eq_true.1 hsz n (DataW.weights_mem_each (j := 2) (t := 27) (d := d2) rfl rfl n hn)
    simpa using this
  obtain ⟨m2, e2, hm2⟩ := (by obtain ⟨fuel, hf⟩ := h2; exact msg_came hf hs2 hz2 : ∃ m : Msg, v2 = m.val ∧ MOk W m)
  subst e2
  clear hA0 hval0
  simp only [List.append_nil] at hW'
  rw [MakeChecks.laidMetH_plain _ _ _ (by kernel_rfl)] at hL
  have env := env_of hsh hL
  refine (invalidates_w prog11 u0 m1 m2 W env hh0 hp0 ho0 hm1 hm2).mono fun e W' ⟨he, bel⟩ => ?_
  subst he
  exact ⟨_, rfl, _, _, _, [], _, [], hW', trodAll_mk1 (shut_bool Tryz.underlying4 _), (trodAll_cons_mk (Below.trod laidOut (by kernel_rfl) (of_decide_eq_true (by kernel_rfl)) k0 bel lt0) (trodAll_cons_mk (Below.trod laidOut (by kernel_rfl) (of_decide_eq_true (by kernel_rfl)) k1 bel lt1) (trodAll_cons_mk (Below.trod laidOut (by kernel_rfl) (of_decide_eq_true (by kernel_rfl)) k2 bel lt2) trodAll_mk0))), rfl, bel.frame _, fun h => by cases h⟩
theorem closed : joinedFacts Tryz.prog 6 Tryz.f6 Rows.rulesInvalidatesSpec Rows.rulesInvalidatesRow = true := by kernel_rfl
theorem calledSo : Tryz.prog.funcNamed "icehouse/icehouselaw11.RulesInvalidates" = some 6 := by kernel_rfl
theorem inst : Tryz.f6.isInstance Tryz.prog Rows.rulesInvalidatesRow.origin Rows.rulesInvalidatesRow.targs := of_decide_eq_true (by kernel_rfl)
theorem wrap : Tryz.f6.isWrapper Tryz.prog Rows.rulesInvalidatesRow.wrapper Rows.rulesInvalidatesRow.mainSum := by unfold Func.isWrapper; first | (rw [if_pos (by decide +kernel)]; kernel_rfl) | (rw [if_neg (by decide +kernel)]; exact ⟨rfl, rfl⟩)
theorem said : Rows.RulesInvalidatesSaid :=
  OpenClaim.holds_of_wide 6 Tryz.f6 rfl rfl rfl rfl rfl rfl rfl ⟨rfl, rfl, rfl, rfl, rfl⟩ rfl rfl rfl rfl rfl calledSo Tryz.func6 closed inst wrap
    (fun os started H enc _ => lifted os started H enc)
theorem plain (f : FuncId) (fn : Func) (hf : Tryz.pinned.checked.prog.funcNamed "icehouse/icehouselaw11.RulesInvalidates" = some f) (hfn : Tryz.pinned.checked.prog.funcs[f]? = some fn) :
    false = Tryz.pinned.checked.prog.looks [] ∧ ∀ (j : Nat) t, fn.params[j]? = some t → Tryz.pinned.checked.prog.wantsStandIn t = false := by
  obtain rfl : f = 6 := Option.some.inj ((show Tryz.prog.funcNamed "icehouse/icehouselaw11.RulesInvalidates" = some 6 by kernel_rfl).symm.trans hf) |>.symm
  obtain rfl : fn = Tryz.f6 := (Option.some.inj (Tryz.func6.symm.trans hfn)).symm
  refine ⟨by kernel_rfl, fun j t ht => ?_⟩
  rw [Tryz.params6] at ht
  have hm : t ∈ [46, 27, 27] := by simpa using Array.mem_of_getElem? ht
  have hall : ([46, 27, 27].all fun u => !Tryz.prog.wantsStandIn u) = true := by kernel_rfl
  exact (show Tryz.prog.wantsStandIn t = false by simpa using List.all_eq_true.1 hall t hm)
theorem card : Rows.RulesInvalidatesCardSaid :=
  Claim7.holds_tied_plain_at .later [] _ _ _ _ said (fun _ h => by cases h) (by kernel_rfl) (fun _ h => by cases h) rulesInvalidates_row_tie rfl ⟨rfl, rfl⟩ (by kernel_rfl) rfl plain (by kernel_rfl)
#print axioms card
end Go.Proofs.YtoanelobggledaaGreatDoor.lawRulesInvalidates

