/- The program's map in memory: Hold, Give, New; the whole package as the pack says. -/
import Derived.Test.YtgfgafondiipoaaSvL
namespace Go.Proofs.Ytgfgafondiipoaa
open Go.RowKit Go.Shelf

theorem cov_in {es : List Sp.Ext} {n : Nat} (hr : ∀ e ∈ es, Sp.RightE n e) {i : Nat} (h : Sp.Cov (es.map Sp.er) i) : ∃ e ∈ es, Sp.In e i ∧ i < n := by
  obtain ⟨r, hr2, h1, h2⟩ := h
  obtain ⟨e, he, rfl⟩ := List.mem_map.1 hr2
  obtain ⟨r1, r2, r3, r4⟩ := hr e he
  unfold Sp.er at h1 h2
  simp only at h1 h2
  exact ⟨e, he, by unfold Sp.In; omega, by omega⟩
set_option maxHeartbeats 1600000 in
set_option maxRecDepth 100000 in
open Classical in
theorem pHold_w (w : World) (q b : Nat) (m : Sp.M) (v : Value) (es : List Sp.Ext) (h : PD w q b m) (hv : EsOut (PF q b) w v es) (hi64 : ∀ e ∈ es, I64 e.1 ∧ I64 e.2) (hel : es.length ≤ 1000) :
    Calls Try.prog 16 #[.pointer (some ⟨q, 0, none⟩), v] w fun e w' => e = .returned (.bool (Sp.hold es m).2) ∧ PD w' q b (Sp.hold es m).1 ∧ Touch (PF q b) w w' := by
  have cA := all_free w q b m v es h hv hi64 hel
  have HP := Lib.hid h
  have HV := Lib.hid hv
  obtain ⟨R, hR⟩ : ∃ R, R = Sp.hold es m := ⟨_, rfl⟩
  have HR := Lib.hid hR
  rw [← hR]
  clear h hv hi64 hel hR
  by_cases hc : Sp.CanHold m es
  · rw [decide_eq_true hc] at cA
    have HC := Lib.hid hc
    clear hc
    go_enter Try.func16, Try.ntmps16
    go_wp2_with fail
    refine cA.mono ?_
    rintro e w1 ⟨rfl, hb1⟩
    have HB1 := Lib.hid hb1
    clear cA hb1
    go_wp2_with fail
    refine (into_w true false false w1).mono ?_
    rintro e w2 ⟨rfl, hg2, hb2⟩
    have hP1 := HP.out.later HB1.out
    have cT := turnI_w w2 q b m v es (hP1.later hb2) ((HV.out.later HB1.out).later hb2) HC.out.1.1 w1.heap.size (1, false) true false false rfl (by decide) hg2 (fun hf => by have := hP1.lt _ hf; omega)
    have HB2 := Lib.hid (bt5 HB1.out hb2)
    clear hg2 hb2 hP1
    go_wp2_with fail
    refine cT.mono ?_
    rintro e w3 ⟨rfl, hP3, hT3⟩
    have HE := Lib.hid (And.intro hP3 hT3)
    clear cT hP3 hT3
    go_wp2_with fail
    go_ret
    have hf : Sp.puts (fun _ => (1, false)) (es.map Sp.er) m = Sp.puts Sp.held (es.map Sp.er) m := puts_const (fun _ => rfl) (fun i c hc hm => by
      obtain ⟨e, he, hin, hi⟩ := cov_in HC.out.1.1 hc
      have h0 := HC.out.2 e he i hi hin
      obtain ⟨hi2, hcm⟩ := List.getElem?_eq_some_iff.1 hm
      rw [hcm] at h0
      have := (HP.out.inv _ (List.mem_of_getElem? hm)).2 h0
      unfold Sp.held
      rw [this])
    have e : R = (Sp.puts Sp.held (es.map Sp.er) m, true) := by rw [HR.out]; unfold Sp.hold; rw [if_pos HC.out]
    rw [e, ← hf]
    exact ⟨rfl, HE.out.1, (Touch.of HB2.out).trans HE.out.2⟩
  · rw [decide_eq_false hc] at cA
    have HC := Lib.hid hc
    clear hc
    go_enter Try.func16, Try.ntmps16
    go_wp2_with fail
    refine cA.mono ?_
    rintro e w1 ⟨rfl, hb1⟩
    have HB1 := Lib.hid hb1
    clear cA hb1
    go_wp2_with fail
    go_ret
    have e : R = (m, false) := by rw [HR.out]; unfold Sp.hold; rw [if_neg HC.out]
    rw [e]
    exact ⟨rfl, HP.out.later HB1.out, Touch.of HB1.out⟩
set_option maxHeartbeats 1600000 in
set_option maxRecDepth 100000 in
open Classical in
theorem pGive_w (w : World) (q b : Nat) (m : Sp.M) (v : Value) (es : List Sp.Ext) (h : PD w q b m) (hv : EsOut (PF q b) w v es) (hi64 : ∀ e ∈ es, I64 e.1 ∧ I64 e.2) (hel : es.length ≤ 1000) :
    Calls Try.prog 18 #[.pointer (some ⟨q, 0, none⟩), v] w fun e w' => e = .returned (.bool (Sp.give es m).2) ∧ PD w' q b (Sp.give es m).1 ∧ Touch (PF q b) w w' := by
  have cA := all_taken w q b m v es h hv hi64 hel
  have HP := Lib.hid h
  have HV := Lib.hid hv
  obtain ⟨R, hR⟩ : ∃ R, R = Sp.give es m := ⟨_, rfl⟩
  have HR := Lib.hid hR
  rw [← hR]
  clear h hv hi64 hel hR
  by_cases hc : Sp.CanGive m es
  · rw [decide_eq_true hc] at cA
    have HC := Lib.hid hc
    clear hc
    go_enter Try.func18, Try.ntmps18
    go_wp2_with fail
    refine cA.mono ?_
    rintro e w1 ⟨rfl, hb1⟩
    have HB1 := Lib.hid hb1
    have cT := turnW_w w1 q b m v es (HP.out.later hb1) (HV.out.later hb1) HC.out.1.1 (fun e he i hi hin => (HC.out.2 e he i hi hin).1)
    clear cA hb1
    go_wp2_with fail
    refine cT.mono ?_
    rintro e w3 ⟨rfl, hP3, hT3⟩
    have HE := Lib.hid (And.intro hP3 hT3)
    clear cT hP3 hT3
    go_wp2_with fail
    go_ret
    have e : R = (Sp.puts Sp.wait (es.map Sp.er) m, true) := by rw [HR.out]; unfold Sp.give; rw [if_pos HC.out]
    rw [e]
    exact ⟨rfl, HE.out.1, (Touch.of HB1.out).trans HE.out.2⟩
  · rw [decide_eq_false hc] at cA
    have HC := Lib.hid hc
    clear hc
    go_enter Try.func18, Try.ntmps18
    go_wp2_with fail
    refine cA.mono ?_
    rintro e w1 ⟨rfl, hb1⟩
    have HB1 := Lib.hid hb1
    clear cA hb1
    go_wp2_with fail
    go_ret
    have e : R = (m, false) := by rw [HR.out]; unfold Sp.give; rw [if_neg HC.out]
    rw [e]
    exact ⟨rfl, HP.out.later HB1.out, Touch.of HB1.out⟩
theorem sector_info : (Try.prog.info? 62).map (fun i => (i.zero, i.size, i.bytes)) = some (some (.agg #[.bool false, .bool false, .bool false]), 3, 3) := by kernel_rfl
theorem pcs_new (n : Nat) : (pcs (Sp.new n)).toArray = madeCells #[.bool false, .bool false, .bool false] (n * 3) := by
  apply Array.ext_getElem?
  intro i
  have hl := pcs_length (Sp.new n)
  have hn : (Sp.new n).length = n := Sp.rep_length ..
  rw [hn] at hl
  by_cases hi : i < n * 3
  · have h1 := pcs_at (Sp.new n) (i / 3) (by omega)
    have hc : (Sp.new n)[i / 3]'(by omega) = (0, false) := Sp.rep_mem (List.getElem_mem _)
    rw [hc] at h1
    have hz : ∀ j, j < 3 → (pcs (Sp.new n))[i / 3 * 3 + j]? = some (.bool false) := fun j hj => by
      rcases (by omega : j = 0 ∨ j = 1 ∨ j = 2) with rfl | rfl | rfl
      · exact h1.1
      · exact h1.2.1
      · exact h1.2.2
    have h2 := hz (i % 3) (Nat.mod_lt _ (by decide))
    rw [show i / 3 * 3 + i % 3 = i from by omega] at h2
    rw [List.getElem?_toArray, h2, Array.getElem?_eq_getElem (by rw [size_madeCells]; exact hi)]
    congr 1
    simp only [madeCells]
    rcases (by omega : i % 3 = 0 ∨ i % 3 = 1 ∨ i % 3 = 2) with h | h | h <;> simp [h]
  · rw [List.getElem?_toArray, List.getElem?_eq_none (by omega), Array.getElem?_eq_none (by rw [size_madeCells]; omega)]
set_option maxHeartbeats 1600000 in
set_option maxRecDepth 100000 in
theorem pNew_w (n : Nat) (w : World) (h1 : 1 ≤ n) (h2 : n ≤ 65536) :
    Calls Try.prog 8 #[.int .i64 (n : Int)] w fun e w' => ∃ q b, e = .returned (.tuple #[.pointer (some ⟨q, 0, none⟩), .int .i64 0]) ∧ PD w' q b (Sp.new n) ∧ Below w.heap.size w w' ∧ (∀ k, PF q b k → w.heap.size ≤ k) := by
  obtain ⟨i, hi, hzz⟩ := Option.map_eq_some_iff.1 sector_info
  simp only [Prod.mk.injEq] at hzz
  obtain ⟨hz0, hz1, hz2⟩ := hzz
  have hmk : ∀ W : World, (Instr.makeSlice 49 (.int .i64 (n : Int)) (.int .i64 (n : Int))).run Try.prog W = .ok (.slice (some ⟨W.heap.size, 0, none⟩) n n) (W.alloc (.cells (madeCells #[.bool false, .bool false, .bool false] (n * 3)) 62)) := fun W => by
    have hr := run_make (P := Try.prog) W 49 62 i _ Try.underlying49 hi hz0 .i64 .i64 n n (by omega) (Int.le_refl _) (by rw [hz2]; omega) (by omega)
    simp only [Int.toNat_natCast, hz1] at hr
    exact hr
  have HS := Lib.hid (pcs_new n)
  have HN : Hid ((Sp.new n).length = n) := Lib.hid (Sp.rep_length ..)
  generalize madeCells #[.bool false, .bool false, .bool false] (n * 3) = cs at hmk HS
  have g1 : ¬ (n : Int) < 1 := by omega
  have g2 : ¬ (65536 : Int) < n := by omega
  have hb : ∀ C, Below w.heap.size w ((w.alloc (.cells cs 62)).alloc C) := fun C => ((Below.refl _ w).alloc (Nat.le_refl _) _).alloc (by simp) _
  have hA := fun C => Below.heap_alloc (w.alloc (.cells cs 62)) C w.heap.size (by simp)
  clear hi hz0 hz1 hz2
  go_enter Try.func8, Try.ntmps8
  go_wp2_with fail
  go_ret2
  refine ⟨w.heap.size + 1, rfl, w.heap.size, ⟨?_, ?_, ?_, ?_⟩, hb _, ?_⟩
  · rw [HN.out]; exact two_new _ _ _
  · rw [HS.out, hA]; exact heap_alloc_new w _
  · rw [HN.out]; exact h2
  · intro c hc
    rw [Sp.rep_mem hc]; decide
  · rintro k (rfl | rfl) <;> omega
set_option maxRecDepth 100000 in
theorem pNew_no (n : Int) (w : World) (h : ¬ (1 ≤ n ∧ n ≤ 65536)) :
    Calls Try.prog 8 #[.int .i64 n] w fun e w' => e = .returned (.tuple #[.pointer none, .int .i64 2]) ∧ Below w.heap.size w w' := by
  by_cases h1 : n < 1
  · clear h
    go_enter Try.func8, Try.ntmps8
    go_wp2_with fail
    go_ret2
    exact ⟨rfl, Below.refl _ _⟩
  · have h2 : (65536 : Int) < n := by omega
    clear h
    go_enter Try.func8, Try.ntmps8
    go_wp2_with fail
    go_ret2
    exact ⟨rfl, Below.refl _ _⟩

/-! ### the pack -/
def Map16 (w : World) (q : Nat) (m : Sp.M) (F : Nat → Prop) : Prop := ∃ b, PD w q b m ∧ F = PF q b
theorem more_same (F : Nat → Prop) (w : World) : More F F w := fun _ hk => .inl hk
theorem prog16 : Prog16 (fun _ => True) Map16 where
  env _ _ := trivial
  lt h := by obtain ⟨b, hP, rfl⟩ := h; exact hP.lt
  keep h _ hk := by obtain ⟨b, hP, rfl⟩ := h; exact ⟨b, hP.keep hk, rfl⟩
  new n w h1 h2 _ := by
    obtain ⟨k, rfl⟩ : ∃ k : Nat, n = k := ⟨n.toNat, by omega⟩
    refine (pNew_w k w (by omega) (by omega)).mono ?_
    rintro e w' ⟨q, b, rfl, hP, hb, hF⟩
    exact ⟨q, _, rfl, ⟨b, hP, rfl⟩, hb, hF⟩
  new_no n w h _ _ := pNew_no n w h
  take q m F n w h _ _ _ := by
    obtain ⟨b, hP, rfl⟩ := h
    refine (pTake_w q b m n w hP).mono ?_
    rintro e w' ⟨rfl, hP', hT⟩
    exact ⟨_, rfl, ⟨b, hP', rfl⟩, hT, more_same _ _⟩
  pieces q m F n most w h _ hn _ _ := by
    obtain ⟨b, hP, rfl⟩ := h
    refine (callsIn_wide.1 (pieces_in 6 (by decide) q b m n most w hP hn)).mono ?_
    rintro e w' ⟨v, rfl, hP', hT, hE, hN⟩
    exact ⟨_, v, rfl, ⟨b, hP', rfl⟩, hT, more_same _ _, hE, hN⟩
  hold q m F v es w h _ hv hi hl _ := by
    obtain ⟨b, hP, rfl⟩ := h
    refine (pHold_w w q b m v es hP hv hi hl).mono ?_
    rintro e w' ⟨rfl, hP', hT⟩
    exact ⟨_, rfl, ⟨b, hP', rfl⟩, hT, more_same _ _⟩
  give q m F v es w h _ hv hi hl _ := by
    obtain ⟨b, hP, rfl⟩ := h
    refine (pGive_w w q b m v es hP hv hi hl).mono ?_
    rintro e w' ⟨rfl, hP', hT⟩
    exact ⟨_, rfl, ⟨b, hP', rfl⟩, hT, more_same _ _⟩
  commit q m F w h _ _ := by
    obtain ⟨b, hP, rfl⟩ := h
    refine (pCommit_w w q b m hP).mono ?_
    rintro e w' ⟨rfl, hP', hT⟩
    exact ⟨_, _, rfl, ⟨b, hP', rfl⟩, hT, more_same _ _⟩
  abort q m F w h _ _ := by
    obtain ⟨b, hP, rfl⟩ := h
    refine (pAbort_w w q b m hP).mono ?_
    rintro e w' ⟨rfl, hP', hT⟩
    exact ⟨_, _, rfl, ⟨b, hP', rfl⟩, hT, more_same _ _⟩
  free q m F w h _ _ := by
    obtain ⟨b, hP, rfl⟩ := h
    refine (pFree_w w q b m hP).mono ?_
    rintro e w' ⟨rfl, hb⟩
    exact ⟨_, rfl, ⟨b, hP.later hb, rfl⟩, Touch.of hb, more_same _ _⟩
  waiting q m F w h _ _ := by
    obtain ⟨b, hP, rfl⟩ := h
    refine (pWaiting_w w q b m hP).mono ?_
    rintro e w' ⟨rfl, hb⟩
    exact ⟨_, rfl, ⟨b, hP.later hb, rfl⟩, Touch.of hb, more_same _ _⟩
  runs q m F w h _ _ := by
    obtain ⟨b, hP, rfl⟩ := h
    refine (pRuns_w q b m w hP).mono ?_
    rintro e w' ⟨v, rfl, hb, hE⟩
    exact ⟨_, v, rfl, ⟨b, hP.later hb, rfl⟩, Touch.of hb, more_same _ _, hE.outF hP.lt⟩
end Go.Proofs.Ytgfgafondiipoaa
