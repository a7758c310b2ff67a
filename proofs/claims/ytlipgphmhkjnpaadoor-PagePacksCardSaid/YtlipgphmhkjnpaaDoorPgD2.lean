/- The document's own device (layer 13): See, Fail, Read. -/
import Derived.Test.YtlipgphmhkjnpaaDoorPgD1
import Derived.Lib.AppendZerosOnto
namespace Go.Proofs.YtlipgphmhkjnpaaDoor
open Go.RowKit

theorem RMed.wcell {w : World} {g B : Nat} {F : Nat → Prop} {vs vw vb : Value} {us : List Value} {ws : List (Nat × Value)} {d : Dv.S} (h : RMed w g F B vs vw vb us ws d) (k : Nat) (hk : k < ws.length) : ∃ b c, vw = .slice (some ⟨b, 0, none⟩) ws.length c ∧ w.cell? ⟨b, k * 2, none⟩ = some (.int .i64 (ws[k].1 : Int)) ∧ w.cell? ⟨b, k * 2 + 1, none⟩ = some ws[k].2 := by
  rcases h.wait.2 with ⟨_, h0⟩ | ⟨b, cap, cur, hv, _, hh, h1, h2, h3, h4⟩
  · omega
  · refine ⟨b, cap, hv, ?_, ?_⟩
    · have e := Dv.flat_at (f := rwcells) (c := 2) (ls := ws) (fun x _ => rfl) k 0 hk (by decide)
      rw [← h4, List.getElem?_take_of_lt (by omega)] at e
      simp only [World.cell?, hh]
      simpa [rwcells] using e
    · have e := Dv.flat_at (f := rwcells) (c := 2) (ls := ws) (fun x _ => rfl) k 1 hk (by decide)
      rw [← h4, List.getElem?_take_of_lt (by omega)] at e
      simp only [World.cell?, hh]
      simpa [rwcells] using e
theorem RMed.scell {w : World} {g B : Nat} {F : Nat → Prop} {vs vw vb : Value} {us : List Value} {ws : List (Nat × Value)} {d : Dv.S} (h : RMed w g F B vs vw vb us ws d) (k : Nat) (hk : k < us.length) : ∃ b c, vs = .slice (some ⟨b, 0, none⟩) us.length c ∧ w.cell? ⟨b, k, none⟩ = some us[k] ∧ w.frozen? ⟨b, k, none⟩ = false ∧ ∃ C : Array Value, w.heap[b]? = some (.cells C 23 (0, 0)) := by
  rcases h.safe.2 with ⟨_, h0⟩ | ⟨b, cap, cur, hv, _, hh, h1, h2, h3, h4⟩
  · omega
  · refine ⟨b, cap, hv, ?_, by simp only [World.frozen?, hh]; simp, cur, hh⟩
    have e : (cur.toList.take (us.length * 1))[k]? = us[k]? := by rw [h4]
    rw [List.getElem?_take_of_lt (by omega), List.getElem?_eq_getElem hk] at e
    simp only [World.cell?, hh]
    simpa using e

set_option maxHeartbeats 1600000 in
set_option maxRecDepth 100000 in
theorem rsee_w (w : World) (g B : Nat) (F : Nat → Prop) (vs vw vb : Value) (us : List Value) (ws : List (Nat × Value)) (d : Dv.S) (h : RMed w g F B vs vw vb us ws d) (i : Nat) (hi : i < d.safe.length) (hw : d.wait.length ≤ 100000) :
    Calls Tryd.prog 39 #[.pointer (some ⟨g, 0, none⟩), .int .i64 (i : Int)] w fun e w' => ∃ v, e = .returned v ∧ OIn F w v (Dv.see d i) ∧ w = w' := by
  have c0 := h.c0
  have c1 := h.c1
  have HH := Lib.hid h
  obtain ⟨⟨a0, z0, rfl, hz0, hz09⟩, ⟨a1, z1, rfl, hz1, hz19⟩, _⟩ := h.shapes
  obtain ⟨m, hm⟩ : ∃ m, m = d.wait.length := ⟨_, rfl⟩
  have HM := Lib.hid hm
  obtain ⟨n, hn⟩ : ∃ n, n = d.safe.length := ⟨_, rfl⟩
  have HN := Lib.hid hn
  rw [← hm] at c1 hz1 hw
  rw [← hn] at c0 hz0 hi
  have hwr : IntKind.i64.wrap ((m : Int) - 1) = (m : Int) - 1 := by rw [IntKind.wrap_i64]; omega
  clear h hm hn
  go_enter Tryd.func39, Tryd.ntmps39
  go_wp2_with fail
  go_loopw [5] (fun u wr => ∃ z : Int, u = .int .i64 z ∧ -1 ≤ z ∧ z < m ∧ wr = w ∧ Hid (∀ j (hj : j < d.wait.length), z < (j : Int) → d.wait[j].1 ≠ i)) (fun u _ => (intOf u + 1).toNat)
  case atStart => exact ⟨(m : Int) - 1, rfl, by omega, by omega, rfl, Lib.hid (fun j hj h => by have := HM.out; omega)⟩
  case round =>
    obtain ⟨z, rfl, hz9, hzm, rfl, HA⟩ := hrel
    by_cases hz : 0 ≤ z
    · obtain ⟨k, rfl⟩ : ∃ k : Nat, z = (k : Int) := ⟨z.toNat, by omega⟩
      have hkm : k < m := by omega
      have hk1 : k < ws.length := by rw [HH.out.lws, ← HM.out]; exact hkm
      have hk2 : k < d.wait.length := by rw [← HM.out]; exact hkm
      obtain ⟨b, c, hv, q1, q2⟩ := HH.out.wcell k hk1
      injection hv with hv _ hv3
      subst hv hv3
      obtain ⟨e1, e2⟩ := HH.out.wts k hk1 hk2
      have HS : Hid (d.wait[k].1 = i → ∃ v, v = ws[k].2 ∧ OIn F wr v (Dv.see d i)) := Lib.hid (fun h => ⟨_, rfl, by
        unfold Dv.see
        rw [Dv.last_at d.safe d.wait i k hk2 h (fun j hj hjk => HA.out j hj (by omega))]
        exact e2⟩)
      have HNX : Hid (d.wait[k].1 ≠ i → ∀ j (hj : j < d.wait.length), (k : Int) - 1 < (j : Int) → d.wait[j].1 ≠ i) := Lib.hid (fun h j hj hjk => by
        by_cases e : j = k
        · subst e; exact h
        · exact HA.out j hj (by omega))
      have hwk : IntKind.i64.wrap ((k : Int) - 1) = (k : Int) - 1 := by rw [IntKind.wrap_i64]; omega
      have hk9 : (k : Int) < m := hzm
      rw [e1] at q1
      generalize ws[k].2 = v at q2 HS
      clear e1 e2 hz
      generalize d.wait[k].1 = p at q1 HS HNX
      by_cases hp : p = i
      · have hpe : ((p : Int) == i) = true := by rw [hp]; exact beq_self_eq_true _
        obtain ⟨v2, hv2, ho⟩ := HS.out hp
        have HO := Lib.hid ho
        subst hv2
        have hpi : (p : Int) = i := by omega
        obtain ⟨b9, o9, c9, C9, f9, hv9, _⟩ := id ho
        subst hv9
        clear HS HNX ho
        go_wp2_with fail
        go_ret
        exact ⟨_, rfl, HO.out, rfl⟩
      · have hpe : ((p : Int) == i) = false := beq_eq_false_iff_ne.2 (by omega)
        have hpi : ¬ (p : Int) = i := by omega
        have HZ := Lib.hid (HNX.out hp)
        clear HS HNX
        go_wp2_with fail
        go_roundw
        case rel => exact ⟨(k : Int) - 1, rfl, by omega, by omega, trivial, HZ⟩
        case measure => simp [intOf]
    · have hzn : ¬ 0 ≤ z := hz
      have hi1 : i < us.length := by rw [HH.out.lus, ← HN.out]; exact hi
      have hi2 : i < d.safe.length := by rw [← HN.out]; exact hi
      obtain ⟨b, c, hv, q1, -, -⟩ := HH.out.scell i hi1
      injection hv with hv _ hv3
      subst hv hv3
      have ho := HH.out.sec i hi1 hi2
      have hse : Dv.see d i = d.safe[i] := by
        unfold Dv.see Dv.last
        have hh : ∀ (l : List (Nat × Dv.Sec)) (x : Dv.Sec), (∀ w ∈ l, w.1 ≠ i) → l.foldl (fun x w => if w.1 = i then w.2 else x) x = x := by
          intro l
          induction l with
          | nil => intro x _; rfl
          | cons y l ih => intro x hm; rw [List.foldl_cons, if_neg (hm y (List.mem_cons_self ..))]; exact ih x (fun u hu => hm u (List.mem_cons_of_mem _ hu))
        rw [hh _ _ (fun y hy => by
          obtain ⟨j, hj, rfl⟩ := List.getElem_of_mem hy
          exact HA.out j hj (by omega)), List.getD_eq_getElem?_getD, List.getElem?_eq_getElem hi2]
        rfl
      rw [← hse] at ho
      have hin : (i : Int) < n := by omega
      generalize us[i] = v at q1 ho
      have HO := Lib.hid ho
      obtain ⟨b9, o9, c9, C9, f9, hv9, _⟩ := id ho
      subst hv9
      clear ho hse
      go_wp2_with fail
      go_ret
      exact ⟨_, rfl, HO.out, rfl⟩

set_option maxHeartbeats 1600000 in
set_option maxRecDepth 100000 in
theorem rfail_w (w : World) (g B : Nat) (F : Nat → Prop) (vs vw vb : Value) (us : List Value) (ws : List (Nat × Value)) (d : Dv.S) (h : RMed w g F B vs vw vb us ws d) (v : Value) (l : List Int) (hv : IBad B w v l) :
    Calls Tryd.prog 24 #[.pointer (some ⟨g, 0, none⟩), v] w fun e w' => e = .returned (.tuple #[]) ∧ Touch (fun k => k = g) w w' ∧ RMed w' g F B vs vw v us ws (Dv.fail d l) := by
  have c2 := h.c2
  have c3 := h.c3
  have f2 := h.free 2
  have f3 := h.free 3
  have hb1 := heap_setCell_same w g 2 _ _ (.int .i64 0) h.blk
  have hb2 := heap_setCell_same _ g 3 _ _ v hb1
  have ht : Touch (fun k => k = g) w ((w.setCell ⟨g, 2, none⟩ (.int .i64 0)).setCell ⟨g, 3, none⟩ v) := (Touch.cell (F := fun k => k = g) rfl 2 _).trans (Touch.cell (F := fun k => k = g) rfl 3 _)
  have HX : Hid (RMed ((w.setCell ⟨g, 2, none⟩ (.int .i64 0)).setCell ⟨g, 3, none⟩ v) g F B vs vw v us ws (Dv.fail d l)) := Lib.hid (h.block (d' := Dv.fail d l) hb2 ht rfl rfl (hv.keep ht.size (fun k hkB hks => ht.block k hks (fun e => by have := h.hB g h.hg; omega))) h.left)
  have HT := Lib.hid ht
  obtain ⟨av, cv, rfl, _⟩ := hv
  clear hb1 hb2 ht h
  go_enter Tryd.func24, Tryd.ntmps24
  go_wp2_with fail
  go_end0
  exact ⟨rfl, HT.out, HX.out⟩
end Go.Proofs.YtlipgphmhkjnpaaDoor
