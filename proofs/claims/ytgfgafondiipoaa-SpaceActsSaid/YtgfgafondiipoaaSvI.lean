/- The program's map in memory: Take. -/
import Derived.Test.YtgfgafondiipoaaSvH
import Derived.Test.YtgfgafondiipoaaSpD5
import Derived.Test.YtgfgafondiipoaaRelIn
namespace Go.Proofs.Ytgfgafondiipoaa
open Go.RowKit Go.Shelf
attribute [local go_sem] Oper.semAt_some

theorem keeps_below {A B : World} (h : Below A.heap.size A B) : KeepsOthers A B := ⟨h.size, fun k _ hk _ => (h.block k (Array.getElem?_eq_some_iff.1 hk).1).trans hk⟩
theorem keeps_touch {G : Nat → Prop} {A B : World} (h : Touch G A B) (hG : ∀ k o, G k → A.heap[k]? = some o → o.isCells = true) : KeepsOthers A B :=
  ⟨h.size, fun k o hk ho => (h.block k (Array.getElem?_eq_some_iff.1 hk).1 (fun hf => by rw [hG k o hf hk] at ho; cases ho)).trans hk⟩
theorem PD.cells_at {w : World} {q b : Nat} {m : Sp.M} (h : PD w q b m) {k : Nat} {o : Obj} (hk : PF q b k) (ho : w.heap[k]? = some o) : o.isCells = true := by
  rcases hk with rfl | rfl
  · rw [h.blk] at ho; cases ho; rfl
  · rw [h.st] at ho; cases ho; rfl
theorem PD.grown {w w' : World} {q b : Nat} {m : Sp.M} {row : Option Nat} (h : PD w q b m) (hg : w.grownBy w' row) (hr : ∀ r, row = some r → ∃ o : Obj, w.heap[r]? = some o ∧ o.isCells = false) : PD w' q b m :=
  h.keep (fun k hk => hg.block k (h.lt k hk) (fun e => by
    obtain ⟨o, ho, hc⟩ := hr k e.symm
    rw [h.cells_at hk ho] at hc; cases hc))
theorem Touch.more_ {F : Nat → Prop} {a b c : World} {row : Option Nat} (h : Touch F a b) (hg : b.grownBy c row) (hr : ∀ r, row = some r → a.heap.size ≤ r) : Touch F a c :=
  ⟨hg.os.trans h.os, hg.tape.trans h.tape, hg.output.trans h.output, Nat.le_trans h.size hg.size, fun k hk hn => (hg.block k (Nat.lt_of_lt_of_le hk h.size) (fun e => by have := hr k e.symm; omega)).trans (h.block k hk hn)⟩
theorem block_grown {w w' : World} {k : Nat} {C : Array Value} {T : TypeId} {f : Nat × Nat} {row : Option Nat} (h : w.heap[k]? = some (.cells C T f)) (hg : w.grownBy w' row) (hr : ∀ r, row = some r → ∃ o : Obj, w.heap[r]? = some o ∧ o.isCells = false) : w'.heap[k]? = some (.cells C T f) :=
  (hg.block k (lt_of_block h) (fun e => by
    obtain ⟨o, ho, hc⟩ := hr k e.symm
    rw [h] at ho; cases ho; cases hc)).trans h
/-- What Take has done when a run was wide enough: the round's leave. -/
def Took (w : World) (q b g2 g3 : Nat) (m : Sp.M) (z : Int) (pre : List (RunIn m)) (W : World) : Prop :=
  ∃ (p0 : List (RunIn m)) (x : RunIn m), pre = p0 ++ [x] ∧ (∀ e ∈ rns p0, ¬ z ≤ (e.2 : Int)) ∧ z ≤ (x.1.2 : Int) ∧ PD W q b (Sp.put x.1.1 z.toNat (fun _ => (2, false)) m) ∧ Touch (PF q b) w W ∧
    W.heap[g2]? = some (.cells #[.int .i64 (x.1.1 : Int), .int .i64 z] 35 (0, 0)) ∧ W.heap[g3]? = some (.cells #[.bool true] 4 (0, 0))
theorem Took.grown {w : World} {q b g2 g3 : Nat} {m : Sp.M} {z : Int} {pre : List (RunIn m)} {A B : World} {row : Option Nat} (h : Took w q b g2 g3 m z pre A) (hg : A.grownBy B row) (hw : ∀ r, row = some r → w.heap.size ≤ r) (hr : ∀ r, row = some r → ∃ o : Obj, A.heap[r]? = some o ∧ o.isCells = false) : Took w q b g2 g3 m z pre B := by
  obtain ⟨p0, x, h1, h2, h3, h4, h5, h6, h7⟩ := h
  exact ⟨p0, x, h1, h2, h3, h4.grown hg hr, h5.more_ hg hw, block_grown h6 hg hr, block_grown h7 hg hr⟩
theorem load_bool (w : World) (g : Nat) (x : Bool) (h : w.heap[g]? = some (.cells #[.bool x] 4 (0, 0))) : (loadVar 4 ⟨g, 0, none⟩).run Try.prog w = .ok (.bool x) w := by
  have hc := (blk_cell h 0 _ rfl).1
  unfold loadVar
  simp [Sem.run_bind, Try.isAgg4, Result.andThen]
  rw [hc]; rfl
/-- Take's two results. -/
theorem ret_take {fn : Func} {p u : Tmp} (h : fn.results = #[.cell p 35, .cell u 4]) {tmps : Array Value} {w : World} (g2 g3 : Nat) (x y : Value) (r : Bool)
    (hp : tmps.getD p undef = .pointer (some ⟨g2, 0, none⟩)) (hu : tmps.getD u undef = .pointer (some ⟨g3, 0, none⟩)) (hg : w.heap[g2]? = some (.cells #[x, y] 35 (0, 0))) (hr : w.heap[g3]? = some (.cells #[.bool r] 4 (0, 0))) :
    (results fn tmps).run Try.prog w = .ok (.tuple #[.agg #[x, y], .bool r]) w := by
  have e := run_loadVar_row (P := Try.prog) w g2 35 35 #[x, y] (0, 0) _ hg Try.underlying35 rfl (by kernel_rfl)
  have e2 := load_bool w g3 r hr
  simp only [results, h]
  simp only [Array.mapM_eq_mapM_toList, List.mapM_cons, List.mapM_nil]
  have hp' : tmps[p]?.getD undef = .pointer (some ⟨g2, 0, none⟩) := by simpa using hp
  have hu' : tmps[u]?.getD undef = .pointer (some ⟨g3, 0, none⟩) := by simpa using hu
  simp [Sem.run_bind, Result.andThen, asAddr, hp', hu', e, e2]
theorem four_at (w : World) (A B C D : Obj) : ((((w.alloc A).alloc B).alloc C).alloc D).heap[w.heap.size]? = some A ∧ ((((w.alloc A).alloc B).alloc C).alloc D).heap[w.heap.size + 1]? = some B ∧ ((((w.alloc A).alloc B).alloc C).alloc D).heap[w.heap.size + 1 + 1]? = some C ∧ ((((w.alloc A).alloc B).alloc C).alloc D).heap[w.heap.size + 1 + 1 + 1]? = some D := by
  obtain ⟨h1, h2, h3⟩ := three_at w A B C
  have e : (((w.alloc A).alloc B).alloc C).heap.size = w.heap.size + 1 + 1 + 1 := by simp
  have hb := (Below.refl _ (((w.alloc A).alloc B).alloc C)).alloc (Nat.le_refl _) D
  refine ⟨(hb.block _ (by omega)).trans h1, (hb.block _ (by omega)).trans h2, (hb.block _ (by omega)).trans h3, ?_⟩
  rw [← e]; exact heap_alloc_new _ D
theorem take_none {m : Sp.M} {z : Int} (h : ∀ e ∈ Sp.runs 0 m, ¬ z ≤ (e.2 : Int)) : Sp.take z m = (m, (0, 0), false) := by
  unfold Sp.take
  rw [List.find?_eq_none.2 (fun e he => by simpa using fun _ => by have := h e he; omega)]
theorem take_low {m : Sp.M} {z : Int} (h : ¬ 1 ≤ z) : Sp.take z m = (m, (0, 0), false) := by
  unfold Sp.take
  rw [List.find?_eq_none.2 (fun e he => by simpa using fun h1 => absurd h1 h)]
theorem take_some {m : Sp.M} {z : Int} {p0 : List Sp.Run} {x : Sp.Run} (h1 : 1 ≤ z) (h : p0 ++ [x] <+: Sp.runs 0 m) (hp : ∀ e ∈ p0, ¬ z ≤ (e.2 : Int)) (hx : z ≤ (x.2 : Int)) : Sp.take z m = (Sp.put x.1 z.toNat Sp.anew m, ((x.1 : Int), z), true) := by
  obtain ⟨t, ht⟩ := h
  have hf : (Sp.runs 0 m).find? (fun e => decide (1 ≤ z ∧ z ≤ (e.2 : Int))) = some x := by
    rw [← ht, List.find?_append, List.find?_append, List.find?_eq_none.2 (fun e he => by simpa using fun _ => by have := hp e he; omega), List.find?_cons_of_pos (by simp [h1, hx])]
    rfl
  unfold Sp.take
  rw [hf]
theorem put_congr {m : Sp.M} {a n : Nat} {f g : Sp.Cell → Sp.Cell} (h : ∀ i c, a ≤ i → i < a + n → m[i]? = some c → f c = g c) : Sp.put a n f m = Sp.put a n g m := by
  apply List.ext_getElem?
  intro i
  rw [Sp.put_get, Sp.put_get]
  by_cases hi : a ≤ i ∧ i < a + n
  · rw [if_pos hi, if_pos hi]
    cases hm : m[i]? with
    | none => rfl
    | some c => rw [Option.map_some, Option.map_some, h i c hi.1 hi.2 hm]
  · rw [if_neg hi, if_neg hi]
/-- A part of a run, taken anew: free sectors don't wait. -/
theorem put_anew2 {m : Sp.M} {w : World} {q b : Nat} (h : PD w q b m) {x : Sp.Run} (hx : x ∈ Sp.runs 0 m) (n : Nat) (hn : n ≤ x.2) : Sp.put x.1 n (fun _ => (2, false)) m = Sp.put x.1 n Sp.anew m :=
  put_congr (fun i c h1 h2 hc => by
    obtain ⟨y, hy⟩ := Sp.runs_free m 0 x hx i h1 (by omega)
    rw [Nat.sub_zero, hc] at hy
    cases hy
    have := (h.inv _ (List.mem_of_getElem? hc)).2 rfl
    simp only at this
    subst this; rfl)
set_option maxHeartbeats 8000000 in
set_option maxRecDepth 100000 in
theorem take_in (n : Nat) (hn : 3 ≤ n) (q b : Nat) (m : Sp.M) (z : Int) (w : World) (h : PD w q b m) :
    CallsIn Fence.wide n Try.prog 11 #[.pointer (some ⟨q, 0, none⟩), .int .i64 z] w fun e w' => e = .returned (.tuple #[ext (Sp.take z m).2.1, .bool (Sp.take z m).2.2]) ∧ PD w' q b (Sp.take z m).1 ∧ Touch (PF q b) w w' := by
  have h1n : 1 ≤ n := by omega
  obtain ⟨W0, hW0⟩ : ∃ W0, (((w.alloc (.cells #[.pointer (some ⟨q, 0, none⟩)] 24)).alloc (.cells #[.int .i64 z] 3)).alloc (.cells #[.int .i64 0, .int .i64 0] 35)).alloc (.cells #[.bool false] 4) = W0 := ⟨_, rfl⟩
  have hA := four_at w (.cells #[.pointer (some ⟨q, 0, none⟩)] 24) (.cells #[.int .i64 z] 3) (.cells #[.int .i64 0, .int .i64 0] 35) (.cells #[.bool false] 4)
  rw [hW0] at hA
  have hB0 : Below w.heap.size w W0 := by rw [← hW0]; exact ((((Below.refl _ w).alloc (Nat.le_refl _) _).alloc (by simp) _).alloc (by simp; omega) _).alloc (by simp; omega) _
  have hs0 : W0.heap.size = w.heap.size + 4 := by rw [← hW0]; simp
  refine callsIn_of_wp_marks Try.func11 rfl trivial ?_ rfl
  simp only [Try.ntmps11, List.size_toArray, List.length_cons, List.length_nil, Nat.reduceAdd, Nat.reduceSub, Array.replicate_succ, Array.replicate_zero, List.push_toArray, List.append_toArray, List.nil_append, List.cons_append]
  have y0 := (blk_cell hA.1 0 _ rfl).1
  have y1 := (blk_cell hA.2.1 0 _ rfl).1
  have y2 := blk_cell hA.2.2.1 0 _ rfl
  have y3 := blk_cell hA.2.2.1 1 _ rfl
  have y4 := blk_cell hA.2.2.2 0 _ rfl
  simp only [List.getElem_toArray, List.getElem_cons_zero, List.getElem_cons_succ] at y0 y1 y2 y3 y4
  have HA := Lib.hid hA
  clear hA
  by_cases hz1 : 1 ≤ z
  · have hzi : ¬ z < 1 := by omega
    have HPW := Lib.hid h
    have HB0 := Lib.hid hB0
    have HS0 := Lib.hid hs0
    clear h hB0 hs0
    gi_wp2
    obtain ⟨g3, e3⟩ : ∃ g, g = w.heap.size + 1 + 1 + 1 := ⟨_, rfl⟩
    rw [← e3] at y4 HA ⊢
    obtain ⟨g2, e2⟩ : ∃ g, g = w.heap.size + 1 + 1 := ⟨_, rfl⟩
    rw [← e2] at y2 y3 HA ⊢
    obtain ⟨g1, e1⟩ : ∃ g, g = w.heap.size + 1 := ⟨_, rfl⟩
    rw [← e1] at y1 HA ⊢
    obtain ⟨g0, e0⟩ : ∃ g, g = w.heap.size := ⟨_, rfl⟩
    rw [← e0] at y0 HA ⊢
    have HE : Hid (g0 = w.heap.size ∧ g1 = w.heap.size + 1 ∧ g2 = w.heap.size + 2 ∧ g3 = w.heap.size + 3) := Lib.hid ⟨e0, e1, e2, e3⟩
    clear e0 e1 e2 e3
    clear hW0 y0 y1 y2 y3 y4
    have hE := HE.out
    refine RM.wpIn_range rfl h1n rfl trivial (enters_of Try.func31 (by kernel_rfl) rfl) (runs_m Fence.wide (n - 1) trivial trivial rfl (by omega) q b m w HPW.out (fun X k hX hk => callsIn_wide.2 (length_w X q b m k hX hk))) belowK_t (belowK_b HB0.out.size) HB0.out (fun _ => rfl)
      (fun pre W => (∀ e ∈ rns pre, ¬ z ≤ (e.2 : Int)) ∧ Below W0.heap.size W0 W)
      (fun c pre W => c = .ret ∧ Took w q b g2 g3 m z pre W)
      (OwnFrom.and (ownFrom_pure _ _) (ownFrom_below (Nat.le_refl _) (Nat.le_refl _)))
      (fun c pre A B row hs hg hr => ⟨hs.1, Took.grown hs.2 hg (fun r e => by have := (hr r e).1; have := HS0.out; omega) (fun r e => (hr r e).2)⟩)
      ⟨fun e he => (by cases he), Below.refl _ _⟩
      (fun x a' W => ∃ Bx, g3 < Bx ∧ W.heap[Bx]? = some (.cells #[.int .i64 (x.1.1 : Int), .int .i64 (x.1.2 : Int)] 35 (0, 0)) ∧ a' = { tmps := #[.pointer (some ⟨q, 0, none⟩), .int .i64 z, .pointer (some ⟨g0, 0, none⟩), .pointer (some ⟨g1, 0, none⟩), .pointer (some ⟨g2, 0, none⟩), .pointer (some ⟨g3, 0, none⟩), .pointer (some ⟨Bx, 0, none⟩), .int .i64 z, .bool false, undef, .pointer (some ⟨q, 0, none⟩), .func (.func 31) #[.pointer (some ⟨q, 0, none⟩)] #[], .agg #[.int .i64 (x.1.1 : Int), .int .i64 (x.1.2 : Int)], undef, undef, undef, undef, undef, undef, undef, undef, undef, undef, undef, undef, undef, undef], defers := [] })
      (fun x a' _ A B row hs hg hr => by
        obtain ⟨Bx, q1, q2, q3⟩ := hs
        exact ⟨Bx, q1, block_grown q2 hg (fun r e => (hr r e).2), q3⟩) ?assign ?body ?done ?stop
    case assign =>
      rintro l pre ⟨⟨a, zz⟩, hx⟩ W K ⟨hp, hB⟩ hK
      have hK' := hK _ (W.alloc (.cells #[.int .i64 (a : Int), .int .i64 (zz : Int)] 35)) ((KeepsOthers.alloc _ _).from _) ((Below.refl _ W).alloc (by have := hB.size; have := HB0.out.size; omega) _) ⟨hp, hB.alloc hB.size _⟩ ⟨W.heap.size, by have := hB.size; have := HS0.out; omega, heap_alloc_new W _, rfl⟩
      clear hK hp hB hz1 hzi hE
      unfold ext Sp.ie
      gi_wp2
      exact hK'
    case body =>
      rintro l pre ⟨⟨a, zz⟩, hx⟩ a' W hl ⟨hp, hB⟩ ⟨gx, hgx, hbx, rfl⟩ hlt
      simp only at hbx
      have hs0 := HS0.out
      have b0 := (blk_cell ((hB.block g0 (by omega)).trans HA.out.1) 0 _ rfl).1
      have b1 := (blk_cell ((hB.block g1 (by omega)).trans HA.out.2.1) 0 _ rfl).1
      have x0 := blk_cell hbx 0 _ rfl
      have x1 := blk_cell hbx 1 _ rfl
      simp only [List.getElem_toArray, List.getElem_cons_zero, List.getElem_cons_succ] at b0 b1 x0 x1
      have HBW := Lib.hid hB
      have HP := Lib.hid hp
      have HBX := Lib.hid hbx
      by_cases hfit : z ≤ (zz : Int)
      · have h2a := (hB.block g0 (by omega)).trans HA.out.1
        have h2b := (hB.block g2 (by omega)).trans HA.out.2.2.1
        have h2c := (hB.block g3 (by omega)).trans HA.out.2.2.2
        have hPW := HPW.out.later ((HB0.out).trans (hB.mono HB0.out.size))
        have hlt0 := HPW.out.lt
        -- the world behind the store of n into e
        have qx := heap_set (k := 1) (v := .int .i64 z) hbx
        have k0 := (heap_setCell_other W ⟨gx, 1, none⟩ g0 (.int .i64 z) (show g0 ≠ gx by omega)).trans h2a
        have k2 := (heap_setCell_other W ⟨gx, 1, none⟩ g2 (.int .i64 z) (show g2 ≠ gx by omega)).trans h2b
        have k3 := (heap_setCell_other W ⟨gx, 1, none⟩ g3 (.int .i64 z) (show g3 ≠ gx by omega)).trans h2c
        have kP : PD (W.setCell ⟨gx, 1, none⟩ (.int .i64 z)) q b m := hPW.keep (fun k hk => heap_setCell_other W ⟨gx, 1, none⟩ k (.int .i64 z) (fun e => by
          have h5 := hlt0 k hk
          have h6 : k = gx := e
          omega))
        obtain ⟨N0, hN0⟩ : ∃ N0, N0 = (W.setCell ⟨gx, 1, none⟩ (.int .i64 z)).heap.size := ⟨_, rfl⟩
        have hN0' : W.heap.size = N0 := by rw [hN0]; simp
        have hbz := hB.size
        have HW := Lib.hid (show (W.setCell ⟨gx, 1, none⟩ (.int .i64 z)).heap[g0]? = some (.cells #[.pointer (some ⟨q, 0, none⟩)] 24 (0, 0)) ∧ (W.setCell ⟨gx, 1, none⟩ (.int .i64 z)).heap[gx]? = some (.cells #[.int .i64 (a : Int), .int .i64 z] 35 (0, 0)) ∧ PD (W.setCell ⟨gx, 1, none⟩ (.int .i64 z)) q b m ∧ (W.setCell ⟨gx, 1, none⟩ (.int .i64 z)).heap[g2]? = some (.cells #[.int .i64 0, .int .i64 0] 35 (0, 0)) ∧ (W.setCell ⟨gx, 1, none⟩ (.int .i64 z)).heap[g3]? = some (.cells #[.bool false] 4 (0, 0)) ∧ (∀ k, PF q b k → k < w.heap.size) from ⟨k0, qx, kP, k2, k3, hlt0⟩)
        have HKO := Lib.hid (KeepsOthers.setCell W ⟨gx, 1, none⟩ (.int .i64 z))
        have HTW : Hid (Touch (PF q b) w (W.setCell ⟨gx, 1, none⟩ (.int .i64 z))) := Lib.hid (Touch.of ((HB0.out.trans (hB.mono HB0.out.size)).trans ((Below.refl w.heap.size W).setCell (p := ⟨gx, 1, none⟩) (by show w.heap.size ≤ gx; omega) _)))
        have HRT : Hid (Sp.RightE m.length ((a : Int), z)) := Lib.hid (by unfold Sp.RightE; simp only at hx ⊢; omega)
        have HN := Lib.hid (And.intro hN0 (And.intro hN0' hbz))
        clear h2a h2b h2c hPW hlt0 qx k0 k2 k3 kP hN0 hN0' hbz hB hbx hp hE hs0
        gi_wp2
        clear b0 b1 x0 x1
        generalize W.setCell ⟨gx, 1, none⟩ (.int .i64 z) = W1 at HW HKO HTW HN ⊢
        refine Rel.region_tailIn 5 (by kernel_rfl) [some 19, some 20, some 21, some 22, some 23, some 24] (by kernel_rfl) (by kernel_rfl) (by kernel_rfl) (by kernel_rfl) [.eq (.pointer (some ⟨q, 0, none⟩)), .eq (.agg #[.bool true, .bool true, .bool false]), ⟨fun v w => ∃ s, v = .func (.func 44) #[] #[.pointer (some ⟨s, 0, none⟩)] ∧ w.heap[s]? = some (.cells #[.bool true, .bool true, .bool false] 62 (0, 0)) ∧ N0 ≤ s, fun _ _ _ h hb => by obtain ⟨s, h1, h2, h3⟩ := h; exact ⟨s, h1, (hb.block s (lt_of_block h2)).trans h2, h3⟩⟩, .eq (.agg #[.int .i64 (a : Int), .int .i64 z]), ⟨fun v w => ∃ s, v = .slice (some ⟨s, 0, none⟩) 1 1 ∧ w.heap[s]? = some (.cells #[.int .i64 (a : Int), .int .i64 z] 35 (0, 0)) ∧ N0 ≤ s, fun _ _ _ h hb => by obtain ⟨s, h1, h2, h3⟩ := h; exact ⟨s, h1, (hb.block s (lt_of_block h2)).trans h2, h3⟩⟩] ⟨?_, ?_, ?_, ?_, ?_, trivial⟩ ?_
        · intro u w9 hb9 hd9
          clear hd9
          have q9 := (hb9.block g0 (lt_of_block HW.out.1)).trans HW.out.1
          have c9 := (blk_cell q9 0 _ rfl).1
          clear q9
          refine ⟨?_⟩
          simp only [Rel.canD, List.take_zero]
          go_wp2_with fail
          exact ⟨rfl, rfl, Below.refl _ _, rfl⟩
        · intro u w9 hb9 hd9
          clear hd9
          refine ⟨?_⟩
          simp only [Rel.canD, List.take_succ_cons, List.take_zero, Nat.reduceAdd]
          go_wp2_with fail
          exact ⟨rfl, rfl, Below.refl _ _, rfl⟩
        · intro u w9 hb9 hd9
          have e1 : u 1 = .agg #[.bool true, .bool true, .bool false] := hd9 1 (by kernel_rfl)
          clear hd9
          have hz := hb9.size
          have hn0 := HN.out.1
          clear hn0 hz
          refine ⟨?_⟩
          simp only [Rel.canD, List.take_succ_cons, List.take_zero, Nat.reduceAdd]
          go_wp2_with fail
          refine (into_w true true false w9).mono ?_
          rintro e w8 ⟨rfl, hg8, hb8⟩
          go_wp2_with fail
          exact ⟨rfl, rfl, hb8, _, rfl, hg8, by have := hb9.size; have := HN.out.1; omega⟩
        · intro u w9 hb9 hd9
          clear hd9
          have q9 := (hb9.block gx (lt_of_block HW.out.2.1)).trans HW.out.2.1
          have c9 := (blk_cell q9 0 _ rfl).1
          have c8 := (blk_cell q9 1 _ rfl).1
          clear q9
          refine ⟨?_⟩
          simp only [Rel.canD, List.take_succ_cons, List.take_zero, Nat.reduceAdd]
          go_wp2_with fail
          exact ⟨rfl, rfl, Below.refl _ _, rfl⟩
        · intro u w9 hb9 hd9
          have e3 : u 3 = .agg #[.int .i64 (a : Int), .int .i64 z] := hd9 3 (by kernel_rfl)
          clear hd9
          have hz := hb9.size
          have hn0 := HN.out.1
          have hbx : Below w9.heap.size w9 (w9.alloc (.cells #[.int .i64 (a : Int), .int .i64 z] 35)) := (Below.refl _ w9).alloc (Nat.le_refl _) _
          have hnx := heap_alloc_new w9 (.cells #[.int .i64 (a : Int), .int .i64 z] 35)
          clear hn0 hz
          refine ⟨?_⟩
          simp only [Rel.canD, List.take_succ_cons, List.take_zero, Nat.reduceAdd]
          go_wp2_with fail
          exact ⟨rfl, rfl, hbx, w9.heap.size, rfl, hnx, by have := hb9.size; have := HN.out.1; omega⟩
        intro u w9 hb9 hR9
        simp only [Rel.canD, Nat.reduceAdd, List.take_succ_cons, List.take_zero, List.drop_succ_cons, List.drop_zero]
        obtain ⟨s2, h2, hg2, hn2⟩ := hR9 2 (by decide)
        obtain ⟨s4, h4, hg4, hn4⟩ := hR9 4 (by decide)
        have h0 : u 0 = .pointer (some ⟨q, 0, none⟩) := hR9 0 (by decide)
        rw [h0, h2, h4]
        clear hR9 h0 h2 h4
        have hP9 := HW.out.2.2.1.later hb9
        have q2 := (hb9.block g2 (lt_of_block HW.out.2.2.2.1)).trans HW.out.2.2.2.1
        have q3 := (hb9.block g3 (lt_of_block HW.out.2.2.2.2.1)).trans HW.out.2.2.2.2.1
        have qx := (hb9.block gx (lt_of_block HW.out.2.1)).trans HW.out.2.1
        have hF2 : ∀ k, N0 ≤ k → ¬ PF q b k := fun k hk hf => by have := HW.out.2.2.1.lt k hf; have := HN.out.1; omega
        have cT := turnI_w w9 q b m (.slice (some ⟨s4, 0, none⟩) 1 1) [((a : Int), z)] hP9 ⟨_, 1, rfl, Nat.le_refl _, by decide, .inr ⟨s4, 0, rfl, lt_of_block hg4, hF2 s4 hn4, fun k hk => by
          match k, hk with
          | 0, _ => exact ⟨(blk_cell hg4 0 _ rfl).1, (blk_cell hg4 1 _ rfl).1⟩⟩⟩ (fun e he => by rw [List.mem_singleton.1 he]; exact HRT.out) s2 (2, false) true true false rfl (by decide) hg2 (hF2 s2 hn2)
        have HB9 := Lib.hid hb9
        have HQ := Lib.hid (And.intro q2 (And.intro q3 qx))
        clear hb9 hP9 q2 q3 qx hF2 hg2 hg4 hn2 hn4
        go_simp
        go_wp2_with fail
        refine cT.mono ?_
        rintro e w8 ⟨rfl, hP8, hT8⟩
        clear cT
        go_wp2_with fail
        refine ⟨rfl, ?_⟩
        have HK8 := Lib.hid (keeps_touch hT8 (fun k o hk ho => (HW.out.2.2.1.later HB9.out).cells_at hk ho))
        have hE := HE.out
        have q2 := (hT8.block g2 (lt_of_block HQ.out.1) (fun hf => by have := HW.out.2.2.2.2.2 g2 hf; omega)).trans HQ.out.1
        have q3 := (hT8.block g3 (lt_of_block HQ.out.2.1) (fun hf => by have := HW.out.2.2.2.2.2 g3 hf; omega)).trans HQ.out.2.1
        have qx := (hT8.block gx (lt_of_block HQ.out.2.2) (fun hf => by have := HW.out.2.2.2.2.2 gx hf; omega)).trans HQ.out.2.2
        have ne1 : ¬ g2 = g3 := by omega
        have d0 := (blk_cell qx 0 _ rfl).1
        have d1 := (blk_cell qx 1 _ rfl).1
        have e0 := blk_cell q2 0 _ rfl
        have e1 := blk_cell q2 1 _ rfl
        have e2 := blk_cell q3 0 _ rfl
        have HP8 := Lib.hid hP8
        have HT8 := Lib.hid hT8
        have HQ8 := Lib.hid (And.intro q2 q3)
        have nf1 : ¬ g2 = gx := by omega
        have nf2 : ¬ g3 = gx := by omega
        have ne2 : ¬ g3 = g2 := by omega
        clear hP8 hT8 q2 q3 qx hE HQ
        gi_wp2
        have hE := HE.out
        have hlt9 := HW.out.2.2.2.2.2
        have r2 := heap_set (k := 1) (v := .int .i64 z) (heap_set (k := 0) (v := .int .i64 (a : Int)) HQ8.out.1)
        have r2' := (heap_setCell_other _ ⟨g3, 0, none⟩ g2 (.bool true) (show g2 ≠ g3 by omega)).trans r2
        have r3 := heap_set (k := 0) (v := .bool true) ((heap_setCell_other _ ⟨g2, 1, none⟩ g3 (.int .i64 z) (show g3 ≠ g2 by omega)).trans ((heap_setCell_other w8 ⟨g2, 0, none⟩ g3 (.int .i64 (a : Int)) (show g3 ≠ g2 by omega)).trans HQ8.out.2))
        have c1 : Touch (fun k => k = g2) w8 (w8.setCell ⟨g2, 0, none⟩ (.int .i64 (a : Int))) := Touch.cell (F := fun k => k = g2) (g := g2) rfl 0 _
        have c2 : Touch (fun k => k = g2) (w8.setCell ⟨g2, 0, none⟩ (.int .i64 (a : Int))) ((w8.setCell ⟨g2, 0, none⟩ (.int .i64 (a : Int))).setCell ⟨g2, 1, none⟩ (.int .i64 z)) := Touch.cell (F := fun k => k = g2) (g := g2) rfl 1 _
        have c3 : Touch (fun k => k = g3) ((w8.setCell ⟨g2, 0, none⟩ (.int .i64 (a : Int))).setCell ⟨g2, 1, none⟩ (.int .i64 z)) (((w8.setCell ⟨g2, 0, none⟩ (.int .i64 (a : Int))).setCell ⟨g2, 1, none⟩ (.int .i64 z)).setCell ⟨g3, 0, none⟩ (.bool true)) := Touch.cell (F := fun k => k = g3) (g := g3) rfl 0 _
        have hT := ((((HTW.out.trans (Touch.of HB9.out)).trans HT8.out).behind c1 (by omega)).behind c2 (by omega)).behind c3 (by omega)
        have hP := HP8.out.keep (w' := ((w8.setCell ⟨g2, 0, none⟩ (.int .i64 (a : Int))).setCell ⟨g2, 1, none⟩ (.int .i64 z)).setCell ⟨g3, 0, none⟩ (.bool true)) (fun k hk => by
          have h5 := hlt9 k hk
          rw [heap_setCell_other _ ⟨g3, 0, none⟩ k _ (show k ≠ g3 by omega), heap_setCell_other _ ⟨g2, 1, none⟩ k _ (show k ≠ g2 by omega), heap_setCell_other _ ⟨g2, 0, none⟩ k _ (show k ≠ g2 by omega)])
        have hko := ((((HKO.out.trans (keeps_below HB9.out)).trans HK8.out).trans (KeepsOthers.setCell _ ⟨g2, 0, none⟩ (.int .i64 (a : Int)))).trans (KeepsOthers.setCell _ ⟨g2, 1, none⟩ (.int .i64 z))).trans (KeepsOthers.setCell _ ⟨g3, 0, none⟩ (.bool true))
        refine ⟨hko.from _, rfl, ?_⟩
        exact ⟨pre, ⟨(a, zz), hx⟩, rfl, fun e he => by have := HP.out e he; omega, hfit, hP, hT, r2', r3⟩
      · have hfi : ¬ z ≤ (zz : Int) := hfit
        have hKK := Lib.hid (And.intro (KeepsFrom.refl W0.heap.size W) (And.intro (Below.refl w.heap.size W) (show ∀ e ∈ rns (pre ++ [(⟨(a, zz), hx⟩ : RunIn m)]), ¬ z ≤ (e.2 : Int) from fun e he => by
          rw [rns_snoc] at he
          rcases List.mem_append.1 he with he | he
          · exact hp e he
          · rw [List.mem_singleton.1 he]; exact hfi)))
        clear hE hs0 hp hB hbx
        gi_wp2
        exact ⟨hKK.out.1, hKK.out.2.1, fun a2 b2 he => by simpa using hKK.out.2.2 (a2, b2) he, HBW.out⟩
    case done =>
      rintro D ys W hD hS ⟨hp, hB⟩ hK
      have HB := Lib.hid hB
      rw [hS] at hp
      have HPP := Lib.hid hp
      have hs0 := HS0.out
      have k2 := (hB.block g2 (by omega)).trans HA.out.2.2.1
      have k3 := (hB.block g3 (by omega)).trans HA.out.2.2.2
      have y2 := blk_cell k2 0 _ rfl
      have y3 := blk_cell k2 1 _ rfl
      have y4 := blk_cell k3 0 _ rfl
      have HK := Lib.hid (And.intro k2 k3)
      have ne : ¬ g3 = g2 := by omega
      have ne2 : ¬ g2 = g3 := by omega
      clear hB hp k2 k3 hS hE hs0
      gi_wp2
      have hE := HE.out
      have hs0 := HS0.out
      have r2 := heap_set (k := 1) (v := .int .i64 0) (heap_set (k := 0) (v := .int .i64 0) HK.out.1)
      have r2' := (heap_setCell_other _ ⟨g3, 0, none⟩ g2 (.bool false) (show g2 ≠ g3 by omega)).trans r2
      have r3 := heap_set (k := 0) (v := .bool false) ((heap_setCell_other _ ⟨g2, 1, none⟩ g3 (.int .i64 0) (show g3 ≠ g2 by omega)).trans ((heap_setCell_other W ⟨g2, 0, none⟩ g3 (.int .i64 0) (show g3 ≠ g2 by omega)).trans HK.out.2))
      have hK3 := (((KeepsOthers.setCell W ⟨g2, 0, none⟩ (.int .i64 0)).trans (KeepsOthers.setCell _ ⟨g2, 1, none⟩ (.int .i64 0))).trans (KeepsOthers.setCell _ ⟨g3, 0, none⟩ (.bool false))).same D _ hK rfl
      have hl := ((HB0.out.trans (HB.out.mono HB0.out.size)).trans ((((Below.refl w.heap.size W).setCell (p := ⟨g2, 0, none⟩) (by show w.heap.size ≤ g2; omega) (.int .i64 0)).setCell (p := ⟨g2, 1, none⟩) (by show w.heap.size ≤ g2; omega) (.int .i64 0)).setCell (p := ⟨g3, 0, none⟩) (by show w.heap.size ≤ g3; omega) (.bool false)))
      have hl2 := hl.trans (belowK_b (w := w) (Nat.le_refl _) _ D _ (.deferred none) (by omega) hK3 rfl rfl)
      have hg := grownBy_putObj' (((W.setCell ⟨g2, 0, none⟩ (.int .i64 0)).setCell ⟨g2, 1, none⟩ (.int .i64 0)).setCell ⟨g3, 0, none⟩ (.bool false)) D (.deferred none)
      have r2'' := block_grown r2' hg (fun r e => by cases e; exact ⟨_, hK3, rfl⟩)
      have r3'' := block_grown r3 hg (fun r e => by cases e; exact ⟨_, hK3, rfl⟩)
      refine ⟨by simp, .inl ⟨_, _, rfl, run_takeDeferred hK3, ?_⟩⟩
      refine ⟨_, ret_take rfl g2 g3 _ _ false rfl rfl r2'' r3'', ?_⟩
      rw [take_none (fun e he => by have := HPP.out e he; omega)]
      exact ⟨rfl, HPW.out.later hl2, Touch.of hl2⟩
    case stop =>
      rintro D c pre W hD hS ⟨rfl, p0, x, rfl, hp0, hfit, hP, hT, k2, k3⟩ hK
      have HEND := Lib.hid (And.intro hP (And.intro hT (And.intro k2 k3)))
      clear hE
      gi_wp2
      refine ⟨by simp, .inl ⟨_, _, rfl, run_takeDeferred hK, ?_⟩⟩
      have hE := HE.out
      have hs0 := HS0.out
      have hg := grownBy_putObj' W D (.deferred none)
      have r2 := block_grown HEND.out.2.2.1 hg (fun r e => by cases e; exact ⟨_, hK, rfl⟩)
      have r3 := block_grown HEND.out.2.2.2 hg (fun r e => by cases e; exact ⟨_, hK, rfl⟩)
      have hP9 := HEND.out.1.grown hg (fun r e => by cases e; exact ⟨_, hK, rfl⟩)
      have hT9 := HEND.out.2.1.more_ hg (fun r e => by cases e; omega)
      refine ⟨_, ret_take rfl g2 g3 _ _ true rfl rfl r2 r3, ?_⟩
      rw [rns_snoc] at hS
      have hin : x.1 ∈ Sp.runs 0 m := by
        obtain ⟨t, ht⟩ := hS
        rw [← ht]; simp
      rw [put_anew2 HPW.out hin z.toNat (by omega)] at hP9
      rw [take_some hz1 hS (fun e he => by have := hp0 e he; omega) hfit]
      exact ⟨rfl, hP9, hT9⟩
  · have hzi : z < 1 := by omega
    have hP0 := h.later hB0
    have HEND := Lib.hid (And.intro hP0 hB0)
    have HZ := Lib.hid hz1
    have HPW := Lib.hid h
    clear hz1 hP0 h hB0 hs0
    gi_wp2
    obtain ⟨g3, e3⟩ : ∃ g, g = w.heap.size + 1 + 1 + 1 := ⟨_, rfl⟩
    rw [← e3] at y4 HA ⊢
    obtain ⟨g2, e2⟩ : ∃ g, g = w.heap.size + 1 + 1 := ⟨_, rfl⟩
    rw [← e2] at y2 y3 HA ⊢
    obtain ⟨g1, e1⟩ : ∃ g, g = w.heap.size + 1 := ⟨_, rfl⟩
    rw [← e1] at y1 HA ⊢
    obtain ⟨g0, e0⟩ : ∃ g, g = w.heap.size := ⟨_, rfl⟩
    rw [← e0] at y0 HA ⊢
    have HE : Hid (g0 = w.heap.size ∧ g1 = w.heap.size + 1 ∧ g2 = w.heap.size + 2 ∧ g3 = w.heap.size + 3) := Lib.hid ⟨e0, e1, e2, e3⟩
    clear e0 e1 e2 e3
    clear hW0
    have HS := HEND.out.1.lt
    have hE := HE.out
    have q2 : (((W0.setCell ⟨g2, 0, none⟩ (.int .i64 0)).setCell ⟨g2, 1, none⟩ (.int .i64 0)).setCell ⟨g3, 0, none⟩ (.bool false)).heap[g2]? = some (.cells #[.int .i64 0, .int .i64 0] 35 (0, 0)) :=
      (heap_setCell_other _ ⟨g3, 0, none⟩ g2 _ (show g2 ≠ g3 by omega)).trans (heap_set (k := 1) (heap_set (k := 0) HA.out.2.2.1))
    have q3 : (((W0.setCell ⟨g2, 0, none⟩ (.int .i64 0)).setCell ⟨g2, 1, none⟩ (.int .i64 0)).setCell ⟨g3, 0, none⟩ (.bool false)).heap[g3]? = some (.cells #[.bool false] 4 (0, 0)) :=
      heap_set (k := 0) ((heap_setCell_other _ ⟨g2, 1, none⟩ g3 _ (show g3 ≠ g2 by omega)).trans ((heap_setCell_other _ ⟨g2, 0, none⟩ g3 _ (show g3 ≠ g2 by omega)).trans HA.out.2.2.2))
    have hl : Below w.heap.size w (((W0.setCell ⟨g2, 0, none⟩ (.int .i64 0)).setCell ⟨g2, 1, none⟩ (.int .i64 0)).setCell ⟨g3, 0, none⟩ (.bool false)) := HEND.out.2.trans (((((Below.refl w.heap.size W0).setCell (p := ⟨g2, 0, none⟩) (by show w.heap.size ≤ g2; omega) _).setCell (p := ⟨g2, 1, none⟩) (by show w.heap.size ≤ g2; omega) _).setCell (p := ⟨g3, 0, none⟩) (by show w.heap.size ≤ g3; omega) _))
    refine ⟨_, ret_take rfl g2 g3 _ _ false rfl rfl q2 q3, ?_⟩
    rw [take_low (by have := HZ.out; omega)]
    exact ⟨rfl, HPW.out.later hl, Touch.of hl⟩
theorem pTake_w (q b : Nat) (m : Sp.M) (z : Int) (w : World) (h : PD w q b m) :
    Calls Try.prog 11 #[.pointer (some ⟨q, 0, none⟩), .int .i64 z] w fun e w' => e = .returned (.tuple #[ext (Sp.take z m).2.1, .bool (Sp.take z m).2.2]) ∧ PD w' q b (Sp.take z m).1 ∧ Touch (PF q b) w w' :=
  callsIn_wide.1 (take_in 6 (by decide) q b m z w h)
end Go.Proofs.Ytgfgafondiipoaa
