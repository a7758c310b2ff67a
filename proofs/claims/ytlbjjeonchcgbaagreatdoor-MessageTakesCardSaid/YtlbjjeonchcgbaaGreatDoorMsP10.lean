/- Package message, the program: what a reader has taken of a message. -/
import Derived.Test.YtlbjjeonchcgbaaGreatDoorMsP9
import Derived.Test.YtlbjjeonchcgbaaGreatDoorMs2
namespace Go.Proofs.YtlbjjeonchcgbaaGreatDoor
open Go.RowKit

theorem results_cell_1t {fn : Func} {p u : Tmp} {ty : TypeId} (h : fn.results = #[.cell p ty, .tmp u]) (tmps : Array Value) (P : Program) (w : World) :
    (results fn tmps).run P w =
      ((asAddr (tmps.getD p undef)).run P w).andThen fun a w₁ => ((loadVar ty a).run P w₁).andThen fun z w₂ => .ok (.tuple #[z, tmps.getD u undef]) w₂ := by
  simp only [results, h]
  simp [Sem.run_bind, Result.andThen]
/-- A message and one thing more are handed back. -/
theorem ret_msg1 {fn : Func} {p u : Tmp} (h : fn.results = #[.cell p 28, .tmp u]) {R : Ending → World → Prop} {a : Act} {w : World} (g : Nat) (c0 c1 c2 c3 c4 c5 c6 : Value)
    (hp : a.tmps.getD p undef = .pointer (some ⟨g, 0, none⟩)) (hg : w.heap[g]? = some (.cells #[c0, c1, c2, c3, c4, c5, c6] 28 (0, 0))) (hd : a.defers = [])
    (hR : R (.returned (.tuple #[.agg #[c0, c1, c2, c3, c4, c5, c6], a.tmps.getD u undef])) w) : bodyPost Tryz.prog fn R .ret a w := by
  refine bodyPost_ret (v := .tuple #[.agg #[c0, c1, c2, c3, c4, c5, c6], a.tmps.getD u undef]) ?_ hd hR
  have e := run_loadVar_row (P := Tryz.prog) w g 28 28 #[c0, c1, c2, c3, c4, c5, c6] (0, 0) _ hg Tryz.underlying28 rfl (by kernel_rfl)
  rw [results_cell_1t h, hp]
  simp [Result.andThen, asAddr, e]
/-- Any cell of a message's block. -/
theorem putM7 {W : World} {g : Nat} {cs : Array Value} (h : W.heap[g]? = some (.cells cs 28 (0, 0))) (j : Nat) (v : Value) : (W.setCell ⟨g, j, none⟩ v).heap[g]? = some (.cells (cs.setIfInBounds j v) 28 (0, 0)) := by
  simp [World.setCell, Array.getElem?_modify, h]
/-- A message goes into a block of its kind. -/
theorem stM7 {ops : Array Oper} {rest : List Oper} {o : Oper} {a : Act} {Q : Exit → Act → World → Prop} {W : World} {g : Nat} {c0 c1 c2 c3 c4 c5 c6 : Value} (h : W.heap[g]? = some (.cells #[c0, c1, c2, c3, c4, c5, c6] 28 (0, 0)))
    (hgd : o.guard = none) (px py : Operand) (ho : o.op = .store 28 px py) (v0 v1 v2 v3 v4 v5 v6 : Value) (hone : (#[v0, v1, v2, v3, v4, v5, v6] : Array Value).all (·.oneCell') = true) (hx : a.eval px = .pointer (some ⟨g, 0, none⟩))
    (hy : a.eval py = .agg #[v0, v1, v2, v3, v4, v5, v6])
    (hK : ∀ W', W'.heap[g]? = some (.cells #[v0, v1, v2, v3, v4, v5, v6] 28 (0, 0)) → (∀ B, B ≤ g → Below B W W') → (∀ k, k ≠ g → W'.heap[k]? = W.heap[k]?) → wpList Tryz.prog ops Q rest (a.put o.dst undef) W') : wpList Tryz.prog ops Q (o :: rest) a W := by
  refine wpList_store_row hgd 28 px py ho g #[v0, v1, v2, v3, v4, v5, v6] hx hy 28 #[c0, c1, c2, c3, c4, c5, c6] h (by kernel_rfl) rfl hone (hK _ ?_ ?_ ?_)
  · simp [World.setRow, Array.getElem?_modify, h]
  · intro B hB
    refine ⟨rfl, rfl, rfl, by simp [World.setRow], fun k hk => ?_⟩
    have hne : g ≠ k := by omega
    simp [World.setRow, Array.getElem?_modify, hne]
  · intro k hk
    simp [World.setRow, Array.getElem?_modify, Ne.symm hk]
theorem frM7 {W : World} {g : Nat} {cs : Array Value} (h : W.heap[g]? = some (.cells cs 28 (0, 0))) (j : Nat) : W.frozen? ⟨g, j, none⟩ = false := by
  simp only [World.frozen?]; rw [h]; simp

set_option maxHeartbeats 6400000 in
set_option maxRecDepth 100000 in
theorem head_no {B : Nat} {asks hd : Bool} {w : World} {g : Nat} {st : Ms.S} (h : Rdr B asks hd w g st) (hb : ¬ Ms.Body st) :
    Calls Tryz.prog 23 #[.pointer (some ⟨g, 0, none⟩)] w fun x w' => x = .returned (.tuple #[.agg #[.string ⟨#[]⟩, .string ⟨#[]⟩, .int .i64 0, .string ⟨#[]⟩, .int .i64 0, .slice none 0 0, .slice none 0 0], .bool false]) ∧ Below w.heap.size w w' := by
  obtain ⟨_, _, _, d, fv, _, _, _, _, hR⟩ := h
  have hrow := hR.row
  have c0 : w.cell? ⟨g, 0, none⟩ = some (.int .i64 (awaits st)) := hrow.cell 0
  have hgl := hrow.lt
  have h01 : awaits st = 0 ∨ awaits st = 1 := by
    cases st with
    | first => exact .inl rfl
    | head s => exact .inr rfl
    | sized s fs n => exact absurd trivial hb
    | chunk s fs c => exact absurd trivial hb
  generalize awaits st = a0 at *
  clear hR hrow hb
  have c0' : (w.alloc (.cells #[.string ⟨#[]⟩, .string ⟨#[]⟩, .int .i64 0, .string ⟨#[]⟩, .int .i64 0, .slice none 0 0, .slice none 0 0] 28)).cell? ⟨g, 0, none⟩ = some (.int .i64 a0) := by
    have hb1 : Below w.heap.size w (w.alloc (.cells #[.string ⟨#[]⟩, .string ⟨#[]⟩, .int .i64 0, .string ⟨#[]⟩, .int .i64 0, .slice none 0 0, .slice none 0 0] 28)) := (Below.refl _ w).alloc (Nat.le_refl _) _
    rw [hb1.cell (p := ⟨g, 0, none⟩) hgl]; exact c0
  have h0 : (w.alloc (.cells #[.string ⟨#[]⟩, .string ⟨#[]⟩, .int .i64 0, .string ⟨#[]⟩, .int .i64 0, .slice none 0 0, .slice none 0 0] 28)).heap[w.heap.size]? = some (.cells #[.string ⟨#[]⟩, .string ⟨#[]⟩, .int .i64 0, .string ⟨#[]⟩, .int .i64 0, .slice none 0 0, .slice none 0 0] 28 (0, 0)) := heap_alloc_new w _
  have hbb : Below w.heap.size w (w.alloc (.cells #[.string ⟨#[]⟩, .string ⟨#[]⟩, .int .i64 0, .string ⟨#[]⟩, .int .i64 0, .slice none 0 0, .slice none 0 0] 28)) := (Below.refl _ w).alloc (Nat.le_refl _) _
  have HBB := Lib.hid hbb
  have H0 := Lib.hid h0
  clear h0 hbb c0 hgl
  go_enter Tryz.func23, Tryz.ntmps23
  go_upto_region 1 with fail
  generalize w.alloc (.cells #[.string ⟨#[]⟩, .string ⟨#[]⟩, .int .i64 0, .string ⟨#[]⟩, .int .i64 0, .slice none 0 0, .slice none 0 0] 28) = w1 at *
  obtain ⟨b, hbe⟩ : ∃ b, w.heap.size = b := ⟨_, rfl⟩
  rw [hbe] at H0 HBB ⊢
  rcases h01 with rfl | rfl
  · go_wp2_with (refine stM7 H0.out rfl (.tmp 2) (.tmp 19) rfl _ _ _ _ _ _ _ (by simp [Value.oneCell']) rfl rfl ?_; intro w3 h3 hb3 _)
    (try simp only [Exit.inBlock, Exit.then])
    refine ret_msg1 rfl b _ _ _ _ _ _ _ rfl h3 rfl ?_
    exact ⟨rfl, by rw [hbe]; exact HBB.out.trans (hb3 b (Nat.le_refl _))⟩
  · go_wp2_with (refine stM7 H0.out rfl (.tmp 2) (.tmp 19) rfl _ _ _ _ _ _ _ (by simp [Value.oneCell']) rfl rfl ?_; intro w3 h3 hb3 _)
    (try simp only [Exit.inBlock, Exit.then])
    refine ret_msg1 rfl b _ _ _ _ _ _ _ rfl h3 rfl ?_
    exact ⟨rfl, by rw [hbe]; exact HBB.out.trans (hb3 b (Nat.le_refl _))⟩

set_option maxHeartbeats 6400000 in
set_option maxRecDepth 100000 in
theorem head_yes {B : Nat} {asks hd : Bool} {w : World} {g : Nat} {st : Ms.S} (h : Rdr B asks hd w g st) (hb : Ms.Body st) :
    Calls Tryz.prog 23 #[.pointer (some ⟨g, 0, none⟩)] w fun x w' => (∃ fa fc, x = .returned (.tuple #[mval (startOf st) (.slice fa (fieldsOf st).length fc) (.slice none 0 0), .bool true]) ∧ FIn w' (.slice fa (fieldsOf st).length fc) (fieldsOf st) ∧ NilOk (.slice fa (fieldsOf st).length fc) ∧ (∀ ad n c, (Value.slice fa (fieldsOf st).length fc) = .slice (some ad) n c → w.heap.size ≤ ad.block)) ∧ Below w.heap.size w w' := by
  obtain ⟨_, _, _, d, fv, _, _, _, _, hR⟩ := h
  obtain ⟨fa, fc, hfv, _⟩ := hR.fields
  have hrow := hR.row
  have hn01 : awaits st ≠ 0 ∧ awaits st ≠ 1 := by
    cases st with
    | first => cases hb
    | head s => cases hb
    | sized s fs n => show (if n = 0 then (4 : Int) else 2) ≠ 0 ∧ (if n = 0 then (4 : Int) else 2) ≠ 1; split <;> exact ⟨by decide, by decide⟩
    | chunk s fs c => show (if Ck.isOver c = true then (4 : Int) else 3) ≠ 0 ∧ (if Ck.isOver c = true then (4 : Int) else 3) ≠ 1; split <;> exact ⟨by decide, by decide⟩
  have q1 : (str (startOf st).method).size ≤ 1000000 := by rw [str_size]; exact hR.short.1
  have q2 : (str (startOf st).target).size ≤ 1000000 := by rw [str_size]; exact hR.short.2.1
  have q4 : (str (startOf st).reason).size ≤ 1000000 := by rw [str_size]; exact hR.short.2.2
  simp only [mval_s]
  unfold rcs at hrow
  subst hfv
  obtain ⟨dp, hdp⟩ : ∃ p, decOf d st = .pointer p := by cases st <;> exact ⟨_, rfl⟩
  rw [hdp] at hrow
  have cW := fun (W : World) (hb : Below w.heap.size w W) => With_w (.slice fa (fieldsOf st).length fc) (.slice none 0 0) (fieldsOf st) [] W (hR.fields.later hb) ⟨none, 0, rfl, .inl rfl⟩ hR.nil (fun c h => by injection h with _ _ h; exact h.symm) hR.fit.small ⟨by decide, fun _ h => by cases h⟩
  rw [show Fld.withAll (fieldsOf st) [] = fieldsOf st from rfl] at cW
  generalize fieldsOf st = fs at *
  obtain ⟨N, hN⟩ : ∃ x, fs.length = x := ⟨_, rfl⟩
  rw [hN] at hrow cW ⊢
  generalize awaits st = a0 at *
  generalize str (startOf st).method = x1 at *
  generalize str (startOf st).target = x2 at *
  generalize (startOf st).status = x3 at *
  generalize str (startOf st).reason = x4 at *
  generalize (startOf st).minor = x5 at *
  generalize (leftOf st : Int) = n0 at *
  have hrow : RB w g #[.int .i64 a0, .string x1, .string x2, .int .i64 x3, .string x4, .int .i64 x5, .slice fa N fc, .slice none 0 0, .int .i64 n0, .pointer dp, .bool asks, .bool hd, .int .i64 0] := hrow
  have HN := Lib.hid hN
  have HROW := Lib.hid hrow
  have e0 : (a0 == 0) = false := beq_eq_false_iff_ne.2 hn01.1
  have e1 : (a0 == 1) = false := beq_eq_false_iff_ne.2 hn01.2
  have hb1 : Below w.heap.size w (w.alloc (.cells #[.string ⟨#[]⟩, .string ⟨#[]⟩, .int .i64 0, .string ⟨#[]⟩, .int .i64 0, .slice none 0 0, .slice none 0 0] 28)) := (Below.refl _ w).alloc (Nat.le_refl _) _
  have h1 : (w.alloc (.cells #[.string ⟨#[]⟩, .string ⟨#[]⟩, .int .i64 0, .string ⟨#[]⟩, .int .i64 0, .slice none 0 0, .slice none 0 0] 28)).heap[w.heap.size]? = some (.cells #[.string ⟨#[]⟩, .string ⟨#[]⟩, .int .i64 0, .string ⟨#[]⟩, .int .i64 0, .slice none 0 0, .slice none 0 0] 28 (0, 0)) := heap_alloc_new w _
  have hr1 := hrow.later hb1
  obtain ⟨c0, _, _, _, _, _, _, _, _, _, _, _, _⟩ := hr1.set13
  have HR1 := Lib.hid hr1
  have H1 := Lib.hid h1
  have HB1 := Lib.hid hb1
  have HSZ : Hid (w.heap.size < (w.alloc (.cells #[.string ⟨#[]⟩, .string ⟨#[]⟩, .int .i64 0, .string ⟨#[]⟩, .int .i64 0, .slice none 0 0, .slice none 0 0] 28)).heap.size) := Lib.hid (by simp)
  clear hR hb hdp hrow hn01 hN hb1 h1 hr1
  go_enter Tryz.func23, Tryz.ntmps23
  go_upto_region 1 with fail
  generalize w.alloc (.cells #[.string ⟨#[]⟩, .string ⟨#[]⟩, .int .i64 0, .string ⟨#[]⟩, .int .i64 0, .slice none 0 0, .slice none 0 0] 28) = w1 at *
  obtain ⟨b, hbe⟩ : ∃ b, w.heap.size = b := ⟨_, rfl⟩
  rw [hbe] at H1 HSZ ⊢
  go_upto_region 4 with (refine ldMs HR1.out rfl (.tmp 23) rfl rfl ?_)
  have h4 : (w1.alloc (.cells #[.string x1, .string x2, .int .i64 x3, .string x4, .int .i64 x5, .slice fa N fc, .slice none 0 0] 28)).heap[w1.heap.size]? = some (.cells #[.string x1, .string x2, .int .i64 x3, .string x4, .int .i64 x5, .slice fa N fc, .slice none 0 0] 28 (0, 0)) := heap_alloc_new w1 _
  have hb2 : Below w1.heap.size w1 (w1.alloc (.cells #[.string x1, .string x2, .int .i64 x3, .string x4, .int .i64 x5, .slice fa N fc, .slice none 0 0] 28)) := (Below.refl _ w1).alloc (Nat.le_refl _) _
  generalize w1.alloc (.cells #[.string x1, .string x2, .int .i64 x3, .string x4, .int .i64 x5, .slice fa N fc, .slice none 0 0] 28) = w2 at *
  obtain ⟨b4, hb4⟩ : ∃ b, w1.heap.size = b := ⟨_, rfl⟩
  rw [hb4] at h4 HSZ ⊢
  have HB2 := Lib.hid (bt5 HB1.out hb2)
  have H12 := Lib.hid (blk_later H1.out hb2)
  have H4 := Lib.hid h4
  have HB4 := Lib.hid hb4
  have HBE := Lib.hid hbe
  clear h4 hb2 hb4 hbe HB1 H1 HR1 HROW hrow c0
  obtain ⟨m0, m1, m2, m3, m4, m5, m6⟩ := set7 H4.out
  have KEY := Lib.hid (fun (W : World) (h : W.heap[b4]? = some (.cells #[.string x1, .string x2, .int .i64 x3, .string x4, .int .i64 x5, .slice fa N fc, .slice none 0 0] 28 (0, 0))) => (⟨(set7 h).1, (set7 h).2.1, (set7 h).2.2.2.1⟩ : W.cell? ⟨b4, 0, none⟩ = some (.string x1) ∧ W.cell? ⟨b4, 1, none⟩ = some (.string x2) ∧ W.cell? ⟨b4, 3, none⟩ = some (.string x4)))
  have HA0 : Hid (Below w2.heap.size w2 w2.drew) := Lib.hid (Below.refl _ w2).drew
  have HP0 : Hid (w2.drew.heap[b4]? = some (.cells #[.string x1, .string x2, .int .i64 x3, .string x4, .int .i64 x5, .slice fa N fc, .slice none 0 0] 28 (0, 0))) := Lib.hid H4.out
  clear m0 m1 m2 m3 m4 m5 m6
  go_region_held3 (fun w' => w'.cell? ⟨b4, 0, none⟩ = some (.string x1) ∧ w'.cell? ⟨b4, 1, none⟩ = some (.string x2) ∧ w'.cell? ⟨b4, 3, none⟩ = some (.string x4))
    (first | with_reducible exact KEY.out _ HS3.out | with_reducible exact KEY.out _ HS2.out | with_reducible exact KEY.out _ HS1.out | with_reducible exact KEY.out _ HP8.out | with_reducible exact KEY.out _ HP7.out | with_reducible exact KEY.out _ HP6.out | with_reducible exact KEY.out _ HP0.out)
    (first
      | (go_at_call 48; refine (Clone_s x4 _ q4).mono ?_; rintro e w8 ⟨rfl, hb8⟩; have HA8 := Lib.hid (bt5 HA7.out hb8); have HP8 := Lib.hid (blk_later HP7.out hb8); clear hb8; obtain ⟨n0', n1', n2', n3', n4', n5', n6'⟩ := set7 HP8.out; have f0 := frM7 HP8.out 0; have f1 := frM7 HP8.out 1; have f3 := frM7 HP8.out 3; have HS1 : Hid ((w8.setCell ⟨b4, 0, none⟩ (.string x1)).heap[b4]? = some (.cells #[.string x1, .string x2, .int .i64 x3, .string x4, .int .i64 x5, .slice fa N fc, .slice none 0 0] 28 (0, 0))) := Lib.hid (putM7 HP8.out 0 _); have HS2 : Hid (((w8.setCell ⟨b4, 0, none⟩ (.string x1)).setCell ⟨b4, 1, none⟩ (.string x2)).heap[b4]? = some (.cells #[.string x1, .string x2, .int .i64 x3, .string x4, .int .i64 x5, .slice fa N fc, .slice none 0 0] 28 (0, 0))) := Lib.hid (putM7 HS1.out 1 _); have HS3 : Hid ((((w8.setCell ⟨b4, 0, none⟩ (.string x1)).setCell ⟨b4, 1, none⟩ (.string x2)).setCell ⟨b4, 3, none⟩ (.string x4)).heap[b4]? = some (.cells #[.string x1, .string x2, .int .i64 x3, .string x4, .int .i64 x5, .slice fa N fc, .slice none 0 0] 28 (0, 0))) := Lib.hid (putM7 HS2.out 3 _))
      | (go_at_call 48; refine (Clone_s x2 _ q2).mono ?_; rintro e w7 ⟨rfl, hb7⟩; have HA7 := Lib.hid (bt5 HA6.out hb7); have HP7 := Lib.hid (blk_later HP6.out hb7); clear hb7)
      | (go_at_call 48; refine (Clone_s x1 _ q1).mono ?_; rintro e w6 ⟨rfl, hb6⟩; have HA6 := Lib.hid (bt5 HA0.out hb6); have HP6 := Lib.hid (blk_later HP0.out hb6); clear hb6))
  have hb9 : Below w.heap.size w (((w8.setCell ⟨b4, 0, none⟩ (.string x1)).setCell ⟨b4, 1, none⟩ (.string x2)).setCell ⟨b4, 3, none⟩ (.string x4)) := by
    have hle : w.heap.size ≤ b4 := by have := HSZ.out; have := HBE.out; omega
    exact (((bt5 HB2.out HA8.out).setCell hle _).setCell hle _).setCell hle _
  have hs9 : w2.heap.size ≤ (((w8.setCell ⟨b4, 0, none⟩ (.string x1)).setCell ⟨b4, 1, none⟩ (.string x2)).setCell ⟨b4, 3, none⟩ (.string x4)).heap.size := by simp only [World.size_setCell]; exact HA8.out.size
  have h19 : (((w8.setCell ⟨b4, 0, none⟩ (.string x1)).setCell ⟨b4, 1, none⟩ (.string x2)).setCell ⟨b4, 3, none⟩ (.string x4)).heap[b]? = some (.cells #[.string ⟨#[]⟩, .string ⟨#[]⟩, .int .i64 0, .string ⟨#[]⟩, .int .i64 0, .slice none 0 0, .slice none 0 0] 28 (0, 0)) := by
    have hne : b ≠ b4 := by have := HSZ.out; omega
    rw [Below.heap_setCell _ _ _ _ (by simpa using hne), Below.heap_setCell _ _ _ _ (by simpa using hne), Below.heap_setCell _ _ _ _ (by simpa using hne)]
    exact blk_later H12.out HA8.out
  go_upto_region 5 with fail
  have hp9 := HS3.out
  generalize ((w8.setCell ⟨b4, 0, none⟩ (.string x1)).setCell ⟨b4, 1, none⟩ (.string x2)).setCell ⟨b4, 3, none⟩ (.string x4) = w9 at *
  obtain ⟨_, _, _, _, _, m5, _⟩ := set7 hp9
  have cW9 := cW w9 hb9
  have HB9 := Lib.hid hb9
  have HP9 := Lib.hid hp9
  have H19 := Lib.hid h19
  have HS9 : Hid (b4 < w9.heap.size ∧ b < b4) := Lib.hid ⟨lt_of_block hp9, HSZ.out⟩
  clear hb9 hp9 h19 hs9 cW KEY HA0 HP0 HA6 HP6 HA7 HP7 HA8 HP8 HS1 HS2 HS3 n0' n1' n2' n3' n4' n5' n6' f0 f1 f3 H12 H4 HB2 HSZ q1 q2 q4
  go_wp2_with fail
  refine cW9.mono ?_
  rintro e w10 ⟨vf, rfl, hBf⟩
  obtain ⟨fa9, fc9, rfl, _⟩ : ∃ a c, vf = .slice a N c ∧ True := by obtain ⟨a, c, h, _⟩ := hBf.fin; exact ⟨a, c, by rw [← HN.out]; exact h, trivial⟩
  have hF10 := hBf.fin
  have hNK := row_nilok hBf.1
  have hoff : ∀ ad n c, (Value.slice fa9 N fc9) = .slice (some ad) n c → ad.block ≠ b4 ∧ ad.block ≠ b := by
    intro ad n c he
    injection he with he
    have := HS9.out
    rcases hBf.1.2 with ⟨hv, _⟩ | ⟨k, cap, cur, hv, hk, _⟩
    · injection hv with h1; rw [he] at h1; cases h1
    · injection hv with h1; rw [he] at h1; cases h1; exact ⟨by show k ≠ b4; omega, by show k ≠ b; omega⟩
  have HNEW : Hid (∀ ad n c, (Value.slice fa9 N fc9) = .slice (some ad) n c → w.heap.size ≤ ad.block) := Lib.hid (by
    intro ad n c he
    injection he with he
    have := HB9.out.size
    rcases hBf.1.2 with ⟨hv, _⟩ | ⟨k, cap, cur, hv, hk, _⟩
    · injection hv with h1; rw [he] at h1; cases h1
    · injection hv with h1; rw [he] at h1; cases h1; show w.heap.size ≤ k; omega)
  have hp10 := blk_later HP9.out hBf.2
  have h110 := blk_later H19.out hBf.2
  have HB10 := Lib.hid (bt5 HB9.out hBf.2)
  have HF10 := Lib.hid hF10
  have HNK := Lib.hid hNK
  have HOFF := Lib.hid hoff
  obtain ⟨_, _, _, _, _, m5', _⟩ := set7 hp10
  have f5 := frM7 hp10 5
  have HP11 : Hid ((w10.setCell ⟨b4, 5, none⟩ (.slice fa9 N fc9)).heap[b4]? = some (.cells #[.string x1, .string x2, .int .i64 x3, .string x4, .int .i64 x5, .slice fa9 N fc9, .slice none 0 0] 28 (0, 0))) := Lib.hid (putM7 hp10 5 _)
  have H111 : Hid ((w10.setCell ⟨b4, 5, none⟩ (.slice fa9 N fc9)).heap[b]? = some (.cells #[.string ⟨#[]⟩, .string ⟨#[]⟩, .int .i64 0, .string ⟨#[]⟩, .int .i64 0, .slice none 0 0, .slice none 0 0] 28 (0, 0))) := Lib.hid (by
    have hne : b ≠ b4 := by have := HS9.out; omega
    rw [Below.heap_setCell _ _ _ _ (by simpa using hne)]; exact h110)
  have HB11 : Hid (Below w.heap.size w (w10.setCell ⟨b4, 5, none⟩ (.slice fa9 N fc9))) := Lib.hid (HB10.out.setCell (by show w.heap.size ≤ b4; have := HS9.out; have := HBE.out; omega) _)
  have HU11 : Hid (Buts b4 b w10 (w10.setCell ⟨b4, 5, none⟩ (.slice fa9 N fc9))) := Lib.hid ((Buts.refl b4 b w10).put 5 _)
  clear hBf hF10 hNK hoff hp10 h110 cW9 m5 HB9 HP9 H19 HB10
  go_upto_region 6 with fail
  generalize w10.setCell ⟨b4, 5, none⟩ (.slice fa9 N fc9) = w11 at *
  clear m5' f5
  go_wp2_with (first
    | (refine ldM HP11.out rfl (.tmp 4) rfl rfl ?_)
    | (refine stM7 H111.out rfl (.tmp 2) (.tmp 47) rfl _ _ _ _ _ _ _ (by simp [Value.oneCell']) rfl rfl ?_; intro w12 h12 hb12 hk12))
  (try simp only [Exit.inBlock, Exit.then])
  refine ret_msg1 rfl b _ _ _ _ _ _ _ rfl h12 rfl ?_
  have hbw : Below w.heap.size w w12 := HB11.out.trans (hb12 _ (by have := HBE.out; omega))
  refine ⟨⟨fa9, fc9, by trivial, ?_, HNK.out, HNEW.out⟩, hbw⟩
  have hz := hb12 0 (Nat.zero_le _)
  exact HF10.out.buts (HU11.out.trans ⟨hz.os, hz.tape, hz.output, hz.size, fun k _ _ h2 => hk12 k h2⟩) HOFF.out
end Go.Proofs.YtlbjjeonchcgbaaGreatDoor
