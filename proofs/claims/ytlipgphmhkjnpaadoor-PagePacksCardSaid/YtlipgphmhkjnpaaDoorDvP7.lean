/- Package device: faults told; what a crash leaves. -/
import Derived.Test.YtlipgphmhkjnpaaDoorDvP6
import Derived.Test.YtlipgphmhkjnpaaDoorDvP4
import Derived.Deep.Upon
namespace Go.Proofs.YtlipgphmhkjnpaaDoor
open Go.RowKit

/-! ### whose blocks -/
def Own0 (g bs bv : Nat) (wv : Value) : Nat → Prop := fun k => k = g ∨ k = bs ∨ k = bv ∨ wv.ownBlock = some k
section
variable {w w' : World} {g n bs bv : Nat} {F F' : Nat → Prop} {wv fv cn cl : Value} {S V : List Dv.Sec} {W : List (Nat × Dv.Sec)}
theorem Med.own (h : Med w g F n bs bv wv fv cn cl S V W) : Med w g (Own0 g bs bv wv) n bs bv wv fv cn cl S V W :=
  ⟨h.blk, h.sure, h.seen, h.wait, h.ne, .inl rfl, .inr (.inl rfl), .inr (.inr (.inl rfl)), fun _ hk => .inr (.inr (.inr hk)), h.lS, h.lV, h.le, h.gS, h.gV, h.gW⟩
theorem Med.own_le (h : Med w g F n bs bv wv fv cn cl S V W) : ∀ k, Own0 g bs bv wv k → F k := by
  rintro k (rfl | rfl | rfl | hk)
  · exact h.hg
  · exact h.hs
  · exact h.hv
  · exact h.hw k hk
theorem Med.foot (h : Med w g F n bs bv wv fv cn cl S V W) (hF : ∀ k, Own0 g bs bv wv k → F' k) : Med w g F' n bs bv wv fv cn cl S V W := h.own.mono hF
theorem Fails.off {bad : List Int} {fv' : Value} (hf : Fails w F fv' bad) (h : Med w g F n bs bv wv fv cn cl S V W) (ht : Touch (Own0 g bs bv wv) w w') : Fails w' F fv' bad := by
  obtain ⟨zs, h1, h2, h3, h4, h5⟩ := hf
  refine ⟨zs, h1.keep fun hn k hk => ht.block k (h1.lt hn k hk) ?_, h2, h3, h4, h5⟩
  obtain ⟨ao, cap, hv, _, _, h6⟩ := h1
  obtain ⟨b, e, C, hC, _⟩ := h6.resolve_left hn
  rw [hv, e] at hk
  cases hk
  rintro (e9 | e9 | e9 | e9)
  · exact ne_block hC h.blk (by decide) e9
  · exact ne_block hC h.sure (by decide) e9
  · exact ne_block hC h.seen (by decide) e9
  · exact h.wait.ne hC (by decide) _ e9 rfl
end
theorem BsOut.anti {F F' : Nat → Prop} {w : World} {v : Value} {ls : List (List UInt8)} (h : BsOut F w v ls) (hF : ∀ k, F' k → F k) : BsOut F' w v ls := by
  obtain ⟨ao, cap, hv, h1, h2, h3⟩ := h
  refine ⟨ao, cap, hv, h1, h2, ?_⟩
  rcases h3 with h | ⟨b, o, e, hb, hn, hc⟩
  · exact .inl h
  · refine .inr ⟨b, o, e, hb, fun hf => hn (hF b hf), fun j hj => ?_⟩
    obtain ⟨u, hu, h4, h5, h6⟩ := hc j hj
    exact ⟨u, hu, h4, h5, fun ad n c e2 hl hf => h6 ad n c e2 hl (hF _ hf)⟩

/-! ### Fail -/
theorem int_info : (Tryd.prog.info? 3).map (fun i => (i.zero, i.size, i.bytes)) = some (some (.int .i64 0), 1, 8) := by kernel_rfl
theorem append_ints {F : Nat → Prop} (w : World) (ty : TypeId) (v : Value) (l : List Int) (h : IOut F w v l) (hl : l.length ≤ 100000) : ∃ v' w', (Builtin.append_ #[43, 43] ty #[.slice none 0 0, v]).run Tryd.prog w = .ok v' w' ∧ w'.ownsRow w.heap.size 3 1 v' l.length (l.map (Value.int .i64)) ∧ Below w.heap.size w w' := by
  obtain ⟨i0, hi, hz0, hz1, hz2⟩ := info_parts int_info
  obtain ⟨ao, cap, rfl, h1, h2, h3⟩ := h
  cases ao with
  | none =>
    have h0 : l = [] := by
      rcases h3 with h | ⟨b, o, h, _⟩
      · exact h
      · cases h
    subst h0
    have hr := run_append_nothing (P := Tryd.prog) w 43 43 ty 3 i0 Tryd.underlying43 hi none 0 0 (Nat.le_refl _) _ (Src.ofNil w Tryd.underlying43 cap)
    exact ⟨_, _, hr, World.ownsRow_nil _ _ _ _, Below.refl _ _⟩
  | some ad =>
    obtain ⟨v', w', hr, ho, hg, _⟩ := run_append_own (P := Tryd.prog) w w.heap.size 43 ty 3 i0 (.int .i64 0) 1 8 Tryd.underlying43 hi hz0 hz1 hz2 rfl (by decide) (.slice none 0 0) 0 [] (World.ownsRow_nil _ _ _ _) ad l.length cap (l.map (Value.int .i64)) (by simp) (fun j u hj => by
      rcases h3 with h | ⟨b, o, h, hb, hF, hc⟩
      · subst h; simp at hj
      · cases h
        have hjl : j < l.length := by have := (List.getElem?_eq_some_iff.1 hj).1; simpa using this
        rw [Addr.add_lit, hc j hjl, ← hj]
        simp [hjl]) (fun u hu => by obtain ⟨x, _, rfl⟩ := List.mem_map.1 hu; rfl) (by unfold maxLen; omega) (by omega) (Nat.le_refl _)
    rw [Nat.zero_add, List.nil_append] at ho
    exact ⟨v', w', hr, ho, ⟨hg.os, hg.tape, hg.output, hg.size, fun k hk => hg.block k hk (fun e => by cases e)⟩⟩
theorem wpList_append_ints {ops : Array Oper} {rest : List Oper} {o : Oper} {a : Act} {Q : Exit → Act → World → Prop} {F : Nat → Prop} {w : World} {v : Value} {l : List Int} (hgd : o.guard = none) (x : Operand)
    (ho : o.op = .call { callee := .builtin .append, args := #[.const (.slice none 0 0), x], argTypes := #[43, 43] }) (hx : a.eval x = v) (h : IOut F w v l) (hl : l.length ≤ 100000)
    (hK : ∀ v' w', w'.ownsRow w.heap.size 3 1 v' l.length (l.map (Value.int .i64)) → Below w.heap.size w w' → wpList Tryd.prog ops Q rest (a.put o.dst v') w') : wpList Tryd.prog ops Q (o :: rest) a w :=
  wpList_plain hgd fun K hk => by
    obtain ⟨v', w', hr, h2, h3⟩ := append_ints w o.type v l h hl
    unfold Oper.wp execOp
    have hc : a.eval (.const (.slice none 0 0)) = .slice none 0 0 := rfl
    simp only [ho, resolve, invoke, builtin, Sem.run_bind, Sem.run_pure, Result.andThen_ok, List.map_toArray, List.map_cons, List.map_nil, hc, hx, hr]
    exact hk _ _ (hK v' w' h2 h3)
def sorted (l : List Int) : List Int := l.mergeSort fun x y => decide (x ≤ y)
theorem sorted_length (l : List Int) : (sorted l).length = l.length := List.length_mergeSort l
theorem sorted_pairwise (l : List Int) : (sorted l).Pairwise (· ≤ ·) := by
  have := List.pairwise_mergeSort (le := fun x y : Int => decide (x ≤ y)) (fun a b c h1 h2 => by simp only [decide_eq_true_eq] at *; omega) (fun a b => by simp only [Bool.or_eq_true, decide_eq_true_eq]; omega) l
  exact this.imp (fun h => by simpa using h)
theorem sorted_contains (l : List Int) (x : Int) : (sorted l).contains x = l.contains x := by
  rw [Bool.eq_iff_iff]
  simp [sorted]
/-- slices.Sort of a row of numbers of the call's own. -/
theorem sort_w {base : Nat} (v : Value) (l : List Int) (w : World) (h : w.ownsRow base 3 1 v l.length (l.map (Value.int .i64))) (hl : l.length ≤ 100000) :
    Calls Tryd.prog 46 #[v] w fun e w' => e = .returned (.tuple #[]) ∧ w'.ownsRow base 3 1 v l.length ((sorted l).map (Value.int .i64)) ∧ Touch (fun k => v.ownBlock = some k) w w' := by
  rcases h.2 with ⟨rfl, h0⟩ | ⟨g, cap, cur, rfl, hb, hg, h1, h2, h3, h4⟩
  · have hl0 : l = [] := List.eq_nil_of_length_eq_zero h0
    subst hl0
    refine (Tryd.slices_Sort_int_none none 0 w).mono ?_
    rintro e w' ⟨rfl, rfl⟩
    have e : sorted [] = [] := List.mergeSort_nil
    refine ⟨rfl, ?_, Touch.refl _ _⟩
    rw [e]
    exact h
  · obtain ⟨g', cap', hv, _, hlt, _, _, _, hH⟩ := Lib.holds_of_ownsRow (enc := Value.int .i64) h (fun e => by cases e)
    cases hv
    refine (Tryd.slices_Sort_int g 0 cap l w hH hlt (by omega)).mono ?_
    rintro e w' ⟨rfl, nn, os, rfl⟩
    have hR := Lib.ownsRow_putRow (q := nn) (k := l.length) (ys := sorted l) h (sorted_length l) (Nat.le_refl _)
    have hkeep : ∀ k, k < w.heap.size → (Go.Sort.grow (Go.Sort.putRow (Value.int .i64) (Go.Sort.ahead w nn) g 0 (sorted l).toArray) os).heap[k]? = (Go.Sort.putRow (Value.int .i64) (Go.Sort.ahead w nn) g 0 (sorted l).toArray).heap[k]? := fun k hk => by
      rw [Go.Sort.heap_grow_old _ _ (by simpa [Go.Sort.putRow, Go.Sort.mapBlock, Go.Sort.ahead] using hk)]
    refine ⟨rfl, ?_, ⟨rfl, rfl, rfl, by simp [Go.Sort.grow, Go.Sort.putRow, Go.Sort.mapBlock, Go.Sort.ahead], fun k hk hne => ?_⟩⟩
    · have hR2 := ownsRow_keep hR (fun k hk => by cases hk; exact hkeep g hlt)
      rw [List.take_of_length_le (by rw [sorted_length]; exact Nat.le_refl _)] at hR2
      exact hR2
    · have hgk : g ≠ k := fun e => hne (by rw [e]; rfl)
      refine (hkeep k hk).trans ?_
      simp [Go.Sort.putRow, Go.Sort.mapBlock, Go.Sort.ahead, Array.getElem?_modify, hgk]

set_option maxHeartbeats 1600000 in
set_option maxRecDepth 100000 in
theorem fail_w (g : Nat) (d : Dv.S) (F : Nat → Prop) (v : Value) (l : List Int) (w : World) (h : Dev13 w g d F) (hv : IOut F w v l) (hl : l.length ≤ 100000) :
    Calls Tryd.prog 23 #[.pointer (some ⟨g, 0, none⟩), v] w fun e w' => ∃ F' x, e = .returned x ∧ Dev13 w' g (Dv.fail d l) F' ∧ Touch F w w' ∧ More F F' w := by
  obtain ⟨⟨n, bs, bv, wv, fv, L, hM, hL, hf⟩, hlt⟩ := h
  have HM := Lib.hid hM
  have HLT := Lib.hid hlt
  have HL := Lib.hid hL
  have HV := Lib.hid hv
  obtain ⟨av, cv, rfl, _⟩ := id hv
  have hv2 := HV.out
  clear hM hlt hL hf hv
  go_enter Tryd.func23, Tryd.ntmps23
  go_upto_region 1 with (refine wpList_append_ints rfl (.tmp 5) rfl rfl hv2 hl ?_; intro v1 w1 ho1 hb1; have HO1 := Lib.hid ho1; have HB1 := Lib.hid hb1; obtain ⟨a1, c1, rfl, _, _⟩ := own_shape ho1; have c3 := (HM.out.later hb1).c3; have f3 := (HM.out.later hb1).free 3; clear ho1 hb1)
  have hgw := lt_of_block HM.out.blk
  have hM1 := HM.out.later HB1.out
  have hne : ∀ k, (Value.slice a1 l.length c1).ownBlock = some k → w.heap.size ≤ k := fun k hk => (World.ownsRow.lt HO1.out k hk).1
  have hb2 := heap_setCell_same w1 g 3 _ _ (.slice a1 l.length c1) hM1.blk
  have ho2 : (w1.setCell ⟨g, 3, none⟩ (.slice a1 l.length c1)).ownsRow w.heap.size 3 1 (.slice a1 l.length c1) l.length (l.map (Value.int .i64)) := ownsRow_keep HO1.out (fun k hk => heap_setCell_other w1 ⟨g, 3, none⟩ k _ (show k ≠ g by have := hne k hk; omega))
  have ht2 : Touch (fun k => k = g) w1 (w1.setCell ⟨g, 3, none⟩ (.slice a1 l.length c1)) := Touch.cell (F := fun k => k = g) rfl 3 _
  generalize w1.setCell ⟨g, 3, none⟩ (.slice a1 l.length c1) = w2 at hb2 ho2 ht2 ⊢
  have d3 := (blk_cell hb2 3 _ rfl).1
  have cS := sort_w _ l w2 ho2 hl
  have HB2 := Lib.hid hb2
  have HT2 := Lib.hid ht2
  have HNE := Lib.hid hne
  have HGW := Lib.hid hgw
  clear hM1 hb2 ho2 ht2 hne c3 f3 hgw
  go_wp2_with fail
  refine cS.mono ?_
  rintro e w3 ⟨rfl, ho3, ht3⟩
  have kg : w3.heap[g]? = w2.heap[g]? := ht3.block g (lt_of_block HB2.out) (fun e => by have := HNE.out g e; have := HGW.out; omega)
  have hb3 := kg.trans HB2.out
  have c4 := blk_cell hb3 4 _ rfl
  have HO3 := Lib.hid ho3
  have HT3 := Lib.hid ht3
  have HB3 := Lib.hid hb3
  clear ho3 ht3 kg hb3 d3 cS
  go_wp2_with fail
  go_end0
  have hb4 := heap_setCell_same w3 g 4 _ _ (.int .i64 0) HB3.out
  have ht4 : Touch (fun k => k = g) w3 (w3.setCell ⟨g, 4, none⟩ (.int .i64 0)) := Touch.cell (F := fun k => k = g) rfl 4 _
  generalize w3.setCell ⟨g, 4, none⟩ (.int .i64 0) = w4 at hb4 ht4 ⊢
  have ks : ∀ k, k < w.heap.size → k ≠ g → w4.heap[k]? = w.heap[k]? := fun k hk hn => by
    have s1 := HB1.out.size
    have s2 := HT2.out.size
    have s3 := HT3.out.size
    rw [ht4.block k (by omega) hn, HT3.out.block k (by omega) (fun e => by have := HNE.out k e; omega), HT2.out.block k (by omega) hn, HB1.out.block k hk]
  have hsz : w.heap.size ≤ w4.heap.size := Nat.le_trans HB1.out.size (Nat.le_trans HT2.out.size (Nat.le_trans HT3.out.size ht4.size))
  have ho4 : w4.ownsRow w.heap.size 3 1 (.slice a1 l.length c1) l.length ((sorted l).map (Value.int .i64)) := ownsRow_keep HO3.out (fun k hk => ht4.block k (World.ownsRow.lt HO3.out k hk).2 (fun e => by have := HNE.out k hk; have := HGW.out; omega))
  have hM4 : Med w4 g F n bs bv wv (.slice a1 l.length c1) (.int .i64 0) (.int .i64 L) d.safe (Dv.sees d) d.wait := HM.out.block hb4 (fun k hk _ hn => ks k hk hn)
  refine ⟨fun k => F k ∨ (Value.slice a1 l.length c1).ownBlock = some k, _, rfl, ⟨⟨n, bs, bv, wv, _, L, hM4.mono (fun k hk => .inl hk), HL.out, sorted l, ?_, sorted_pairwise l, sorted_contains l, by rw [sorted_length]; omega, fun k _ hk => .inr hk⟩, ?_⟩, ⟨?_, ?_, ?_, hsz, fun k hk hn => ks k hk (fun e => hn (by rw [e]; exact HM.out.hg))⟩, ?_⟩
  · rcases ho4.2 with ⟨h0, h1⟩ | ⟨q, cap, cur, h0, h1, h2, h3, h4, h5, h6⟩
    · have hl0 : sorted l = [] := List.eq_nil_of_length_eq_zero (by rw [sorted_length]; exact h1)
      exact ⟨none, 0, by rw [h0, hl0]; rfl, by rw [hl0]; decide, by decide, .inl hl0⟩
    · refine ⟨_, cap, by rw [sorted_length]; exact h0, by rw [sorted_length]; exact h3, by unfold maxLen at h4; omega, .inr ⟨q, rfl, cur, h2, fun j hj => ?_⟩⟩
      have hjl : j < l.length := by rw [sorted_length] at hj; exact hj
      have e6 : (cur.toList.take (l.length * 1))[j]? = ((sorted l).map (Value.int .i64))[j]? := by rw [h6]
      rw [List.getElem?_take_of_lt (by omega), List.getElem?_map, List.getElem?_eq_getElem hj] at e6
      simpa using e6
  · rintro k (hk | hk)
    · have := HLT.out k hk; omega
    · exact (World.ownsRow.lt ho4 k hk).2
  · exact ht4.os.trans (HT3.out.os.trans (HT2.out.os.trans HB1.out.os))
  · exact ht4.tape.trans (HT3.out.tape.trans (HT2.out.tape.trans HB1.out.tape))
  · exact ht4.output.trans (HT3.out.output.trans (HT2.out.output.trans HB1.out.output))
  · rintro k (hk | hk)
    · exact .inl hk
    · exact .inr (HNE.out k hk)
end Go.Proofs.YtlipgphmhkjnpaaDoor
