/- The program's map in memory: extents put in order; apart. -/
import Derived.Test.YtgfgafondiipoaaSvJ
import Derived.Shelf.SlSortCmp.NoneTotal
import Derived.Lib.OwnBridge
import Derived.Lib.SliceRun
namespace Go.Proofs.Ytgfgafondiipoaa
open Go.RowKit Go.Shelf Go.Lib Go.Sort

/-! ### the mathematics -/
/-- What apart's loop asks of extents that stand in order. -/
def chk (n : Nat) : Int → List Sp.Ext → Prop
  | _, [] => True
  | s, e :: t => Sp.RightE n e ∧ s ≤ e.1 ∧ chk n (e.1 + e.2) t
theorem chk_apart {n : Nat} : ∀ (l : List Sp.Ext) (s : Int), chk n s l → (∀ e ∈ l, Sp.RightE n e ∧ s ≤ e.1) ∧ l.Pairwise Sp.Off
  | [], _, _ => ⟨fun e he => (by cases he), List.Pairwise.nil⟩
  | e :: t, s, h => by
    obtain ⟨h1, h2, h3⟩ := h
    obtain ⟨i1, i2⟩ := chk_apart t _ h3
    refine ⟨fun x hx => ?_, List.pairwise_cons.2 ⟨fun x hx => .inl (i1 x hx).2, i2⟩⟩
    rcases List.mem_cons.1 hx with rfl | hx
    · exact ⟨h1, h2⟩
    · have := (i1 x hx)
      exact ⟨this.1, by have := h1.2.1; omega⟩
theorem apart_chk {n : Nat} : ∀ (l : List Sp.Ext) (s : Int), l.Pairwise (fun a b => a.1 ≤ b.1) → (∀ e ∈ l, Sp.RightE n e ∧ s ≤ e.1) → l.Pairwise Sp.Off → chk n s l
  | [], _, _, _, _ => trivial
  | e :: t, s, hs, hr, ho => by
    obtain ⟨s1, s2⟩ := List.pairwise_cons.1 hs
    obtain ⟨o1, o2⟩ := List.pairwise_cons.1 ho
    refine ⟨(hr e List.mem_cons_self).1, (hr e List.mem_cons_self).2, apart_chk t _ s2 (fun x hx => ⟨(hr x (List.mem_cons_of_mem _ hx)).1, ?_⟩) o2⟩
    have h1 := s1 x hx
    have h2 := (hr x (List.mem_cons_of_mem _ hx)).1
    rcases o1 x hx with h3 | h3
    · exact h3
    · have := h2.2.1; omega
theorem off_symm {e f : Sp.Ext} (h : Sp.Off e f) : Sp.Off f e := h.elim Or.inr Or.inl
theorem apart_iff {n : Nat} {es l : List Sp.Ext} (hp : l.Perm es) (hs : l.Pairwise (fun a b => a.1 ≤ b.1)) : Sp.Apart n es ↔ chk n 0 l := by
  constructor
  · intro h
    refine apart_chk l 0 hs (fun e he => ⟨h.1 e (hp.mem_iff.1 he), (h.1 e (hp.mem_iff.1 he)).1⟩) ?_
    exact (hp.pairwise_iff (fun h => off_symm h)).2 h.2
  · intro h
    obtain ⟨h1, h2⟩ := chk_apart l 0 h
    exact ⟨fun e he => (h1 e (hp.mem_iff.2 he)).1, (hp.pairwise_iff (fun h => off_symm h)).1 h2⟩

/-! ### Clone -/
set_option maxHeartbeats 1600000 in
set_option maxRecDepth 100000 in
theorem clone_w {G : Nat → Prop} (w : World) (v : Value) (es : List Sp.Ext) (hv : EsOut G w v es) (hl : es.length ≤ 1000) :
    Calls Try.prog 52 #[v] w fun e w' => ∃ v', e = .returned v' ∧ ERow w.heap.size (fun _ => False) w' v' es ∧ Below w.heap.size w w' := by
  obtain ⟨ao, cap, rfl, h1, h2, h3⟩ := id hv
  cases ao with
  | none =>
    obtain rfl : es = [] := by
      rcases h3 with h | ⟨b, o, e, _⟩
      · exact h
      · cases e
    have hcon := AnyE.slices_Clone_nil Try.cloneExt 0 cap w
    change Calls Try.prog 52 _ _ _ at hcon
    refine hcon.mono ?_
    rintro e w' ⟨rfl, rfl⟩
    exact ⟨_, rfl, ERow.empty _ _ _, Below.refl _ _⟩
  | some ad =>
    obtain ⟨n, hn⟩ : ∃ n, n = es.length := ⟨_, rfl⟩
    have HN := Lib.hid hn
    have hb0 : Below w.heap.size w (w.alloc (.cells #[] 35)) := (Below.refl _ w).alloc (Nat.le_refl _) _
    have hv0 := hv.later hb0
    have hE : ERow w.heap.size (fun _ => False) (w.alloc (.cells #[] 35)) (.slice (some ⟨w.heap.size, 0, none⟩) 0 0) [] := ⟨⟨rfl, .inr ⟨w.heap.size, 0, #[], rfl, Nat.zero_le _, heap_alloc_new w _, Nat.le_refl _, by decide, rfl, rfl⟩⟩, fun k hk => ⟨by cases hk; exact Nat.le_refl _, id⟩⟩
    rw [← hn] at hv0 hl h1 ⊢
    have q4 : (binOp .eql 31 (.slice (some ad) n cap) (.slice none 0 0)).run Try.prog w = .ok (.bool false) w := Lib.run_eql_slice_nil w _ _ (some ad) n cap 0 0 Try.underlying31
    have HE := Lib.hid hE
    have HV := Lib.hid hv0
    have HB := Lib.hid hb0
    clear hv h3 hE hv0 hb0 hn
    go_enter Try.func52, Try.ntmps52
    go_wp2_with (at_builtin; refine appEs HE.out HV.out HN.out (by rw [← HN.out]; simp; omega) HB.out.size (fun _ h => h.elim) rfl _ _ rfl rfl rfl ?_; intro v9 w9 hE9 ht9)
    go_ret
    exact ⟨_, rfl, hE9, ht9.below (fun k hk => (HE.out.own k hk).1) HB.out HB.out.size⟩

/-! ### SortFunc -/
theorem lt_ext (x y : Sp.Ext) : ltOf (fun x y : Sp.Ext => Lib.compareInt x.1 y.1) x y = decide (x.1 < y.1) := by
  unfold ltOf Lib.compareInt
  by_cases h1 : x.1 < y.1
  · simp [h1]
  · by_cases h2 : y.1 < x.1 <;> simp [h1, h2]
theorem swo_ext : SWO (ltOf fun x y : Sp.Ext => Lib.compareInt x.1 y.1) where
  irrefl x := by rw [lt_ext]; simp
  trans x y z h1 h2 := by rw [lt_ext] at *; simp at *; omega
  ntrans x y z h1 h2 := by rw [lt_ext] at *; simp at *; omega
set_option maxHeartbeats 1600000 in
set_option maxRecDepth 100000 in
theorem cmp_ext (x y : Sp.Ext) (W : World) : Calls Try.prog 54 #[.agg #[.int .i64 x.1, .int .i64 x.2], .agg #[.int .i64 y.1, .int .i64 y.2]] W fun e w' => e = .returned (.int .i64 (Lib.compareInt x.1 y.1)) ∧ ∃ q os', w' = grow (W.drewN q) os' := by
  have hcon := fun W' => AnyG.cmp_Compare_int Try.cmpInt x.1 y.1 W'
  change ∀ W', Calls Try.prog 55 _ _ _ at hcon
  generalize Lib.compareInt x.1 y.1 = r at hcon ⊢
  go_enter Try.func54, Try.ntmps54
  go_wp2_with (go_at_call 55; refine (hcon _).mono ?_; rintro e w' ⟨rfl, rfl⟩)
  go_ret
  exact ⟨rfl, 0, _, by rw [alloc_eq_grow, alloc_eq_grow, grow_grow]; rfl⟩
theorem holds_ext {B : Nat} {F : Nat → Prop} {w : World} {g n c : Nat} {es : List Sp.Ext} (h : ERow B F w (.slice (some ⟨g, 0, none⟩) n c) es) : HoldsK ecells 2 w g 0 es.toArray := by
  intro j hj
  rw [size_flatK] at hj
  have key : ∀ i, i < es.length → (w.cell? ⟨g, i * 2, none⟩ = some (.int .i64 es.toArray[i]!.1) ∧ w.cell? ⟨g, i * 2 + 1, none⟩ = some (.int .i64 es.toArray[i]!.2)) := fun i hi => by
    obtain ⟨g2, e, c1, c2⟩ := h.cell i hi
    cases e
    have hx : es.toArray[i]! = es[i] := by rw [getElem!_pos _ _ (by simpa using hi)]; rfl
    rw [hx]; exact ⟨c1, c2⟩
  refine ⟨?_, h.cellf _⟩
  rw [get_flatK _ _ _ _ hj, Nat.zero_add]
  simp only [List.size_toArray] at hj
  obtain ⟨i, hi⟩ : ∃ i, j = i * 2 ∨ j = i * 2 + 1 := ⟨j / 2, by omega⟩
  rcases hi with rfl | rfl
  · rw [show i * 2 / 2 = i from by omega, show i * 2 % 2 = 0 from by omega]
    exact (key i (by omega)).1
  · rw [show (i * 2 + 1) / 2 = i from by omega, show (i * 2 + 1) % 2 = 1 from by omega]
    exact (key i (by omega)).2
theorem sort_below {w0 w : World} {g m : Nat} {d : Array Sp.Ext} {os : Array Obj} (h : Below w0.heap.size w0 w) (hg : w0.heap.size ≤ g) : Below w0.heap.size w0 (sortWorldK ecells 2 w g 0 m d os) := by
  have h1 : Below w0.heap.size w0 (putRow id (Sort.ahead w m) g 0 (flatK ecells 2 d)) := below_putRow h hg
  refine h1.trans ⟨rfl, rfl, rfl, by unfold sortWorldK grow putRowK; simp, fun k hk => ?_⟩
  have hk2 : k < (putRow id (Sort.ahead w m) g 0 (flatK ecells 2 d)).heap.size := Nat.lt_of_lt_of_le hk h1.size
  show ((putRow id (Sort.ahead w m) g 0 (flatK ecells 2 d)).heap ++ os)[k]? = _
  rw [Array.getElem?_append_left hk2]
theorem sort_w (w0 w : World) (v : Value) (es : List Sp.Ext) (hb : Below w0.heap.size w0 w) (h : ERow w0.heap.size (fun _ => False) w v es) (hl : es.length ≤ 1000) :
    Calls Try.prog 53 #[v, .func (.func 54) #[] #[]] w fun e w' => e = .returned (.tuple #[]) ∧ Below w0.heap.size w0 w' ∧ ∃ l, l.Perm es ∧ l.Pairwise (fun a b => a.1 ≤ b.1) ∧ EsOut (fun _ => False) w' v l := by
  obtain ⟨a, c, rfl, h1, h2⟩ := own_shape h.row
  by_cases h0 : es = []
  · subst h0
    have hcon := AnyF.slices_SortFunc_none Try.sortExt a c (.func (.func 54) #[] #[]) w
    change Calls Try.prog 53 _ _ _ at hcon
    refine hcon.mono ?_
    rintro e w' ⟨rfl, rfl⟩
    exact ⟨rfl, hb, [], List.Perm.refl _, List.Pairwise.nil, ⟨a, c, rfl, h1, h2, .inl rfl⟩⟩
  · have hp : 0 < es.length := List.length_pos_iff.2 h0
    cases a with
    | none =>
      rcases h.row.2 with ⟨hv, hn⟩ | ⟨g, cap, cur, hv, _⟩
      · omega
      · cases hv
    | some ad =>
      obtain ⟨g, rfl, _⟩ := h.cell 0 hp
      have hg := h.own g rfl
      have hgl := h.lt g rfl
      have eg : ∀ args w, (callFunc 54 args).run Try.prog w = .ok (.enter 54 args) w := enters_of Try.func54 (by kernel_rfl) rfl
      have hH := holds_ext h
      have hcon := AnyQ.slices_SortFunc Try.sortExt 2 Try.isAgg35 Try.sizeOf35 ecells (fun _ => rfl) (fun x v hv => by simp [ecells] at hv; rcases hv with rfl | rfl <;> rfl) (fun x y => Lib.compareInt x.1 y.1) swo_ext 54 #[] g 0 c es.toArray w eg (fun _ _ _ _ x y => cmp_ext x y _) hH hgl (by simp; omega)
      change Calls Try.prog 53 _ _ _ at hcon
      simp only [List.size_toArray] at hcon
      refine hcon.mono ?_
      rintro e w' ⟨rfl, d', m, os, hperm, hsort, rfl⟩
      obtain ⟨p1, _, p3⟩ := hperm
      simp only [List.size_toArray] at p1
      have hl' : d'.toList.length = es.length := by simpa using p1
      have hH' := holdsK_sortWorldK_c ecells 2 w g 0 es.toArray d' m os hH hgl (by simpa using p1)
      refine ⟨rfl, sort_below hb hg.1, d'.toList, ?_, ?_, ?_⟩
      · have e1 : d'.extract 0 es.length = d' := by rw [← p1]; simp
        have e2 : es.toArray.extract 0 es.length = es.toArray := by simp
        rw [e1, e2] at p3
        simpa using p3
      · rw [List.pairwise_iff_getElem]
        intro i j hi hj hij
        have := hsort i j (Nat.zero_le _) hij (by omega)
        rw [lt_ext] at this
        have x1 : d'[j]! = d'.toList[j] := by rw [getElem!_pos _ _ (by simpa using hj)]; simp
        have x2 : d'[i]! = d'.toList[i] := by rw [getElem!_pos _ _ (by simpa using hi)]; simp
        rw [x1, x2] at this
        simp only [decide_eq_false_iff_not] at this
        omega
      · refine ⟨_, c, by rw [hl'], by omega, h2, .inr ⟨g, 0, rfl, ?_, id, fun k hk => ?_⟩⟩
        · have := size_sortWorldK_c ecells 2 w g 0 m d' os
          omega
        · have hk' : k < d'.size := by simpa using hk
          have c1 := (hH'.cell (i := k) (c := 0) hk' (by decide)).1
          have c2 := (hH'.cell (i := k) (c := 1) hk' (by decide)).1
          rw [getElem!_pos d' k hk'] at c1 c2
          exact ⟨c1, c2⟩

/-! ### apart -/
set_option maxHeartbeats 6400000 in
set_option maxRecDepth 100000 in
open Classical in
theorem apart_w {G : Nat → Prop} (w : World) (q b : Nat) (m : Sp.M) (v : Value) (es : List Sp.Ext) (h : PD w q b m) (hv : EsOut G w v es) (hi64 : ∀ e ∈ es, I64 e.1 ∧ I64 e.2) (hel : es.length ≤ 1000) :
    Calls Try.prog 46 #[.pointer (some ⟨q, 0, none⟩), v] w fun e w' => e = .returned (.bool (decide (Sp.Apart m.length es))) ∧ RowKit.Below w.heap.size w w' := by
  have HP := Lib.hid h
  have c1 := clone_w w v es hv hel
  have HI := Lib.hid hi64
  have HL := Lib.hid hel
  clear h hv hi64 hel
  go_enter Try.func46, Try.ntmps46
  go_wp2_with fail
  refine c1.mono ?_
  rintro e w1 ⟨v1, rfl, hE1, hb1⟩
  have c2 := sort_w w w1 v1 es hb1 hE1 HL.out
  clear c1 hE1 hb1
  go_wp2_with fail
  refine c2.mono ?_
  rintro e w2 ⟨rfl, hb2, l, hperm, hsort, hE2⟩
  have HB2 := Lib.hid hb2
  have HA := Lib.hid (apart_iff (n := m.length) hperm hsort)
  have HLI : Hid (∀ e ∈ l, I64 e.1 ∧ I64 e.2) := Lib.hid (fun e he => HI.out e (hperm.mem_iff.1 he))
  have hll : l.length ≤ 1000 := by rw [hperm.length_eq]; exact HL.out
  obtain ⟨ao, cap, rfl, hc1, hc2, hg⟩ := hE2
  have HG := Lib.hid hg
  obtain ⟨L, hL⟩ : ∃ L, L = l.length := ⟨_, rfl⟩
  have HLL := Lib.hid hL
  rw [← hL] at hc1 hll ⊢
  clear c2 hb2 hperm hsort hg hL
  go_upto_region 5 with fail
  go_loopw [6, 15] (fun vs vi wr => ∃ (k : Nat) (s : Int), k ≤ L ∧ vs = .int .i64 s ∧ vi = .int .i64 k ∧ Hid (0 ≤ s ∧ s ≤ 65536) ∧ Hid (chk m.length 0 l ↔ chk m.length s (l.drop k)) ∧ Hid (RowKit.Below w2.heap.size w2 wr)) (fun _ vi _ => L - (intOf vi).toNat)
  case atStart => exact ⟨0, 0, Nat.zero_le _, rfl, rfl, Lib.hid ⟨by decide, by decide⟩, Lib.hid Iff.rfl, Lib.hid (RowKit.Below.refl _ _)⟩
  case round =>
    obtain ⟨k, s, hk, rfl, rfl, HSR, HC, HB⟩ := hrel
    by_cases hlt : k < L
    · have hki : (k : Int) < L := by omega
      have hkm : k < l.length := by rw [← HLL.out]; exact hlt
      obtain ⟨b1, o1, hx1, hl1, _, hcc⟩ := HG.out.resolve_left (fun x => by rw [x] at hkm; simp at hkm)
      subst hx1
      have f1 := cell_later HB.out (hcc k hkm).1
      have f2 := cell_later HB.out (hcc k hkm).2
      have HD : Hid (l.drop k = l[k] :: l.drop (k + 1)) := Lib.hid (List.drop_eq_getElem_cons hkm)
      have h64 := HLI.out _ (List.getElem_mem hkm)
      clear hcc
      obtain ⟨x, hx⟩ : ∃ x, x = l[k] := ⟨_, rfl⟩
      rw [← hx] at f1 f2 HD h64
      clear hx
      obtain ⟨p, z⟩ := x
      simp only at f1 f2
      obtain ⟨hp64, hz64⟩ := h64
      have hb1 : RowKit.Below wr.heap.size wr (wr.alloc (.cells #[.int .i64 p, .int .i64 z] 35)) := (RowKit.Below.refl _ wr).alloc (Nat.le_refl _) _
      have HB1 := Lib.hid (bt5 HB.out hb1)
      have HP1 := Lib.hid (HP.out.later (HB2.out.trans ((HB.out.trans (hb1.mono HB.out.size)).mono HB2.out.size)))
      have HX := Lib.hid (heap_alloc_new wr (.cells #[.int .i64 p, .int .i64 z] 35))
      obtain ⟨gx, hgx⟩ : ∃ g, g = wr.heap.size := ⟨_, rfl⟩
      go_upto_region 7 with fail
      rw [← hgx] at HX ⊢
      clear hgx f1 f2 hb1 HB
      generalize wr.alloc _ = w5 at HB1 HP1 HX ⊢
      have c9 := right_w w5 q b m (p, z) HP1.out hp64 hz64
      have x0 := (blk_cell HX.out 0 _ rfl).1
      have x1 := (blk_cell HX.out 1 _ rfl).1
      simp only [List.getElem_toArray, List.getElem_cons_zero, List.getElem_cons_succ] at x0 x1
      unfold ext at c9
      by_cases hR : Sp.RightE m.length (p, z)
      · rw [decide_eq_true hR] at c9
        have HRR := Lib.hid hR
        by_cases hs : p < s
        · have HN : Hid (¬ Sp.Apart m.length es) := Lib.hid (fun ha => by
            have := HC.out.1 (HA.out.1 ha)
            rw [HD.out] at this
            have h2 := this.2.1
            simp only at h2
            omega)
          clear hR
          go_wp2_with fail
          refine c9.mono ?_
          rintro e w7 ⟨rfl, hb7⟩
          have HB7 := Lib.hid (bt5 HB1.out hb7)
          have y0 := cell_later hb7 x0
          have y1 := cell_later hb7 x1
          clear c9 hb7 x0 x1
          go_wp2_with fail
          go_ret
          exact ⟨by rw [decide_eq_false HN.out]; rfl, HB2.out.trans (HB7.out.mono HB2.out.size)⟩
        · have hs2 : s ≤ p := by omega
          obtain ⟨r1, r2, r3, r4⟩ := hR
          simp only at r1 r2 r3 r4
          have hlen := HP.out.len
          have hw : IntKind.i64.wrap (p + z) = p + z := by rw [IntKind.wrap_i64]; omega
          have HSR2 : Hid (0 ≤ p + z ∧ p + z ≤ 65536) := Lib.hid ⟨by omega, by omega⟩
          have HC2 : Hid (chk m.length 0 l ↔ chk m.length (p + z) (l.drop (k + 1))) := Lib.hid (HC.out.trans (by
            rw [HD.out]
            exact ⟨fun h => h.2.2, fun h => ⟨HRR.out, hs2, h⟩⟩))
          clear r1 r2 r3 r4 hlen
          go_wp2_with fail
          refine c9.mono ?_
          rintro e w7 ⟨rfl, hb7⟩
          have HB7 := Lib.hid (bt5 HB1.out hb7)
          have y0 := cell_later hb7 x0
          have y1 := cell_later hb7 x1
          clear c9 hb7 x0 x1
          go_wp2_with fail
          go_roundw
          case rel => exact ⟨k + 1, p + z, by omega, rfl, by go_num, HSR2, HC2, HB7⟩
          case measure => simp [intOf]; omega
      · rw [decide_eq_false hR] at c9
        have HN : Hid (¬ Sp.Apart m.length es) := Lib.hid (fun ha => by
          have := HC.out.1 (HA.out.1 ha)
          rw [HD.out] at this
          exact hR this.1)
        clear hR
        go_wp2_with fail
        refine c9.mono ?_
        rintro e w7 ⟨rfl, hb7⟩
        have HB7 := Lib.hid (bt5 HB1.out hb7)
        clear c9 hb7
        go_wp2_with fail
        go_ret
        exact ⟨by rw [decide_eq_false HN.out]; rfl, HB2.out.trans (HB7.out.mono HB2.out.size)⟩
    · have hki : ¬ (k : Int) < L := by omega
      have HY : Hid (Sp.Apart m.length es) := Lib.hid (HA.out.2 (HC.out.2 (by rw [List.drop_eq_nil_of_le (by rw [← HLL.out]; omega)]; trivial)))
      go_wp2_with fail
      go_ret
      exact ⟨by rw [decide_eq_true HY.out]; rfl, HB2.out.trans (HB.out.mono HB2.out.size)⟩
end Go.Proofs.Ytgfgafondiipoaa
