/- The program's package page: Sectors, walked. -/
import Derived.Test.YtlipgphmhkjnpaaDoorPgW5
namespace Go.Proofs.YtlipgphmhkjnpaaDoor
open Go.RowKit Go.Shelf
attribute [local go_sem] Oper.semAt_some

theorem chunk_stops (F : Fence) (n : Nat) (h58 : F.fn 58) (hro : F.round = none) (hn : 1 ≤ n) (b1 b2 : Nat) (w : World) (ao : Option Addr) (L cap : Nat) (s : List UInt8) (hs : BIn w (.slice ao L cap) s) (hL6 : L ≤ 1000000) (w0 : World) (hb : Below w.heap.size w w0) (h1 : b1 < w0.heap.size) (h2 : b2 < w0.heap.size)
    (hc1 : w0.cell? ⟨b1, 0, none⟩ = some (.slice ao L cap)) (hc2 : w0.cell? ⟨b2, 0, none⟩ = some (.int .i64 64)) :
    SeqStopsK F n Tryd.prog 58 #[.pointer (some ⟨b1, 0, none⟩), .pointer (some ⟨b2, 0, none⟩)] (fun x : Prt w => #[x.1.1]) (KP w.heap.size b1 b2) (fun ys => prts ys = Pg.sectors s) (fun _ => True) ((L + 63) / 64) w0 := fun l J Jx W hW hJ _ hY h0 =>
  chunk1_in F n h58 hro hn l b1 b2 w ao L cap s hs J Jx (fun pre W hj => hJ pre W W.drew none hj (grown_drew W) (fun r e => by cases e)) hY W (hb.trans (hW.mono hb.size)) ((hW.cell (p := ⟨b1, 0, none⟩) h1).trans hc1) ((hW.cell (p := ⟨b2, 0, none⟩) h2).trans hc2) hL6 h0

set_option maxHeartbeats 4000000 in
set_option maxRecDepth 100000 in
theorem sectors_in (F : Fence) (n : Nat) (h27 : F.fn 27) (h48 : F.fn 48) (h58 : F.fn 58) (hro : F.round = none) (hn : 3 ≤ n) (v : Value) (l : List UInt8) (w : World) (h : BIn w v l) (hl : l.length ≤ 1000000) :
    CallsIn F n Tryd.prog 27 #[v] w fun e w' => ∃ u, e = .returned u ∧ SecRow w w' u (Pg.sectors l) := by
  have h1 : 1 ≤ n := by omega
  have hs := h
  obtain ⟨ao, cap, rfl, hlc, hc9, _⟩ := h
  obtain ⟨L, hL⟩ : ∃ L, L = l.length := ⟨_, rfl⟩
  rw [← hL] at hlc hl hs ⊢
  clear hL
  refine callsIn_of_wp_marks Tryd.func27 rfl h27 ?_ hro
  simp only [Tryd.ntmps27, List.size_toArray, List.length_cons, List.length_nil, Nat.reduceAdd, Nat.reduceSub, Array.replicate_succ, Array.replicate_zero, List.push_toArray, List.append_toArray, List.nil_append, List.cons_append]
  gi_wp2_with (gi_at_call 48; refine (chunk_in F (n - 1) h48 hro _ _ _ _).mono ?_; rintro e w' ⟨rfl, rfl⟩)
  obtain ⟨W0, hW0⟩ : ∃ W0, ((w.alloc (.cells #[.slice none 0 0] 22)).alloc (.cells #[.slice ao L cap] 23)).alloc (.cells #[.int .i64 64] 3) = W0 := ⟨_, rfl⟩
  have hs0 : W0.heap.size = w.heap.size + 3 := by rw [← hW0]; simp
  have bO : Boxed W0 w.heap.size 22 (.slice none 0 0) := by rw [← hW0]; exact ((Boxed.new w _ _).alloc _).alloc _
  have b1 : Boxed W0 (w.heap.size + 1) 23 (.slice ao L cap) := by
    rw [← hW0]
    have := (Boxed.new (w.alloc (.cells #[.slice none 0 0] 22)) 23 (.slice ao L cap)).alloc (.cells #[.int .i64 64] 3)
    rwa [World.size_alloc] at this
  have b2 : Boxed W0 (w.heap.size + 1 + 1) 3 (.int .i64 64) := by
    rw [← hW0]
    have := Boxed.new ((w.alloc (.cells #[.slice none 0 0] 22)).alloc (.cells #[.slice ao L cap] 23)) 3 (.int .i64 64)
    rwa [World.size_alloc, World.size_alloc] at this
  have hB0 : Below w.heap.size w W0 := by rw [← hW0]; exact (((Below.refl _ w).alloc (Nat.le_refl _) _).alloc (by simp) _).alloc (by simp; omega) _
  rw [hW0]
  clear hW0
  obtain ⟨B0, hB0e⟩ : ∃ B, B = w.heap.size := ⟨_, rfl⟩
  rw [← hB0e] at bO b1 b2 hs0 ⊢
  have HBE := Lib.hid hB0e
  clear hB0e
  refine wpIn_rangeFunc_ownG hro h1 (gf := 58) (lb := #[.pointer (some ⟨B0 + 1, 0, none⟩), .pointer (some ⟨B0 + 1 + 1, 0, none⟩)]) rfl h58 (enters_of Tryd.func58 (by kernel_rfl) rfl)
    (chunk_stops F (n - 1) h58 hro (by omega) (B0 + 1) (B0 + 1 + 1) w ao L cap l hs hl W0 hB0 (by omega) (by omega) b1.cell b2.cell) (fun h k => KP.t h k) (KP.b hB0.size (by omega) (by omega)) (Below.refl _ _) (fun _ => rfl)
    (fun pre W => (∃ u, Boxed W B0 22 u ∧ SRow W0.heap.size W u (prts pre)) ∧ Below w.heap.size w W ∧ W0.heap.size ≤ W.heap.size)
    (fun _ _ _ => False)
    (OwnFrom.and (fun s A B row hs hg hr => by
      obtain ⟨u, hv, hR⟩ := hs
      refine ⟨u, hv.kept hg (fun e => ?_), hR.grown hg (fun r e => (hr r e).2)⟩
      have := (hr B0 e.symm).1
      omega) (OwnFrom.and (ownFrom_below (Nat.le_refl _) hB0.size) (fun s A B row hs hg hr => Nat.le_trans hs hg.size)))
    (fun _ _ _ _ _ hs _ _ => hs)
    ⟨⟨_, bO, SRow.nil _ _⟩, hB0, Nat.le_refl _⟩
    (fun x => { tmps := #[.slice ao L cap, undef, .slice none 0 0, .pointer (some ⟨B0, 0, none⟩), x.1.1, undef, .slice ao L cap, .func (.func 58) #[] #[.pointer (some ⟨B0 + 1, 0, none⟩), .pointer (some ⟨B0 + 1 + 1, 0, none⟩)], x.1.1, undef, undef, undef, undef, undef, undef, undef, undef, undef], defers := [] }) ?assign ?body ?done ?stop
  case assign =>
    intro l x W K hK
    gi_wp2
    exact hK
  case body =>
    rintro l9 pre x W ⟨⟨u, hv, hR⟩, hB, hn0W⟩ hlt
    obtain ⟨us9, h91, h92, _⟩ := id hR
    have hpl : (prts pre).length ≤ 1000000 := by unfold prts; rw [List.length_map]; omega
    obtain ⟨⟨xv, xs⟩, hx64, hxn, hxb⟩ := x
    have hmk : (Instr.makeSlice 23 (.int .i64 64) (.int .i64 64)).run Tryd.prog W = .ok (.slice (some ⟨W.heap.size, 0, none⟩) 64 64) (W.alloc (.cells (madeCells #[.int .u8 0] 64) 5)) := run_make_row' (P := Tryd.prog) 23 5 (.int .u8 0) 1 Tryd.underlying23 bytes_info rfl .i64 .i64 64 (by omega) (by omega) W
    have hm1 := Blk.made W 64
    have hb1 : Below W.heap.size W (W.alloc (.cells (madeCells #[.int .u8 0] 64) 5)) := (Below.refl _ W).alloc (Nat.le_refl _) _
    have hxb1 : BIn (W.alloc (.cells (madeCells #[.int .u8 0] 64) 5)) xv xs := hxb _ (bt5 hB hb1)
    have hx64' : xs.length ≤ 64 := hx64
    have HX := Lib.hid (And.intro hv (And.intro hR (And.intro hB (And.intro hx64' hpl))))
    have hnW : W0.heap.size ≤ W.heap.size := hn0W
    have HS0 := Lib.hid (And.intro hs0 hnW)
    have HSN : Hid (prts (pre ++ [(⟨(xv, xs), hx64, hxn, hxb⟩ : Prt w)]) = prts pre ++ [Pg.pad xs]) := Lib.hid (prts_snoc _ _)
    gi_wp2_with (first
      | (gi_at_builtin; refine wpListIn_append_go rfl (.tmp 13) (.tmp 15) rfl rfl rfl rfl hrun ?_)
      | (refine wpListIn_copy_in rfl (.tmp 10) (.tmp 11) rfl rfl rfl rfl (off := 0) hm1 hxb1 hx64 (by rw [List.length_replicate]; omega) (fun _ => rfl) rfl ?_; intro w2 HB2 HK2; obtain ⟨hc2, v', w', hrun, ⟨g9, k9, c9, rfl⟩, hc9', hf9, HEND⟩ := sec_step HX.out.1 HX.out.2.1 HX.out.2.2.1 (by have := HS0.out.1; omega) HS0.out.2 (Nat.le_of_eq HBE.out.symm) HX.out.2.2.2.1 HX.out.2.2.2.2 HB2 HK2))
    exact ⟨HEND.out.1, HEND.out.2.1, by rw [HSN.out]; exact HEND.out.2.2.1, HEND.out.2.2.2, Nat.le_trans HS0.out.2 HEND.out.1.size⟩
  case done =>
    rintro D ys W hD hS ⟨⟨u, hv, hR⟩, hB, _⟩ hK
    have hc := hv.cell
    gi_wp2
    refine ⟨by simp, .inl ⟨_, _, rfl, run_takeDeferred hK, ?_⟩⟩
    rw [hS] at hR
    have hR9 := hR.grown (grownBy_putObj' W D (.deferred none)) (fun r e => by cases e; exact ⟨_, hK, rfl⟩)
    exact ⟨_, results_tmp rfl _ _ _, u, rfl, hR9.sec hB0.size (hB.trans (belowK_b (w := w) (Nat.le_refl _) W D _ _ (Nat.le_trans hB0.size hD) hK rfl rfl))⟩
  case stop =>
    rintro D c pre W _ _ h _
    exact h.elim
end Go.Proofs.YtlipgphmhkjnpaaDoor
