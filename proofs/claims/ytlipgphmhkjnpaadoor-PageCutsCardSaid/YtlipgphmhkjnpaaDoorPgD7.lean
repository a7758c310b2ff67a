/- The document's own device (layer 13): New. -/
import Derived.Test.YtlipgphmhkjnpaaDoorPgD6
namespace Go.Proofs.YtlipgphmhkjnpaaDoor
open Go.RowKit

theorem load_secs {w : World} {g k : Nat} {x : Option Addr} {l c : Nat} (h : w.cell? ⟨g, k, none⟩ = some (.slice x l c)) : (Instr.loadAt 22 (.pointer (some ⟨g, k, none⟩))).run Tryd.prog w = .ok (.slice x l c) w := by go_simp
theorem store_secs {w : World} {g k : Nat} {u : Value} {x : Option Addr} {l c : Nat} (h : w.cell? ⟨g, k, none⟩ = some u) (hf : w.frozen? ⟨g, k, none⟩ = false) : (Instr.storeAt 22 (.pointer (some ⟨g, k, none⟩)) (.slice x l c)).run Tryd.prog w = .ok () (w.setCell ⟨g, k, none⟩ (.slice x l c)) := by go_simp
theorem exec_make64 {o : Oper} {a : Act} (ho : o.op = .makeSlice 23 (.const (.int .i64 64)) (.const (.int .i64 64))) (w : World) : (execOp a.eval o).run Tryd.prog w = .ok (.value (.slice (some ⟨w.heap.size, 0, none⟩) 64 64)) (w.alloc (.cells (madeCells #[.int .u8 0] 64) 5)) := by
  have hr : (Instr.makeSlice 23 (.int .i64 64) (.int .i64 64)).run Tryd.prog w = .ok (.slice (some ⟨w.heap.size, 0, none⟩) 64 64) (w.alloc (.cells (madeCells #[.int .u8 0] 64) 5)) := run_make_row' (P := Tryd.prog) 23 5 (.int .u8 0) 1 Tryd.underlying23 bytes_info rfl .i64 .i64 64 (by omega) (by omega) w
  unfold execOp
  have hc : a.eval (.const (.int .i64 64)) = .int .i64 64 := rfl
  simp only [ho, hc, Sem.run_bind, hr, Result.andThen_ok, Sem.run_pure]
theorem noughts_oin {F : Nat → Prop} {w : World} {q : Nat} (hF : F q) (h : w.heap[q]? = some (.cells (madeCells #[.int .u8 0] 64) 5)) : OIn F w (.slice (some ⟨q, 0, none⟩) 64 64) (List.replicate 64 0) := by
  refine ⟨q, 0, 64, _, _, by rw [List.length_replicate], by rw [List.length_replicate]; exact Nat.le_refl _, by decide, hF, h, fun j hj => ?_⟩
  rw [List.length_replicate] at hj
  rw [Nat.zero_add, List.getElem_replicate]
  simp [madeCells, hj, Nat.mod_one]
/-- One sector more. -/
theorem secs_snoc {F : Nat → Prop} {w : World} {us : List Value} {j : Nat} {y : Value} (hl : us.length = j) (h : ∀ i (h1 : i < us.length) (h2 : i < (List.replicate j (List.replicate 64 (0 : UInt8))).length), OIn F w us[i] (List.replicate j (List.replicate 64 (0 : UInt8)))[i]) (hy : OIn F w y (List.replicate 64 0)) : ∀ i (h1 : i < (us ++ [y]).length) (h2 : i < (List.replicate (j + 1) (List.replicate 64 (0 : UInt8))).length), OIn F w (us ++ [y])[i] (List.replicate (j + 1) (List.replicate 64 (0 : UInt8)))[i] := by
  intro i h1 h2
  rw [List.getElem_replicate]
  by_cases hi : i < us.length
  · rw [List.getElem_append_left hi]
    have h9 := h i hi (by rw [List.length_replicate]; omega)
    rw [List.getElem_replicate] at h9
    exact h9
  · have e : i = us.length := by simp at h1; omega
    subst e
    rw [List.getElem_append_right (Nat.le_refl _)]
    simp only [Nat.sub_self, List.getElem_singleton]
    exact hy
/-- Behind an append onto the sectors: all but their row is as it was. -/
theorem RMed.grown_safe {w w' : World} {g B : Nat} {F : Nat → Prop} {vs vw vb : Value} {us : List Value} {ws : List (Nat × Value)} {d : Dv.S} (h : RMed w g F B vs vw vb us ws d) (hg : w.grownBy w' vs.ownBlock) :
    w'.cell? ⟨g, 0, none⟩ = some vs ∧ w'.frozen? ⟨g, 0, none⟩ = false ∧ ∀ (vs' : Value) (us' : List Value) (sf : List Dv.Sec), w'.ownsRow 0 23 1 vs' us'.length us' → us'.length = sf.length → (∀ j (h1 : j < us'.length) (h2 : j < sf.length), OIn F w us'[j] sf[j]) → (∀ k, vs'.ownBlock = some k → F k) → sf.length ≤ 65536 → (∀ x ∈ sf, x.length = 64) → (∀ x ∈ d.wait, x.1 < sf.length ∧ x.2.length = 64) →
      RMed (w'.setCell ⟨g, 0, none⟩ vs') g F B vs' vw vb us' ws { d with safe := sf } := by
  have ne : ∀ (k : Nat) (C : Array Value) (T : TypeId), w.heap[k]? = some (.cells C T (0, 0)) → T ≠ 23 → w'.heap[k]? = w.heap[k]? := fun k C T hb hT => hg.block k (lt_of_block hb) (fun e => by
    obtain ⟨C2, hC2⟩ := row_type h.safe e.symm
    exact ne_block hb hC2 hT rfl)
  have kg := ne g _ _ h.blk (by decide)
  have hb := kg.trans h.blk
  have ho : ∀ k C fr, F k → w.heap[k]? = some (.cells C 5 fr) → w'.heap[k]? = w.heap[k]? := fun k C fr _ hb9 => hg.block k (lt_of_block hb9) (fun e => by
    obtain ⟨C2, hC2⟩ := row_type h.safe e.symm
    exact ne_block hb9 hC2 (by decide) rfl)
  refine ⟨(blk_cell hb 0 _ rfl).1, (blk_cell hb 0 _ rfl).2, fun vs' us' sf hw hl ht hF hle hsf hgd => ?_⟩
  have hk2 : ∀ j, j ≠ g → (w'.setCell ⟨g, 0, none⟩ vs').heap[j]? = w'.heap[j]? := fun j hj => heap_setCell_other w' ⟨g, 0, none⟩ j vs' hj
  have ho2 : ∀ j C fr, F j → w.heap[j]? = some (.cells C 5 fr) → (w'.setCell ⟨g, 0, none⟩ vs').heap[j]? = w.heap[j]? := fun j C fr hf hb9 => (hk2 j (ne_block hb9 h.blk (by decide))).trans (ho j C fr hf hb9)
  refine ⟨heap_setCell_same w' g 0 _ _ vs' hb, ownsRow_keep hw (fun j hj => ?_), ownsRow_keep h.wait (fun j hj => ?_), hl, h.lws, fun j h1 h2 => (ht j h1 h2).keep (fun _ hf => hf) ho2, fun j h1 h2 => ⟨(h.wts j h1 h2).1, (h.wts j h1 h2).2.keep (fun _ hf => hf) ho2⟩, h.bad.keep (by simpa using hg.size) (fun j hjB hjs => ?_), h.hg, hF, h.hw, hle, hsf, hgd, h.hB, h.left⟩
  · obtain ⟨C2, hC2⟩ := row_type hw hj
    exact hk2 j (ne_block hC2 hb (by decide))
  · obtain ⟨C2, hC2⟩ := row_type h.wait hj
    exact (hk2 j (ne_block hC2 h.blk (by decide))).trans (ne j C2 _ hC2 (by decide))
  · refine (hk2 j (fun e => by have := h.hB g h.hg; omega)).trans (hg.block j hjs (fun e => ?_))
    have := h.hB j (h.hs j e.symm)
    omega

set_option maxHeartbeats 6400000 in
set_option maxRecDepth 100000 in
theorem rnew_w (n B : Nat) (w : World) (hn : n ≤ 65536) (hB : B ≤ w.heap.size) :
    Calls Tryd.prog 14 #[.int .i64 (n : Int)] w fun e w' => ∃ g, e = .returned (.pointer (some ⟨g, 0, none⟩)) ∧ Below w.heap.size w w' ∧ ∃ vs us, RMed w' g (fun k => w.heap.size ≤ k) B vs (.slice none 0 0) (.slice none 0 0) us [] (Dv.init n) := by
  obtain ⟨G, hG⟩ : ∃ G : Nat → Prop, G = fun k => w.heap.size ≤ k := ⟨_, rfl⟩
  rw [← hG]
  have HGn : Hid (∀ k, w.heap.size ≤ k → G k) := Lib.hid (fun k hk => by rw [hG]; exact hk)
  have HGE2 : Hid (∀ k, G k → w.heap.size ≤ k) := Lib.hid (fun k hk => by rw [hG] at hk; exact hk)
  have hM0 : RMed (w.alloc (.cells #[.slice none 0 0, .slice none 0 0, .int .i64 0, .slice none 0 0, .int .i64 (-1)] 81)) w.heap.size G B (.slice none 0 0) (.slice none 0 0) (.slice none 0 0) [] [] (Dv.init 0) :=
    ⟨heap_alloc_new w _, World.ownsRow_nil _ _ _ _, World.ownsRow_nil _ _ _ _, rfl, rfl, (fun j h1 _ => by cases h1), (fun j h1 _ => by cases h1), ⟨none, 0, rfl, Nat.le_refl _, by decide, .inl rfl⟩, HGn.out _ (Nat.le_refl _), (fun k hk => by cases hk), (fun k hk => by cases hk), by decide, fun x hx => (by cases hx), fun x hx => (by cases hx), fun k hk => Nat.le_trans hB (HGE2.out k hk), by decide⟩
  have hb0 : Below w.heap.size w (w.alloc (.cells #[.slice none 0 0, .slice none 0 0, .int .i64 0, .slice none 0 0, .int .i64 (-1)] 81)) := (Below.refl _ w).alloc (Nat.le_refl _) _
  have HM00 := Lib.hid hM0
  have HB0 := Lib.hid hb0
  obtain ⟨i0, hi0, hz0, hz1, hz2⟩ := info_parts slices_info
  clear hM0 hb0 hG
  go_enter Tryd.func14, Tryd.ntmps14
  go_wp2_with fail
  obtain ⟨g, hg⟩ : ∃ g, g = w.heap.size := ⟨_, rfl⟩
  have HGE : Hid (w.heap.size ≤ g) := Lib.hid (by omega)
  rw [← hg] at HM00 ⊢
  clear hg
  go_loopw [4] (fun i wr => ∃ j : Nat, j ≤ n ∧ i = .int .i64 j ∧ Below w.heap.size w wr ∧ ∃ vs us, RMed wr g G B vs (.slice none 0 0) (.slice none 0 0) us [] (Dv.init j)) (fun i _ => n - (intOf i).toNat)
  case atStart => exact ⟨0, Nat.zero_le _, rfl, HB0.out, _, _, HM00.out⟩
  case round =>
    clear HM00 HB0
    obtain ⟨j, hj, rfl, hbr, vs, us, hM⟩ := hrel
    have HB := Lib.hid hbr
    have HUL : Hid (us.length = j) := Lib.hid (by rw [hM.lus]; simp [Dv.init])
    obtain ⟨va, vc, hvs, hvn, hvc⟩ := own_shape hM.safe
    obtain ⟨vn, hvn9⟩ : ∃ vn, vn = us.length := ⟨_, rfl⟩
    rw [← hvn9] at hvs
    subst hvs
    have hul : us.length ≤ 65536 := by rw [HUL.out]; omega
    have HM0 := Lib.hid hM
    clear hbr hM hvn9
    by_cases hlt : j < n
    · have hji : (j : Int) < n := by omega
      go_upto_region 5 with fail
      refine wp_region_noPanic ?_
      refine wp_region_held (S := fun _ => True) (by kernel_rfl) ?_
      change wpAnyH _ _ _ _ _ _ _ _ wr.drew
      have hb0 : Below wr.heap.size wr wr.drew := (Below.refl _ wr).drew
      generalize wr.drew = w4 at hb0 ⊢
      refine held_of_takes (fuel := 7) (by kernel_rfl) (fun _ _ _ _ _ h => h) trivial [0, 1, 2, 3] _ _ (by kernel_rfl) ?_
      refine Takes.val (.pointer (some ⟨g, 0, none⟩)) rfl rfl (fun _ _ => by kernel_rfl) ?_
      refine Takes.val (.pointer (some ⟨g, 0, none⟩)) rfl rfl (fun _ _ => by kernel_rfl) ?_
      refine Takes.val (.pointer (some ⟨g, 0, none⟩)) rfl rfl (fun _ _ => by kernel_rfl) ?_
      refine Takes.val (.pointer (some ⟨g, 0, none⟩)) rfl rfl (fun _ _ => by kernel_rfl) ?_
      refine wpAnyH_all (rs := [4, 5]) (by kernel_rfl) (by simp) (fun i hi => ?_)
      simp only [List.mem_cons, List.not_mem_nil, or_false] at hi
      rcases hi with rfl | rfl
      · refine wpOp_make (v := .slice va vn vc) (w' := w4) rfl rfl (exec_load (s := 15) rfl (by kernel_rfl) (load_secs (HM0.out.later hb0).c0)) ⟨trivial, ?_⟩
        refine wpAnyH_all (rs := [5]) (by kernel_rfl) (by simp) (fun i hi => ?_)
        obtain rfl := List.mem_singleton.1 hi
        have hbm : Below wr.heap.size wr (w4.alloc (.cells (madeCells #[.int .u8 0] 64) 5)) := hb0.alloc hb0.size _
        have hnw := heap_alloc_new w4 (.cells (madeCells #[.int .u8 0] 64) 5)
        refine wpOp_make (v := .slice (some ⟨w4.heap.size, 0, none⟩) 64 64) (w' := w4.alloc (.cells (madeCells #[.int .u8 0] 64) 5)) rfl rfl (exec_make64 rfl w4) ⟨trivial, ?_⟩
        have hqw : w.heap.size ≤ w4.heap.size := Nat.le_trans HB.out.size hb0.size
        generalize w4.alloc (.cells (madeCells #[.int .u8 0] 64) 5) = w5 at hbm hnw ⊢
        generalize w4.heap.size = q at hnw hqw ⊢
        refine wpAnyH_all (rs := [6]) (by kernel_rfl) (by simp) (fun i hi => ?_)
        obtain rfl := List.mem_singleton.1 hi
        have hb6 : Below wr.heap.size wr (w5.alloc (.cells #[.slice (some ⟨q, 0, none⟩) 64 64] 23)) := hbm.alloc hbm.size _
        refine wpOp_make (v := .slice (some ⟨w5.heap.size, 0, none⟩) 1 1) (w' := w5.alloc (.cells #[.slice (some ⟨q, 0, none⟩) 64 64] 23)) rfl rfl (by kernel_rfl) ⟨trivial, ?_⟩
        have hr6 := heap_alloc_new w5 (.cells #[.slice (some ⟨q, 0, none⟩) 64 64] 23)
        have hq6 : (w5.alloc (.cells #[.slice (some ⟨q, 0, none⟩) 64 64] 23)).heap[q]? = some (.cells (madeCells #[.int .u8 0] 64) 5) := by rw [((Below.refl _ w5).alloc (Nat.le_refl _) _).block q (lt_of_block hnw)]; exact hnw
        generalize w5.alloc (.cells #[.slice (some ⟨q, 0, none⟩) 64 64] 23) = w6 at hb6 hr6 hq6 ⊢
        generalize w5.heap.size = r at hr6 ⊢
        have hM6 := HM0.out.later hb6
        have ho6 : OIn G w6 (.slice (some ⟨q, 0, none⟩) 64 64) (List.replicate 64 0) := noughts_oin (HGn.out q hqw) hq6
        refine wpAnyH_all (rs := [7]) (by kernel_rfl) (by simp) (fun i hi => ?_)
        obtain rfl := List.mem_singleton.1 hi
        refine wpOp_plain rfl rfl (wp_append_whose w6 (.tmp 16) (.tmp 18) 22 rfl 23 i0 (.slice none 0 0) 1 24 Tryd.underlying22 hi0 hz0 hz1 hz2 rfl (by decide) (.slice va vn vc) us.length us (by kernel_rfl) hM6.safe ⟨r, 0, none⟩ 1 1 [.slice (some ⟨q, 0, none⟩) 64 64] (by kernel_rfl) rfl (fun j9 u9 hj9 => by
          rw [Addr.add_lit, Nat.zero_add]
          simp only [World.cell?, hr6]
          match j9, hj9 with
          | 0, hj9 => simpa using hj9) (fun u9 hu9 => by rw [List.mem_singleton.1 hu9]; rfl) (by unfold maxLen; omega) (by omega) (fun v7 w7 ho7 hg7 hk7 => ⟨trivial, ?_⟩))
        have hX7 := hM6.grown_safe hg7
        have hW7 : w7.ownsRow 0 23 1 v7 (us ++ [Value.slice (some ⟨q, 0, none⟩) 64 64]).length (us ++ [Value.slice (some ⟨q, 0, none⟩) 64 64]) := by
          rw [List.length_append]
          exact ho7
        obtain ⟨va7, vc7, rfl, _, _⟩ := own_shape hW7
        refine held_of_takes (fuel := 1) (by kernel_rfl) (fun _ _ _ _ _ h => h) trivial [8, 9] _ _ (by kernel_rfl) ?_
        refine Takes.val (.pointer (some ⟨g, 0, none⟩)) rfl rfl (fun _ _ => by kernel_rfl) ?_
        refine Takes.val (.pointer (some ⟨g, 0, none⟩)) rfl rfl (fun _ _ => by kernel_rfl) ?_
        refine wpAnyH_all (rs := [10]) (by kernel_rfl) (by simp) (fun i hi => ?_)
        obtain rfl := List.mem_singleton.1 hi
        refine wpOp_known (.store 22 (.tmp 21) (.tmp 19)) none (by kernel_rfl) (fun _ e1 e2 => wp_store_one (p := .pointer (some ⟨g, 0, none⟩)) (v := .slice va7 (us ++ [Value.slice (some ⟨q, 0, none⟩) 64 64]).length vc7) (w' := w7.setCell ⟨g, 0, none⟩ (.slice va7 (us ++ [Value.slice (some ⟨q, 0, none⟩) 64 64]).length vc7)) e1 (by kernel_rfl) (by kernel_rfl) (store_secs hX7.1 hX7.2.1) ?_)
        rw [e2]
        have hM8 := hX7.2.2 _ (us ++ [Value.slice (some ⟨q, 0, none⟩) 64 64]) (List.replicate (j + 1) (List.replicate 64 0)) hW7 (by rw [List.length_append, HUL.out, List.length_replicate]; rfl) (secs_snoc HUL.out hM6.sec ho6) (fun k3 hk3 => by
          rcases hk7 k3 hk3 with h9 | h9
          · exact HM0.out.hs k3 h9
          · exact HGn.out k3 (Nat.le_trans (Nat.le_trans HB.out.size hb6.size) h9)) (by rw [List.length_replicate]; omega) (fun x hx => by rw [List.eq_of_mem_replicate hx, List.length_replicate]) (fun x hx => by cases hx)
        have hb8 : Below w.heap.size w (w7.setCell ⟨g, 0, none⟩ (.slice va7 (us ++ [Value.slice (some ⟨q, 0, none⟩) 64 64]).length vc7)) := by
          refine Below.setCell ?_ HGE.out _
          exact (HB.out.trans (hb6.mono HB.out.size)).trans ⟨hg7.os, hg7.tape, hg7.output, hg7.size, fun k9 hk9 => hg7.block k9 (Nat.lt_of_lt_of_le hk9 (Nat.le_trans HB.out.size hb6.size)) (fun e => by have := HGE2.out k9 (HM0.out.hs k9 e.symm); omega)⟩
        generalize w7.setCell ⟨g, 0, none⟩ (.slice va7 (us ++ [Value.slice (some ⟨q, 0, none⟩) 64 64]).length vc7) = w8 at hM8 hb8 ⊢
        refine ⟨trivial, ?_⟩
        refine wpAnyH_done (P := Tryd.prog) (by kernel_rfl) ?_ 0
        refine NoPanic.normal ?_
        have HM8 := Lib.hid hM8
        have HB8 := Lib.hid hb8
        clear hM8 hb8 hW7 hX7 ho7 hg7 hk7 hM6 ho6 hq6 hr6 hb6 hbm hnw
        go_simp
        go_wp2_with fail
        go_roundw
        case rel =>
          have h9 := HM8.out
          exact ⟨j + 1, by omega, by go_num, HB8.out, _, _, h9⟩
        case measure => simp [intOf]; omega
      · have hbm : Below wr.heap.size wr (w4.alloc (.cells (madeCells #[.int .u8 0] 64) 5)) := hb0.alloc hb0.size _
        have hnw := heap_alloc_new w4 (.cells (madeCells #[.int .u8 0] 64) 5)
        refine wpOp_make (v := .slice (some ⟨w4.heap.size, 0, none⟩) 64 64) (w' := w4.alloc (.cells (madeCells #[.int .u8 0] 64) 5)) rfl rfl (exec_make64 rfl w4) ⟨trivial, ?_⟩
        have hqw : w.heap.size ≤ w4.heap.size := Nat.le_trans HB.out.size hb0.size
        generalize w4.alloc (.cells (madeCells #[.int .u8 0] 64) 5) = w5 at hbm hnw ⊢
        generalize w4.heap.size = q at hnw hqw ⊢
        refine wpAnyH_all (rs := [4, 6]) (by kernel_rfl) (by simp) (fun i hi => ?_)
        simp only [List.mem_cons, List.not_mem_nil, or_false] at hi
        rcases hi with rfl | rfl
        · refine wpOp_make (v := .slice va vn vc) (w' := w5) rfl rfl (exec_load (s := 15) rfl (by kernel_rfl) (load_secs (HM0.out.later hbm).c0)) ⟨trivial, ?_⟩
          refine wpAnyH_all (rs := [6]) (by kernel_rfl) (by simp) (fun i hi => ?_)
          obtain rfl := List.mem_singleton.1 hi
          have hb6 : Below wr.heap.size wr (w5.alloc (.cells #[.slice (some ⟨q, 0, none⟩) 64 64] 23)) := hbm.alloc hbm.size _
          refine wpOp_make (v := .slice (some ⟨w5.heap.size, 0, none⟩) 1 1) (w' := w5.alloc (.cells #[.slice (some ⟨q, 0, none⟩) 64 64] 23)) rfl rfl (by kernel_rfl) ⟨trivial, ?_⟩
          have hr6 := heap_alloc_new w5 (.cells #[.slice (some ⟨q, 0, none⟩) 64 64] 23)
          have hq6 : (w5.alloc (.cells #[.slice (some ⟨q, 0, none⟩) 64 64] 23)).heap[q]? = some (.cells (madeCells #[.int .u8 0] 64) 5) := by rw [((Below.refl _ w5).alloc (Nat.le_refl _) _).block q (lt_of_block hnw)]; exact hnw
          generalize w5.alloc (.cells #[.slice (some ⟨q, 0, none⟩) 64 64] 23) = w6 at hb6 hr6 hq6 ⊢
          generalize w5.heap.size = r at hr6 ⊢
          have hM6 := HM0.out.later hb6
          have ho6 : OIn G w6 (.slice (some ⟨q, 0, none⟩) 64 64) (List.replicate 64 0) := noughts_oin (HGn.out q hqw) hq6
          refine wpAnyH_all (rs := [7]) (by kernel_rfl) (by simp) (fun i hi => ?_)
          obtain rfl := List.mem_singleton.1 hi
          refine wpOp_plain rfl rfl (wp_append_whose w6 (.tmp 16) (.tmp 18) 22 rfl 23 i0 (.slice none 0 0) 1 24 Tryd.underlying22 hi0 hz0 hz1 hz2 rfl (by decide) (.slice va vn vc) us.length us (by kernel_rfl) hM6.safe ⟨r, 0, none⟩ 1 1 [.slice (some ⟨q, 0, none⟩) 64 64] (by kernel_rfl) rfl (fun j9 u9 hj9 => by
            rw [Addr.add_lit, Nat.zero_add]
            simp only [World.cell?, hr6]
            match j9, hj9 with
            | 0, hj9 => simpa using hj9) (fun u9 hu9 => by rw [List.mem_singleton.1 hu9]; rfl) (by unfold maxLen; omega) (by omega) (fun v7 w7 ho7 hg7 hk7 => ⟨trivial, ?_⟩))
          have hX7 := hM6.grown_safe hg7
          have hW7 : w7.ownsRow 0 23 1 v7 (us ++ [Value.slice (some ⟨q, 0, none⟩) 64 64]).length (us ++ [Value.slice (some ⟨q, 0, none⟩) 64 64]) := by
            rw [List.length_append]
            exact ho7
          obtain ⟨va7, vc7, rfl, _, _⟩ := own_shape hW7
          refine held_of_takes (fuel := 1) (by kernel_rfl) (fun _ _ _ _ _ h => h) trivial [8, 9] _ _ (by kernel_rfl) ?_
          refine Takes.val (.pointer (some ⟨g, 0, none⟩)) rfl rfl (fun _ _ => by kernel_rfl) ?_
          refine Takes.val (.pointer (some ⟨g, 0, none⟩)) rfl rfl (fun _ _ => by kernel_rfl) ?_
          refine wpAnyH_all (rs := [10]) (by kernel_rfl) (by simp) (fun i hi => ?_)
          obtain rfl := List.mem_singleton.1 hi
          refine wpOp_known (.store 22 (.tmp 21) (.tmp 19)) none (by kernel_rfl) (fun _ e1 e2 => wp_store_one (p := .pointer (some ⟨g, 0, none⟩)) (v := .slice va7 (us ++ [Value.slice (some ⟨q, 0, none⟩) 64 64]).length vc7) (w' := w7.setCell ⟨g, 0, none⟩ (.slice va7 (us ++ [Value.slice (some ⟨q, 0, none⟩) 64 64]).length vc7)) e1 (by kernel_rfl) (by kernel_rfl) (store_secs hX7.1 hX7.2.1) ?_)
          rw [e2]
          have hM8 := hX7.2.2 _ (us ++ [Value.slice (some ⟨q, 0, none⟩) 64 64]) (List.replicate (j + 1) (List.replicate 64 0)) hW7 (by rw [List.length_append, HUL.out, List.length_replicate]; rfl) (secs_snoc HUL.out hM6.sec ho6) (fun k3 hk3 => by
            rcases hk7 k3 hk3 with h9 | h9
            · exact HM0.out.hs k3 h9
            · exact HGn.out k3 (Nat.le_trans (Nat.le_trans HB.out.size hb6.size) h9)) (by rw [List.length_replicate]; omega) (fun x hx => by rw [List.eq_of_mem_replicate hx, List.length_replicate]) (fun x hx => by cases hx)
          have hb8 : Below w.heap.size w (w7.setCell ⟨g, 0, none⟩ (.slice va7 (us ++ [Value.slice (some ⟨q, 0, none⟩) 64 64]).length vc7)) := by
            refine Below.setCell ?_ HGE.out _
            exact (HB.out.trans (hb6.mono HB.out.size)).trans ⟨hg7.os, hg7.tape, hg7.output, hg7.size, fun k9 hk9 => hg7.block k9 (Nat.lt_of_lt_of_le hk9 (Nat.le_trans HB.out.size hb6.size)) (fun e => by have := HGE2.out k9 (HM0.out.hs k9 e.symm); omega)⟩
          generalize w7.setCell ⟨g, 0, none⟩ (.slice va7 (us ++ [Value.slice (some ⟨q, 0, none⟩) 64 64]).length vc7) = w8 at hM8 hb8 ⊢
          refine ⟨trivial, ?_⟩
          refine wpAnyH_done (P := Tryd.prog) (by kernel_rfl) ?_ 0
          refine NoPanic.normal ?_
          have HM8 := Lib.hid hM8
          have HB8 := Lib.hid hb8
          clear hM8 hb8 hW7 hX7 ho7 hg7 hk7 hM6 ho6 hq6 hr6 hb6 hbm hnw
          go_simp
          go_wp2_with fail
          go_roundw
          case rel =>
            have h9 := HM8.out
            exact ⟨j + 1, by omega, by go_num, HB8.out, _, _, h9⟩
          case measure => simp [intOf]; omega
        · have hb6 : Below wr.heap.size wr (w5.alloc (.cells #[.slice (some ⟨q, 0, none⟩) 64 64] 23)) := hbm.alloc hbm.size _
          refine wpOp_make (v := .slice (some ⟨w5.heap.size, 0, none⟩) 1 1) (w' := w5.alloc (.cells #[.slice (some ⟨q, 0, none⟩) 64 64] 23)) rfl rfl (by kernel_rfl) ⟨trivial, ?_⟩
          refine wpAnyH_all (rs := [4]) (by kernel_rfl) (by simp) (fun i hi => ?_)
          obtain rfl := List.mem_singleton.1 hi
          refine wpOp_make (v := .slice va vn vc) (w' := (w5.alloc (.cells #[.slice (some ⟨q, 0, none⟩) 64 64] 23))) rfl rfl (exec_load (s := 15) rfl (by kernel_rfl) (load_secs (HM0.out.later hb6).c0)) ⟨trivial, ?_⟩
          have hr6 := heap_alloc_new w5 (.cells #[.slice (some ⟨q, 0, none⟩) 64 64] 23)
          have hq6 : (w5.alloc (.cells #[.slice (some ⟨q, 0, none⟩) 64 64] 23)).heap[q]? = some (.cells (madeCells #[.int .u8 0] 64) 5) := by rw [((Below.refl _ w5).alloc (Nat.le_refl _) _).block q (lt_of_block hnw)]; exact hnw
          generalize w5.alloc (.cells #[.slice (some ⟨q, 0, none⟩) 64 64] 23) = w6 at hb6 hr6 hq6 ⊢
          generalize w5.heap.size = r at hr6 ⊢
          have hM6 := HM0.out.later hb6
          have ho6 : OIn G w6 (.slice (some ⟨q, 0, none⟩) 64 64) (List.replicate 64 0) := noughts_oin (HGn.out q hqw) hq6
          refine wpAnyH_all (rs := [7]) (by kernel_rfl) (by simp) (fun i hi => ?_)
          obtain rfl := List.mem_singleton.1 hi
          refine wpOp_plain rfl rfl (wp_append_whose w6 (.tmp 16) (.tmp 18) 22 rfl 23 i0 (.slice none 0 0) 1 24 Tryd.underlying22 hi0 hz0 hz1 hz2 rfl (by decide) (.slice va vn vc) us.length us (by kernel_rfl) hM6.safe ⟨r, 0, none⟩ 1 1 [.slice (some ⟨q, 0, none⟩) 64 64] (by kernel_rfl) rfl (fun j9 u9 hj9 => by
            rw [Addr.add_lit, Nat.zero_add]
            simp only [World.cell?, hr6]
            match j9, hj9 with
            | 0, hj9 => simpa using hj9) (fun u9 hu9 => by rw [List.mem_singleton.1 hu9]; rfl) (by unfold maxLen; omega) (by omega) (fun v7 w7 ho7 hg7 hk7 => ⟨trivial, ?_⟩))
          have hX7 := hM6.grown_safe hg7
          have hW7 : w7.ownsRow 0 23 1 v7 (us ++ [Value.slice (some ⟨q, 0, none⟩) 64 64]).length (us ++ [Value.slice (some ⟨q, 0, none⟩) 64 64]) := by
            rw [List.length_append]
            exact ho7
          obtain ⟨va7, vc7, rfl, _, _⟩ := own_shape hW7
          refine held_of_takes (fuel := 1) (by kernel_rfl) (fun _ _ _ _ _ h => h) trivial [8, 9] _ _ (by kernel_rfl) ?_
          refine Takes.val (.pointer (some ⟨g, 0, none⟩)) rfl rfl (fun _ _ => by kernel_rfl) ?_
          refine Takes.val (.pointer (some ⟨g, 0, none⟩)) rfl rfl (fun _ _ => by kernel_rfl) ?_
          refine wpAnyH_all (rs := [10]) (by kernel_rfl) (by simp) (fun i hi => ?_)
          obtain rfl := List.mem_singleton.1 hi
          refine wpOp_known (.store 22 (.tmp 21) (.tmp 19)) none (by kernel_rfl) (fun _ e1 e2 => wp_store_one (p := .pointer (some ⟨g, 0, none⟩)) (v := .slice va7 (us ++ [Value.slice (some ⟨q, 0, none⟩) 64 64]).length vc7) (w' := w7.setCell ⟨g, 0, none⟩ (.slice va7 (us ++ [Value.slice (some ⟨q, 0, none⟩) 64 64]).length vc7)) e1 (by kernel_rfl) (by kernel_rfl) (store_secs hX7.1 hX7.2.1) ?_)
          rw [e2]
          have hM8 := hX7.2.2 _ (us ++ [Value.slice (some ⟨q, 0, none⟩) 64 64]) (List.replicate (j + 1) (List.replicate 64 0)) hW7 (by rw [List.length_append, HUL.out, List.length_replicate]; rfl) (secs_snoc HUL.out hM6.sec ho6) (fun k3 hk3 => by
            rcases hk7 k3 hk3 with h9 | h9
            · exact HM0.out.hs k3 h9
            · exact HGn.out k3 (Nat.le_trans (Nat.le_trans HB.out.size hb6.size) h9)) (by rw [List.length_replicate]; omega) (fun x hx => by rw [List.eq_of_mem_replicate hx, List.length_replicate]) (fun x hx => by cases hx)
          have hb8 : Below w.heap.size w (w7.setCell ⟨g, 0, none⟩ (.slice va7 (us ++ [Value.slice (some ⟨q, 0, none⟩) 64 64]).length vc7)) := by
            refine Below.setCell ?_ HGE.out _
            exact (HB.out.trans (hb6.mono HB.out.size)).trans ⟨hg7.os, hg7.tape, hg7.output, hg7.size, fun k9 hk9 => hg7.block k9 (Nat.lt_of_lt_of_le hk9 (Nat.le_trans HB.out.size hb6.size)) (fun e => by have := HGE2.out k9 (HM0.out.hs k9 e.symm); omega)⟩
          generalize w7.setCell ⟨g, 0, none⟩ (.slice va7 (us ++ [Value.slice (some ⟨q, 0, none⟩) 64 64]).length vc7) = w8 at hM8 hb8 ⊢
          refine ⟨trivial, ?_⟩
          refine wpAnyH_done (P := Tryd.prog) (by kernel_rfl) ?_ 0
          refine NoPanic.normal ?_
          have HM8 := Lib.hid hM8
          have HB8 := Lib.hid hb8
          clear hM8 hb8 hW7 hX7 ho7 hg7 hk7 hM6 ho6 hq6 hr6 hb6 hbm hnw
          go_simp
          go_wp2_with fail
          go_roundw
          case rel =>
            have h9 := HM8.out
            exact ⟨j + 1, by omega, by go_num, HB8.out, _, _, h9⟩
          case measure => simp [intOf]; omega
    · have hji : ¬ (j : Int) < n := by omega
      obtain rfl : j = n := by omega
      clear hlt hj
      go_wp2_with fail
      go_ret
      exact ⟨g, rfl, HB.out, _, us, HM0.out⟩
end Go.Proofs.YtlipgphmhkjnpaaDoor
