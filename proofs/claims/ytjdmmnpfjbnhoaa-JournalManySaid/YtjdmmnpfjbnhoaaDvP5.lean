/- Package device: sectors as reads see them. -/
import Derived.Test.YtjdmmnpfjbnhoaaDvP3
namespace Go.Proofs.Ytjdmmnpfjbnhoaa
open Go.RowKit

theorem slices_info : (Try.prog.info? 22).map (fun i => (i.zero, i.size, i.bytes)) = some (some (.slice none 0 0), 1, 24) := by kernel_rfl
theorem sector_zero : ((Try.prog.info? 100).bind (·.zero)).map (·.cells) = some (Lib.byteCells (List.replicate 64 0)).toArray := by kernel_rfl
/-- An answer in the making: the first j of k sectors. -/
def OutTo (B lo : Nat) (w : World) (k j : Nat) (X : Nat → List UInt8) : Prop := ∃ f : Nat → Value, w.rowIs B 22 k f ∧ ∀ i, i < j → ∃ q, f i = .slice (some ⟨q, 0, none⟩) 64 64 ∧ lo ≤ q ∧ w.heap[q]? = some (.cells (Lib.byteCells (X i)).toArray 5 (0, 0))
theorem OutTo.zero (w : World) (k : Nat) (X : Nat → List UInt8) : OutTo w.heap.size w.heap.size (w.alloc (.cells (madeCells #[.slice none 0 0] k) 22)) k 0 X := ⟨_, World.rowIs_made w _ k _, fun i h => absurd h (Nat.not_lt_zero i)⟩
theorem OutTo.later {B lo : Nat} {w w' : World} {k j : Nat} {X : Nat → List UInt8} (h : OutTo B lo w k j X) (hb : Below w.heap.size w w') : OutTo B lo w' k j X := by
  obtain ⟨f, h1, h2⟩ := h
  refine ⟨f, h1.of_block (hb.block B h1.lt), fun i hi => ?_⟩
  obtain ⟨q, h3, h4, h5⟩ := h2 i hi
  exact ⟨q, h3, h4, by rw [hb.block q (lt_of_block h5)]; exact h5⟩
theorem OutTo.cell {B lo : Nat} {w : World} {k j : Nat} {X : Nat → List UInt8} (h : OutTo B lo w k j X) (i : Nat) (hi : i < k) : ∃ u, w.cell? ⟨B, i, none⟩ = some u ∧ w.frozen? ⟨B, i, none⟩ = false := by
  obtain ⟨f, h1, _⟩ := h
  exact ⟨_, h1.cell hi, h1.frozen i⟩
theorem OutTo.lt {B lo : Nat} {w : World} {k j : Nat} {X : Nat → List UInt8} (h : OutTo B lo w k j X) : B < w.heap.size := by obtain ⟨f, h1, _⟩ := h; exact h1.lt
/-- One sector more: a new block q, put into its place, then filled. -/
theorem OutTo.next {B lo : Nat} {w w8 : World} {k j q : Nat} {X : Nat → List UInt8} {O : Obj} (h : OutTo B lo w k j X) (hlo : lo ≤ w.heap.size) (hj : j < k) (hq : q = w.heap.size) (hb : Below ((w.alloc O).setCell ⟨B, j, none⟩ (.slice (some ⟨q, 0, none⟩) 64 64)).heap.size ((w.alloc O).setCell ⟨B, j, none⟩ (.slice (some ⟨q, 0, none⟩) 64 64)) w8)
    (C : Array Value) (hC : w8.heap[q]? = some (.cells C 5 (0, 0))) (R : Array Value) (hR : R = (Lib.byteCells (X j)).toArray) : OutTo B lo (w8.setRow q R) k (j + 1) X := by
  have hBl := h.lt
  obtain ⟨f, h1, h2⟩ := h
  have h3 := (h1.alloc O).set j (.slice (some ⟨q, 0, none⟩) 64 64)
  have h8 := h3.of_block (hb.block B h3.lt)
  have hqB : q ≠ B := by omega
  have kk : ∀ x, x ≠ q → (w8.setRow q R).heap[x]? = w8.heap[x]? := fun x hx => setRow_other w8 q x R hx
  refine ⟨_, h8.of_block (kk B (Ne.symm hqB)), fun i hi => ?_⟩
  by_cases e : i = j
  · subst e
    exact ⟨q, if_pos rfl, by omega, by rw [hR, setRow_heap w8 q C _ _ _ hC]⟩
  · obtain ⟨q', e1, e2, e3⟩ := h2 i (by omega)
    refine ⟨q', (if_neg e).trans e1, e2, ?_⟩
    have hq'B : q' ≠ B := fun e9 => by
      subst e9
      obtain ⟨c, hc, _⟩ := h1
      rw [hc] at e3
      injection e3 with e3
      injection e3 with _ e3
      exact absurd e3 (by decide)
    have hlt := lt_of_block e3
    have h7 : (w.alloc O).heap[q']? = some (.cells (Lib.byteCells (X i)).toArray 5 (0, 0)) := by rw [((Below.refl _ w).alloc (Nat.le_refl _) O).block q' hlt]; exact e3
    have h9 : ((w.alloc O).setCell ⟨B, j, none⟩ (.slice (some ⟨q, 0, none⟩) 64 64)).heap[q']? = some (.cells (Lib.byteCells (X i)).toArray 5 (0, 0)) := by rw [heap_setCell_other _ ⟨B, j, none⟩ q' _ hq'B]; exact h7
    rw [kk q' (by omega), hb.block q' (lt_of_block h9)]; exact h9
theorem OutTo.out {B lo k : Nat} {w : World} {X : Nat → List UInt8} {F : Nat → Prop} (h : OutTo B lo w k k X) (hX : ∀ i, i < k → (X i).length = 64) (hB : ¬ F B) (hF : ∀ x, lo ≤ x → ¬ F x) (hk : k ≤ 65536) : BsOut F w (.slice (some ⟨B, 0, none⟩) k k) ((List.range k).map X) := by
  have hl : ((List.range k).map X).length = k := by simp
  refine ⟨_, k, by rw [hl], by rw [hl]; exact Nat.le_refl _, by omega, .inr ⟨B, 0, rfl, h.lt, hB, fun j hj => ?_⟩⟩
  rw [hl] at hj
  obtain ⟨f, h1, h2⟩ := h
  obtain ⟨q, e1, e2, e3⟩ := h2 j hj
  have hx : ((List.range k).map X)[j]'(by rw [hl]; exact hj) = X j := by simp
  refine ⟨f j, by rw [Nat.zero_add]; exact h1.cell hj, ?_⟩
  rw [hx, e1]
  have hXl := hX j hj
  refine ⟨⟨_, 64, by rw [hXl], by omega, by omega, .inr ⟨q, 0, rfl, lt_of_block e3, fun i hi => ?_⟩⟩, nil_ok q _ _, fun ad n c e _ => by cases e; exact hF q e2⟩
  rw [Nat.zero_add]
  simp only [World.cell?, e3]
  simp [Lib.byteCells, hi]

set_option maxHeartbeats 3200000 in
set_option maxRecDepth 100000 in
theorem see_w (w : World) (g : Nat) (F : Nat → Prop) (n bs bv : Nat) (wv fv cn cl : Value) (S V : List Dv.Sec) (W : List (Nat × Dv.Sec)) (h : Med w g F n bs bv wv fv cn cl S V W) (hF : ∀ x, F x → x < w.heap.size) (a k : Nat) (hak : a + k ≤ n) :
    Calls Try.prog 42 #[.pointer (some ⟨g, 0, none⟩), .int .i64 (a : Int), .int .i64 (k : Int)] w fun e w' => ∃ v, e = .returned v ∧ BsOut F w' v ((List.range k).map fun j => V.getD (a + j) []) ∧ Below w.heap.size w w' := by
  have hn9 := h.le
  have hmk : ∀ W : World, (Instr.makeSlice 43 (.int .i64 (k : Int)) (.int .i64 (k : Int))).run Try.prog W = .ok (.slice (some ⟨W.heap.size, 0, none⟩) k k) (W.alloc (.cells (madeCells #[.slice none 0 0] k) 22)) := fun W => run_make_row' (P := Try.prog) 43 22 (.slice none 0 0) 24 Try.underlying43 slices_info rfl .i64 .i64 k (by omega) (by omega) W
  have hmk2 : ∀ W : World, (Instr.makeSlice 22 (.int .i64 64) (.int .i64 64)).run Try.prog W = .ok (.slice (some ⟨W.heap.size, 0, none⟩) 64 64) (W.alloc (.cells (madeCells #[.int .u8 0] 64) 5)) := fun W => run_make_row' (P := Try.prog) 22 5 (.int .u8 0) 1 Try.underlying22 bytes_info rfl .i64 .i64 64 (by omega) (by omega) W
  have HMK := Lib.hid hmk2
  obtain ⟨X, hX⟩ : ∃ X : Nat → List UInt8, X = fun j => V.getD (a + j) [] := ⟨_, rfl⟩
  have HX64 : Hid (∀ i, i < k → (X i).length = 64) := Lib.hid (fun i hi => by
    rw [hX]
    have hi9 : a + i < V.length := by rw [h.lV]; omega
    show (V.getD (a + i) []).length = 64
    rw [List.getD_eq_getElem?_getD, List.getElem?_eq_getElem hi9]
    exact h.gV _ (List.getElem_mem hi9))
  have HXV : Hid (∀ i, i < k → ∀ (W9 : World), Below w.heap.size w W9 → ∀ j u, (Lib.byteCells (X i)).toArray.toList[j]? = some u → W9.cell? ((⟨bv, a * 64 + i * 64, none⟩ : Addr).add j) = some u) := Lib.hid (fun i hi W9 hb9 j u hj => by
    have hi9 : a + i < V.length := by rw [h.lV]; omega
    have h9 := (h.later hb9).seen.cell h.gV (a + i) hi9 j u (by
      rw [← hj, hX]
      show (Lib.byteCells V[a + i])[j]? = (Lib.byteCells (V.getD (a + i) [])).toArray.toList[j]?
      rw [List.getD_eq_getElem?_getD, List.getElem?_eq_getElem hi9]
      rfl)
    rw [Nat.add_mul] at h9
    exact h9)
  rw [← hX]
  have c1 := h.c1
  have HFF := Lib.hid hF
  obtain ⟨W2, hW2⟩ : ∃ W2, W2 = w.alloc (.cells (madeCells #[.slice none 0 0] k) 22) := ⟨_, rfl⟩
  have hbW : Below w.heap.size w W2 := by rw [hW2]; exact (Below.refl _ w).alloc (Nat.le_refl _) _
  have hO0 : OutTo w.heap.size w.heap.size W2 k 0 X := by rw [hW2]; exact OutTo.zero w k X
  have d1 := (h.later hbW).c1
  obtain ⟨B, hB⟩ : ∃ B, B = w.heap.size := ⟨_, rfl⟩
  have HB := Lib.hid hB
  have hw1 : IntKind.i64.wrap ((a : Int) + k) = (a : Int) + k := by rw [IntKind.wrap_i64]; omega
  clear hmk2 hX c1 hF h
  go_enter Try.func42, Try.ntmps42
  go_upto_region 2 with fail
  rw [← hW2]
  rw [← hB] at hO0 ⊢
  clear hW2 hmk hB
  go_cut [20, 21, 22] (fun u20 u21 u22 wx => ∃ o2 c2, u20 = .slice (some ⟨bv, o2, none⟩) k c2 ∧ u21 = .int .i64 (k : Int) ∧ u22 = .int .i64 0 ∧ k ≤ c2 ∧ c2 ≤ 65536 ∧ (0 < k → o2 = a * 64) ∧ W2 = wx)
  case first =>
    by_cases hn : a = n
    · obtain rfl : k = 0 := by omega
      subst hn
      go_wp2_with fail
      go_meet
      exact ⟨_, _, rfl, rfl, rfl, by omega, by omega, fun h => absurd h (by omega), rfl⟩
    · have hlt : a < n := by omega
      go_wp2_with fail
      go_meet
      exact ⟨_, _, rfl, rfl, rfl, by omega, by omega, fun _ => rfl, rfl⟩
  case rest =>
    obtain ⟨o2, c2, rfl, rfl, rfl, hc2, hc29, ho2, rfl⟩ := hcut
    have HO2 := Lib.hid ho2
    have hk9 : k ≤ 65536 := by omega
    clear d1 ho2
    go_wp2_with fail
    go_loopw [22] (fun i wr => ∃ j : Nat, j ≤ k ∧ i = .int .i64 j ∧ Below w.heap.size w wr ∧ OutTo B B wr k j X) (fun i _ => k - (intOf i).toNat)
    case atStart => exact ⟨0, Nat.zero_le _, rfl, hbW, hO0⟩
    case round =>
      clear hO0 hbW W2
      obtain ⟨j, hj, rfl, hbr, hOr⟩ := hrel
      by_cases hlt : j < k
      · have hji : (j : Int) < k := by omega
        obtain rfl : o2 = a * 64 := HO2.out (by omega)
        have hseg0 := HXV.out j hlt wr hbr
        have hx64 := HX64.out j hlt
        have hs3 : (Lib.byteCells (X j)).toArray.size = 64 := by rw [List.size_toArray, Lib.byteCells_length, hx64]
        have hone3 : (Lib.byteCells (X j)).toArray.all (·.oneCell') = true := Array.all_eq_true_iff_forall_mem.2 (fun v hv => bytes_one _ v (by simpa using hv))
        obtain ⟨xc, hxc⟩ : ∃ xc, (Lib.byteCells (X j)).toArray = xc := ⟨_, rfl⟩
        have HXC := Lib.hid hxc
        rw [hxc] at hs3 hone3
        have hseg : ∀ j2 u, xc.toList[j2]? = some u → wr.cell? ((⟨bv, a * 64 + j * 64, none⟩ : Addr).add j2) = some u := fun j2 u h9 => hseg0 j2 u (by rw [← hxc] at h9; simpa using h9)
        obtain ⟨cz, hcz⟩ : ∃ cz, (Lib.byteCells (List.replicate 64 0)).toArray = cz := ⟨_, rfl⟩
        have hcz64 : cz.size = 64 := by rw [← hcz, List.size_toArray, Lib.byteCells_length]; simp
        have hzr := sector_zero
        rw [hcz] at hzr
        have HBR := Lib.hid hbr
        have HOR := Lib.hid hOr
        clear hxc hcz hbr hOr hx64 hseg0
        go_upto_region 4 with fail
        go_cut [8, 9] (fun u8 u9 wx => ∃ q, u8 = .int .i64 (j : Int) ∧ u9 = .pointer (some ⟨q, 0, none⟩) ∧ Below wr.heap.size wr wx ∧ wx.heap[q]? = some (.cells xc 100 (0, 0)))
        case first =>
          go_wp2_with (first
            | refine wpList_load_seg rfl 100 (.tmp 25) rfl ⟨bv, a * 64 + j * 64, none⟩ rfl xc _ hseg Try.underlying100 rfl (by rw [hs3]; exact sector_size) ?_
            | refine wpList_alloc_zero rfl 100 rfl cz hzr ?_
            | refine wpList_store_row rfl 100 (.tmp 9) (.tmp 26) rfl wr.heap.size xc rfl rfl 100 cz (heap_alloc_new wr _) (by rw [hs3]; exact sector_size) (by rw [hs3, hcz64]) hone3 ?_)
          go_meet
          exact ⟨wr.heap.size, rfl, rfl, Below.row ((Below.refl _ wr).alloc (Nat.le_refl _) _) (Nat.le_refl _) _, setRow_heap _ _ _ _ _ _ (heap_alloc_new wr _)⟩
        case rest =>
          obtain ⟨q1, rfl, rfl, hb2, hz2⟩ := hcut
          have hO := HOR.out.later hb2
          have hmk2 := HMK.out
          have hb5 : Below wc.heap.size wc (wc.alloc (.cells (madeCells #[.int .u8 0] 64) 5)) := (Below.refl _ wc).alloc (Nat.le_refl _) _
          obtain ⟨u5, e5, f5⟩ := (hO.later hb5).cell j hlt
          have HO := Lib.hid hO
          have HB2 := Lib.hid hb2
          have HZ2 := Lib.hid hz2
          clear hseg hs3 hone3 hzr hcz64 hO hb2 hz2 hb5
          go_upto_region 6 with fail
          obtain ⟨q, hq⟩ : ∃ q, q = wc.heap.size := ⟨_, rfl⟩
          rw [← hq]
          have hBl := HO.out.lt
          have hqB : q ≠ B := by omega
          have hq1B : q1 ≠ B := fun e => by
            obtain ⟨f9, ⟨c9, hc9, _⟩, _⟩ := HO.out
            have hz := HZ2.out
            rw [e, hc9] at hz
            injection hz with hz
            injection hz with _ hz
            exact absurd hz (by decide)
          have hBw : w.heap.size ≤ B := by rw [HB.out]; exact Nat.le_refl _
          have hbwc : Below w.heap.size w wc := HBR.out.trans (HB2.out.mono HBR.out.size)
          have HNX : Hid (∀ w8, Below ((wc.alloc (.cells (madeCells #[.int .u8 0] 64) 5)).setCell ⟨B, j, none⟩ (.slice (some ⟨q, 0, none⟩) 64 64)).heap.size ((wc.alloc (.cells (madeCells #[.int .u8 0] 64) 5)).setCell ⟨B, j, none⟩ (.slice (some ⟨q, 0, none⟩) 64 64)) w8 → w8.heap[q]? = some (.cells (madeCells #[.int .u8 0] 64) 5 (0, 0)) → OutTo B B (w8.setRow q xc) k (j + 1) X) :=
            Lib.hid (fun w8 h8 hc8 => HO.out.next (by have := hbwc.size; omega) hlt hq h8 _ hc8 xc HXC.out.symm)
          have hc5 : ((wc.alloc (.cells (madeCells #[.int .u8 0] 64) 5)).setCell ⟨B, j, none⟩ (.slice (some ⟨q, 0, none⟩) 64 64)).cell? ⟨B, j, none⟩ = some (.slice (some ⟨q, 0, none⟩) 64 64) := World.cell?_setCell_same _ _ _ e5
          have hz5 : ((wc.alloc (.cells (madeCells #[.int .u8 0] 64) 5)).setCell ⟨B, j, none⟩ (.slice (some ⟨q, 0, none⟩) 64 64)).heap[q1]? = some (.cells xc 100 (0, 0)) := by
            rw [heap_setCell_other _ ⟨B, j, none⟩ q1 _ hq1B, ((Below.refl _ wc).alloc (Nat.le_refl _) _).block q1 (lt_of_block HZ2.out)]
            exact HZ2.out
          have hq5 : ((wc.alloc (.cells (madeCells #[.int .u8 0] 64) 5)).setCell ⟨B, j, none⟩ (.slice (some ⟨q, 0, none⟩) 64 64)).heap[q]? = some (.cells (madeCells #[.int .u8 0] 64) 5 (0, 0)) := by
            rw [heap_setCell_other _ ⟨B, j, none⟩ q _ hqB, hq]
            exact heap_alloc_new wc _
          have hb5 : Below w.heap.size w ((wc.alloc (.cells (madeCells #[.int .u8 0] 64) 5)).setCell ⟨B, j, none⟩ (.slice (some ⟨q, 0, none⟩) 64 64)) := (hbwc.alloc hbwc.size _).setCell hBw _
          have hqw : w.heap.size ≤ q := by have := hbwc.size; omega
          generalize (wc.alloc (.cells (madeCells #[.int .u8 0] 64) 5)).setCell ⟨B, j, none⟩ (.slice (some ⟨q, 0, none⟩) 64 64) = w5 at HNX hc5 hz5 hq5 hb5 ⊢
          have l5 := fun p9 : LateOf w5 => p9.cell hc5
          have HB5 := Lib.hid hb5
          have HZ5 := Lib.hid hz5
          have HQ5 := Lib.hid hq5
          clear hmk2 e5 f5 hq hBl hbwc hc5 hz5 hq5 hb5 hqB hq1B hBw HB2 HZ2 HO
          refine wp_region_late_tail 5 (by kernel_rfl) (by kernel_rfl) ?_
          simp only [List.take_succ_cons, List.take_zero, List.drop_succ_cons, List.drop_zero]
          iterate 5 quiet_step (fail)
          refine wpQuiet_nil ?_
          intro w8 hw'
          have hb8 : Below w5.heap.size w5 w8 := by obtain ⟨p9, rfl⟩ := hw'; exact p9.h
          have hz8 : w8.heap[q1]? = some (.cells xc 100 (0, 0)) := by rw [hb8.block q1 (lt_of_block HZ5.out)]; exact HZ5.out
          have hq8 : w8.heap[q]? = some (.cells (madeCells #[.int .u8 0] 64) 5 (0, 0)) := by rw [hb8.block q (lt_of_block HQ5.out)]; exact HQ5.out
          have hx9 : xc.size = 64 := by rw [← HXC.out, List.size_toArray, Lib.byteCells_length, HX64.out j hlt]
          have hcl : xc.toList.length = 64 := by rw [Array.length_toList, hx9]
          have hsrc : ∀ j2 u, xc.toList[j2]? = some u → w8.cell? ((⟨q1, 0, none⟩ : Addr).add j2) = some u := fun j2 u h9 => by
            rw [Addr.add_lit, Nat.zero_add]
            simp only [World.cell?, hz8]
            simpa using h9
          have hone9 : ∀ v ∈ xc.toList, v.oneCell' = true := by rw [← HXC.out]; exact bytes_one _
          have hR : ((madeCells #[.int .u8 0] 64).toList.take 0 ++ (xc.toList ++ (madeCells #[.int .u8 0] 64).toList.drop (0 + xc.toList.length))).toArray = xc := by
            rw [hcl, List.drop_of_length_le (by rw [Array.length_toList, size_madeCells]; omega)]
            simp
          have hfit : 0 + xc.toList.length ≤ (madeCells #[.int .u8 0] 64).size := by rw [hcl, size_madeCells]; omega
          have hmin : xc.toList.length = Nat.min 64 64 := hcl
          have HN9 := Lib.hid (HNX.out w8 hb8 hq8)
          have HB9 : Hid (Below w.heap.size w (w8.setRow q xc)) := Lib.hid (Below.row (HB5.out.trans (hb8.mono HB5.out.size)) hqw xc)
          generalize madeCells #[.int .u8 0] 64 = cm at hq8 hR hfit
          generalize hxl : xc.toList = xl at hcl hsrc hone9 hR hfit hmin
          clear hw' l5 hb8 hz8 HNX HB5 HZ5 HQ5 hx9 hxl
          go_wp2_with (refine wpList_copy_to rfl (.tmp 34) (.tmp 35) 22 22 rfl 5 Try.underlying22 (by kernel_rfl) q 0 64 64 ⟨q1, 0, none⟩ 64 64 rfl rfl cm 5 hq8 xl hmin hsrc hfit hone9 xc hR 64 hcl ?_)
          go_roundw
          case rel => exact ⟨j + 1, by omega, by go_num, HB9.out, HN9.out⟩
          case measure => simp [intOf]; omega
      · have hji : ¬ (j : Int) < k := by omega
        obtain rfl : j = k := by omega
        have HBR := Lib.hid hbr
        have HOR := Lib.hid hOr
        clear hlt hj hbr hOr
        go_wp2_with fail
        go_ret
        refine ⟨_, rfl, HOR.out.out HX64.out (fun h => by have := HFF.out _ h; have := HB.out; omega) (fun x hx h => by have := HFF.out _ h; have := HB.out; omega) hk9, HBR.out⟩
end Go.Proofs.Ytjdmmnpfjbnhoaa
