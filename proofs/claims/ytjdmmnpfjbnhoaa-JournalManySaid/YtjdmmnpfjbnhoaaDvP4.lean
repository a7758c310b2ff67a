/- Package device: what waits comes to be sure. -/
import Derived.Test.YtjdmmnpfjbnhoaaDvP3
namespace Go.Proofs.Ytjdmmnpfjbnhoaa
open Go.RowKit

set_option maxHeartbeats 3200000 in
set_option maxRecDepth 100000 in
theorem settleF_w (w : World) (g : Nat) (F : Nat → Prop) (n bs bv : Nat) (wv fv cn cl : Value) (S V : List Dv.Sec) (W : List (Nat × Dv.Sec)) (oc : Nat → Nat) (h : Med w g F n bs bv wv fv cn cl S V W) (ho : ∀ k, oc k ≤ 64) (hW : W.length ≤ 1000000)
    (hc : ∀ W' : World, Touch F w W' → ∀ k, k < W.length → Calls Try.prog 46 #[.int .i64 (k : Int)] W' fun e w' => e = .returned (.int .i64 (oc k : Nat)) ∧ W' = w') :
    Calls Try.prog 38 #[.pointer (some ⟨g, 0, none⟩), .func (.func 46) #[] #[]] w fun e w' => e = .returned (.tuple #[]) ∧ Touch F w w' ∧ Med w' g F n bs bv (.slice none 0 0) fv cn cl (Dv.settle oc 0 W S) (W.foldl (Dv.turn (Dv.settle oc 0 W S)) V) [] := by
  have HC := Lib.hid hc
  have HO := Lib.hid ho
  obtain ⟨av, cw, rfl, hcw, hcw9, hav⟩ := h.wait.shape
  have HAV : Hid (W ≠ [] → ∃ bw, av = some ⟨bw, 0, none⟩ ∧ bw < w.heap.size) := Lib.hid hav
  obtain ⟨cy, hcy⟩ : ∃ cy, cy = (wcells (0, List.replicate 64 0)).toArray := ⟨_, rfl⟩
  have HCY : Hid (cy.size = 65 ∧ ((Try.prog.info? 102).bind (·.zero)).map (·.cells) = some cy) := Lib.hid ⟨by rw [hcy, List.size_toArray, wcells_length (by simp)], by rw [hcy]; exact write_zero⟩
  obtain ⟨L, hL⟩ : ∃ L, L = W.length := ⟨_, rfl⟩
  have HL := Lib.hid hL
  rw [← hL] at hcw hW h
  have hn9 := h.le
  have c2 := h.c2
  have HH := Lib.hid h
  clear hc ho hav hcy hL h
  go_enter Try.func38, Try.ntmps38
  go_upto_block 0 with fail
  go_cut [] from 4 to 32 (fun wx => Touch F w wx ∧ Med wx g F n bs bv (.slice av L cw) fv cn cl (Dv.settle oc 0 W S) V W)
  case first =>
    go_wp2_with fail
    go_loopw [13] (fun i wr => ∃ k : Nat, k ≤ L ∧ i = .int .i64 k ∧ Touch F w wr ∧ Med wr g F n bs bv (.slice av L cw) fv cn cl (Dv.settle oc 0 (W.take k) S) V W) (fun i _ => L - (intOf i).toNat)
    case atStart => exact ⟨0, Nat.zero_le _, rfl, Touch.refl _ _, by rw [List.take_zero]; exact HH.out⟩
    case round =>
      clear c2 HH
      obtain ⟨k, hk, rfl, ht, hM⟩ := hrel
      by_cases hlt : k < L
      · have hki : (k : Int) < L := by omega
        have hkl : k < W.length := by rw [← HL.out]; exact hlt
        obtain ⟨bw, hav, hbw⟩ := HAV.out (fun e => by rw [e] at hkl; cases hkl)
        subst hav
        obtain ⟨hgw1, hgw2⟩ := hM.gW _ (List.getElem_mem hkl)
        have hseg := (hM.wait.cell (fun y hy => (hM.gW y hy).2) k hkl rfl).2
        have HK := Lib.hid (show W[k]? = some W[k] from List.getElem?_eq_getElem hkl)
        generalize hWk : W[k] = y at hgw1 hgw2 hseg HK
        obtain ⟨p, x⟩ := y
        obtain ⟨cx, hcx⟩ : ∃ cx, cx = (wcells (p, x)).toArray := ⟨_, rfl⟩
        have hcz : cx.size = 65 := by rw [hcx, List.size_toArray, wcells_length hgw2]
        have hone2 : cx.all (·.oneCell') = true := by rw [hcx]; exact Array.all_eq_true_iff_forall_mem.2 (fun v hv => wcells_one _ v (by simpa using hv))
        have hseg : ∀ j v, cx.toList[j]? = some v → wr.cell? ((⟨bw, k * 65, none⟩ : Addr).add j) = some v := by rw [hcx]; exact hseg
        have hy : cy.size = 65 := HCY.out.1
        have hzr := HCY.out.2
        have HCX := Lib.hid hcx
        have HM0 := Lib.hid hM
        have HT := Lib.hid ht
        have hpn : p < n := hgw1
        have hx64 : x.length = 64 := hgw2
        clear hWk hcx hM ht hgw1 hgw2 hbw
        go_upto_region 2 with fail
        go_cut [4, 5] (fun u4 u5 wx => ∃ q, u4 = .int .i64 (k : Int) ∧ u5 = .pointer (some ⟨q, 0, none⟩) ∧ Below wr.heap.size wr wx ∧ q = wr.heap.size ∧ wx.heap[q]? = some (.cells cx 102 (0, 0)))
        case first =>
          go_wp2_with (first
            | refine wpList_load_seg rfl 102 (.tmp 16) rfl ⟨bw, k * 65, none⟩ rfl cx _ hseg Try.underlying102 rfl (by rw [hcz]; exact write_size) ?_
            | refine wpList_alloc_zero rfl 102 rfl cy hzr ?_
            | refine wpList_store_row rfl 102 (.tmp 5) (.tmp 17) rfl wr.heap.size cx rfl rfl 102 cy (heap_alloc_new wr _) (by rw [hcz]; exact write_size) (by rw [hcz, hy]) hone2 ?_)
          go_meet
          exact ⟨wr.heap.size, rfl, rfl, Below.row ((Below.refl _ wr).alloc (Nat.le_refl _) _) (Nat.le_refl _) _, rfl, setRow_heap _ _ _ _ _ _ (heap_alloc_new wr _)⟩
        case rest =>
          obtain ⟨q, rfl, rfl, hb2, hq, hz2⟩ := hcut
          have HQ := Lib.hid hq
          have HBW : Hid (∀ q', q' = wr.heap.size → Below wr.heap.size wr wc) := Lib.hid (fun _ _ => hb2)
          clear hq hseg hone2 hy hzr
          have hM := HM0.out.later hb2
          have l0 := fun p9 : LateOf wc => p9.cell hM.c0
          have l1 := fun p9 : LateOf wc => p9.cell hM.c1
          have l2 := fun p9 : LateOf wc => p9.cell (show wc.cell? ⟨q, 64, none⟩ = some (.int .i64 (p : Int)) by
            simp only [World.cell?, hz2, HCX.out]
            unfold wcells
            have e9 : (Lib.byteCells x).length = 64 := by rw [Lib.byteCells_length, hx64]
            simp [e9])
          have hpi : (p : Int) < n := by omega
          have hM1 := Lib.hid hM
          have hZ2 := Lib.hid hz2
          clear hM
          obtain ⟨c9, hc9⟩ : ∃ c9 : Nat, oc k = c9 := ⟨_, rfl⟩
          have cF := fun p9 : LateOf wc => HC.out p9.w (HT.out.trans (Touch.of (hb2.trans (p9.h.mono hb2.size)))) k hkl
          rw [hc9] at cF
          have hc64 : (c9 : Int) ≤ 64 := by have := HO.out k; omega
          have hc64n : c9 ≤ 64 := by have := HO.out k; omega
          have HC9 := Lib.hid hc9
          clear hc9 hb2
          go_upto_region 3 with fail
          refine wp_region_late_tail 13 (by kernel_rfl) (by kernel_rfl) ?_
          simp only [List.take_succ_cons, List.take_zero, List.drop_succ_cons, List.drop_zero]
          iterate 9 quiet_step (fail)
          quiet_step (exact late_same _ (cF _))
          iterate 3 quiet_step (fail)
          refine wpQuiet_nil ?_
          intro w8 hw'
          have hb8 : Below wc.heap.size wc w8 := by obtain ⟨p9, rfl⟩ := hw'; exact p9.h
          have hM8 := hM1.out.later hb8
          have hs8 := hM8.sure
          unfold Secs at hs8
          have hz8 : w8.heap[q]? = some (.cells cx 102 (0, 0)) := by rw [hb8.block q (lt_of_block hZ2.out)]; exact hZ2.out
          have HM8 := Lib.hid hM8
          have HT8 : Hid (Touch F w w8) := Lib.hid (HT.out.trans (Touch.of ((HBW.out q HQ.out).trans (hb8.mono (HBW.out q HQ.out).size))))
          clear hw' hM8 l0 l1 l2 cF hb8 hM1 hZ2
          obtain ⟨z, hz⟩ : ∃ z, z = x.take c9 := ⟨_, rfl⟩
          have hzl : z.length = c9 := by rw [hz, List.length_take]; omega
          have hsl : (secs (Dv.settle oc 0 (W.take k) S)).toArray.size = n * 64 := by rw [List.size_toArray, secs_length HM8.out.gS, HM8.out.lS]
          have hn9 : (Lib.byteCells z).length = c9 := by rw [Lib.byteCells_length, hzl]
          have hsrc : ∀ j v, (Lib.byteCells z)[j]? = some v → w8.cell? ((⟨q, 0, none⟩ : Addr).add j) = some v := fun j v hj => by
            have hj9 := (List.getElem?_eq_some_iff.1 hj).1
            rw [Addr.add_lit, Nat.zero_add]
            simp only [World.cell?, hz8, HCX.out]
            rw [← hj, hz]
            unfold wcells
            have hxl : (Lib.byteCells x).length = 64 := by rw [Lib.byteCells_length, hx64]
            rw [List.getElem?_toArray, List.getElem?_append_left (show j < (Lib.byteCells x).length by omega)]
            unfold Lib.byteCells
            rw [List.map_take, List.getElem?_take_of_lt (by omega)]
            simp
          obtain ⟨R, hR⟩ : ∃ R, ((secs (Dv.settle oc 0 (W.take k) S)).toArray.toList.take (p * 64) ++ (Lib.byteCells z ++ (secs (Dv.settle oc 0 (W.take k) S)).toArray.toList.drop (p * 64 + (Lib.byteCells z).length))).toArray = R := ⟨_, rfl⟩
          have HR := Lib.hid hR
          have HZ := Lib.hid hz
          have hmin : (Lib.byteCells z).length = Nat.min 64 c9 := by rw [hn9]; exact (Nat.min_eq_right hc64n).symm
          have hone3 := bytes_one z
          generalize Lib.byteCells z = zs at hn9 hsrc hR hmin hone3
          generalize (secs (Dv.settle oc 0 (W.take k) S)).toArray = old at hs8 hsl hR
          clear hz hz8
          go_wp2_with (refine wpList_copy_to rfl (.tmp 28) (.tmp 30) 22 22 rfl 5 Try.underlying22 (by kernel_rfl) bs (p * 64) c9 64 ⟨q, 0, none⟩ 64 64 rfl rfl old 100 hs8 zs hmin hsrc (by rw [hn9, hsl]; omega) hone3 R hR c9 hn9 ?_)
          have hM9 : Med (w8.setRow bs R) g F n bs bv (.slice (some ⟨bw, 0, none⟩) L cw) fv cn cl (Dv.settle oc 0 (W.take (k + 1)) S) V W := by
            have h9 := HM8.out.sures p hpn z (by omega)
            have e9 : ((secs (Dv.settle oc 0 (W.take k) S)).toArray.toList.take (p * 64) ++ Lib.byteCells z ++ (secs (Dv.settle oc 0 (W.take k) S)).toArray.toList.drop (p * 64 + (Lib.byteCells z).length)).toArray = R := by rw [← HR.out, List.append_assoc]
            have e8 : W.take (k + 1) = W.take k ++ [(p, x)] := by rw [List.take_add_one, HK.out]; rfl
            rw [e9] at h9
            rw [e8, Dv.settle_snoc, List.length_take, Nat.min_eq_left (Nat.le_of_lt hkl), Nat.zero_add, HC9.out, ← HZ.out]
            rw [hzl] at h9
            exact h9
          have hT9 : Touch F w (w8.setRow bs R) := HT8.out.trans (Touch.row HM8.out.hs R)
          generalize w8.setRow bs R = w9 at hM9 hT9 ⊢
          clear hs8 hsrc
          go_roundw
          case rel => exact ⟨k + 1, by omega, by go_num, hT9, hM9⟩
          case measure => simp [intOf]; omega
      · have hki : ¬ (k : Int) < L := by omega
        have HE : Hid (W.take k = W) := Lib.hid (List.take_of_length_le (by rw [← HL.out]; omega))
        rw [HE.out] at hM
        have HMM := Lib.hid hM
        clear hlt hk hM
        go_wp2_with fail
        go_meet
        exact ⟨ht, HMM.out⟩
  case rest =>
    obtain ⟨ht1, hM1⟩ := hcut
    have HT1 := Lib.hid ht1
    have HM1 := Lib.hid hM1
    have d2 := hM1.c2
    have S'def : ∃ S', S' = Dv.settle oc 0 W S := ⟨_, rfl⟩
    obtain ⟨S', hS'⟩ := S'def
    rw [← hS'] at HM1
    have HS' := Lib.hid hS'
    clear c2 HH ht1 hM1 hS'
    go_upto_block 2 with fail
    go_cut [] from 7 to 57 (fun wx => Touch F w wx ∧ Med wx g F n bs bv (.slice av L cw) fv cn cl S' (W.foldl (Dv.turn S') V) W)
    case first =>
      go_wp2_with fail
      go_loopw [38] (fun i wr => ∃ k : Nat, k ≤ L ∧ i = .int .i64 k ∧ Touch F w wr ∧ Med wr g F n bs bv (.slice av L cw) fv cn cl S' ((W.take k).foldl (Dv.turn S') V) W) (fun i _ => L - (intOf i).toNat)
      case atStart => exact ⟨0, Nat.zero_le _, rfl, HT1.out, by rw [List.take_zero]; exact HM1.out⟩
      case round =>
        clear d2 HM1 HT1
        obtain ⟨k, hk, rfl, ht, hM⟩ := hrel
        by_cases hlt : k < L
        · have hki : (k : Int) < L := by omega
          have hkl : k < W.length := by rw [← HL.out]; exact hlt
          obtain ⟨bw, hav, hbw⟩ := HAV.out (fun e => by rw [e] at hkl; cases hkl)
          subst hav
          obtain ⟨hgw1, hgw2⟩ := hM.gW _ (List.getElem_mem hkl)
          have hseg := (hM.wait.cell (fun y hy => (hM.gW y hy).2) k hkl rfl).2
          have HK := Lib.hid (show W[k]? = some W[k] from List.getElem?_eq_getElem hkl)
          generalize hWk : W[k] = y at hgw1 hgw2 hseg HK
          obtain ⟨p, x⟩ := y
          obtain ⟨cx, hcx⟩ : ∃ cx, cx = (wcells (p, x)).toArray := ⟨_, rfl⟩
          have hcz : cx.size = 65 := by rw [hcx, List.size_toArray, wcells_length hgw2]
          have hone2 : cx.all (·.oneCell') = true := by rw [hcx]; exact Array.all_eq_true_iff_forall_mem.2 (fun v hv => wcells_one _ v (by simpa using hv))
          have hseg : ∀ j v, cx.toList[j]? = some v → wr.cell? ((⟨bw, k * 65, none⟩ : Addr).add j) = some v := by rw [hcx]; exact hseg
          have hy : cy.size = 65 := HCY.out.1
          have hzr := HCY.out.2
          have HCX := Lib.hid hcx
          have HM0 := Lib.hid hM
          have HT := Lib.hid ht
          have hpn : p < n := hgw1
          have hx64 : x.length = 64 := hgw2
          clear hWk hcx hM ht hgw1 hgw2 hbw
          go_upto_region 7 with fail
          go_cut [7] (fun u7 wx => ∃ q, u7 = .pointer (some ⟨q, 0, none⟩) ∧ Below wr.heap.size wr wx ∧ q = wr.heap.size ∧ wx.heap[q]? = some (.cells cx 102 (0, 0)))
          case first =>
            go_wp2_with (first
              | refine wpList_load_seg rfl 102 (.tmp 40) rfl ⟨bw, k * 65, none⟩ rfl cx _ hseg Try.underlying102 rfl (by rw [hcz]; exact write_size) ?_
              | refine wpList_alloc_zero rfl 102 rfl cy hzr ?_
              | refine wpList_store_row rfl 102 (.tmp 7) (.tmp 41) rfl wr.heap.size cx rfl rfl 102 cy (heap_alloc_new wr _) (by rw [hcz]; exact write_size) (by rw [hcz, hy]) hone2 ?_)
            go_meet
            exact ⟨wr.heap.size, rfl, Below.row ((Below.refl _ wr).alloc (Nat.le_refl _) _) (Nat.le_refl _) _, rfl, setRow_heap _ _ _ _ _ _ (heap_alloc_new wr _)⟩
          case rest =>
            obtain ⟨q, rfl, hb2, hq, hz2⟩ := hcut
            have HQ := Lib.hid hq
            have HBW : Hid (∀ q', q' = wr.heap.size → Below wr.heap.size wr wc) := Lib.hid (fun _ _ => hb2)
            clear hq hseg hone2 hy hzr
            have hM := HM0.out.later hb2
            have l0 := fun p9 : LateOf wc => p9.cell hM.c0
            have l1 := fun p9 : LateOf wc => p9.cell hM.c1
            have l2 := fun p9 : LateOf wc => p9.cell (show wc.cell? ⟨q, 64, none⟩ = some (.int .i64 (p : Int)) by
              simp only [World.cell?, hz2, HCX.out]
              unfold wcells
              have e9 : (Lib.byteCells x).length = 64 := by rw [Lib.byteCells_length, hx64]
              simp [e9])
            have hpi : (p : Int) < n := by omega
            have hM1 := Lib.hid hM
            have hZ2 := Lib.hid hz2
            clear hM
            obtain ⟨z, hz⟩ : ∃ z, z = S'.getD p [] := ⟨_, rfl⟩
            have hpS : p < S'.length := by rw [hM1.out.lS]; exact hpn
            have hze : z = S'[p] := by rw [hz, List.getD_eq_getElem?_getD, List.getElem?_eq_getElem hpS]; rfl
            have hz64 : z.length = 64 := by rw [hze]; exact hM1.out.gS _ (List.getElem_mem hpS)
            have l3 : ∀ W9, (∃ p9 : LateOf wc, W9 = p9.w) → ∀ j u, (Lib.byteCells z).toArray.toList[j]? = some u → W9.cell? ((⟨bs, p * 64, none⟩ : Addr).add j) = some u := fun W9 ⟨p9, hp9⟩ j u hj => by
              subst hp9
              have h9 := (hM1.out.later p9.h).sure.cell hM1.out.gS p hpS j u (by rw [← hze]; simpa using hj)
              exact h9
            have hs3 : (Lib.byteCells z).toArray.size = 64 := by rw [List.size_toArray, Lib.byteCells_length, hz64]
            have hone3 : ∀ v ∈ (Lib.byteCells z).toArray.toList, v.oneCell' = true := bytes_one z
            obtain ⟨VK, hVK⟩ : ∃ VK, VK = (W.take k).foldl (Dv.turn S') V := ⟨_, rfl⟩
            have HVK := Lib.hid hVK
            rw [← hVK] at hM1
            have hVl : (secs VK).toArray.size = n * 64 := by rw [List.size_toArray, secs_length hM1.out.gV, hM1.out.lV]
            obtain ⟨R, hR⟩ : ∃ R, ((secs VK).toArray.toList.take (p * 64) ++ (Lib.byteCells z).toArray.toList ++ (secs VK).toArray.toList.drop (p * 64 + (Lib.byteCells z).toArray.toList.length)).toArray = R := ⟨_, rfl⟩
            have HR := Lib.hid hR
            have HZ := Lib.hid hz
            generalize (Lib.byteCells z).toArray = xc at l3 hs3 hone3 hR
            generalize hold : (secs VK).toArray = old at hVl hR
            have HOLD := Lib.hid hold
            clear hz hze hVK hb2 hz2 HM0 hold
            go_upto_region 8 with fail
            refine wp_region_late_tail 15 (by kernel_rfl) (by kernel_rfl) ?_
            simp only [List.take_succ_cons, List.take_zero, List.drop_succ_cons, List.drop_zero]
            iterate 13 quiet_step (fail)
            refine quiet_seg rfl 100 (.tmp 54) rfl ⟨bs, p * 64, none⟩ rfl xc _ l3 Try.underlying100 rfl (by rw [hs3]; exact sector_size) ?_
            quiet_step (fail)
            refine wpQuiet_nil ?_
            intro w8 hw'
            have hb8 : Below wc.heap.size wc w8 := by obtain ⟨p9, rfl⟩ := hw'; exact p9.h
            have hM8 := hM1.out.later hb8
            have hs8 := hM8.seen
            unfold Secs at hs8
            rw [HOLD.out] at hs8
            have HM8 := Lib.hid hM8
            have HT8 : Hid (Touch F w w8) := Lib.hid (HT.out.trans (Touch.of ((HBW.out q HQ.out).trans (hb8.mono (HBW.out q HQ.out).size))))
            clear hw' hM8 l0 l1 l2 l3 hb8 hM1 hZ2
            go_wp2_with (refine wpList_store_to rfl 100 (.tmp 56) (.tmp 55) rfl bv (p * 64) xc rfl rfl 100 old hs8 (by rw [hs3]; exact sector_size) (by rw [hs3, hVl]; omega) hone3 R hR ?_)
            have hM9 : Med (w8.setRow bv R) g F n bs bv (.slice (some ⟨bw, 0, none⟩) L cw) fv cn cl S' ((W.take (k + 1)).foldl (Dv.turn S') V) W := by
              have h9 := HM8.out.see p hpn z hz64
              have e9 : ((secs VK).toArray.toList.take (p * 64) ++ Lib.byteCells z ++ (secs VK).toArray.toList.drop (p * 64 + (Lib.byteCells z).length)).toArray = R := HR.out
              have e8 : W.take (k + 1) = W.take k ++ [(p, x)] := by rw [List.take_add_one, HK.out]; rfl
              rw [e9] at h9
              rw [e8, List.foldl_append, ← HVK.out]
              show Med _ _ _ _ _ _ _ _ _ _ _ (VK.set p (S'.getD p [])) _
              rw [← HZ.out]
              exact h9
            have hT9 : Touch F w (w8.setRow bv R) := HT8.out.trans (Touch.row HM8.out.hv R)
            generalize w8.setRow bv R = w9 at hM9 hT9 ⊢
            clear hs8
            go_roundw
            case rel => exact ⟨k + 1, by omega, by go_num, hT9, hM9⟩
            case measure => simp [intOf]; omega
        · have hki : ¬ (k : Int) < L := by omega
          have HE : Hid (W.take k = W) := Lib.hid (List.take_of_length_le (by rw [← HL.out]; omega))
          rw [HE.out] at hM
          have HMM := Lib.hid hM
          clear hlt hk hM
          go_wp2_with fail
          go_meet
          exact ⟨ht, HMM.out⟩
    case rest =>
      obtain ⟨ht2, hM2⟩ := hcut
      have e2 := hM2.c2
      have f2 := hM2.free 2
      have HX : Hid (Touch F w (wc.setCell ⟨g, 2, none⟩ (.slice none 0 0)) ∧ Med (wc.setCell ⟨g, 2, none⟩ (.slice none 0 0)) g F n bs bv (.slice none 0 0) fv cn cl S' (W.foldl (Dv.turn S') V) []) :=
        Lib.hid ⟨ht2.trans (Touch.cell hM2.hg 2 _), hM2.waits (World.ownsRow_nil _ _ _ _) (fun k hk => by cases hk) (fun x hx => by cases hx)⟩
      clear d2 HM1 HT1 ht2 hM2
      go_wp2_with fail
      go_end0
      refine ⟨rfl, ?_⟩
      rw [← HS'.out]
      exact HX.out

set_option maxHeartbeats 3200000 in
set_option maxRecDepth 100000 in
theorem settleC_w (w : World) (g : Nat) (F : Nat → Prop) (n bs bv : Nat) (wv fv cn cl : Value) (S V : List Dv.Sec) (W : List (Nat × Dv.Sec)) (oc : Nat → Nat) (gc : Nat) (h : Med w g F n bs bv wv fv cn cl S V W) (ho : ∀ k, oc k ≤ 64) (hW : W.length ≤ 1000000)
    (hc : ∀ W' : World, Touch F w W' → ∀ k, k < W.length → Calls Try.prog 39 #[.int .i64 (k : Int), .pointer (some ⟨gc, 0, none⟩)] W' fun e w' => e = .returned (.int .i64 (oc k : Nat)) ∧ W' = w') :
    Calls Try.prog 38 #[.pointer (some ⟨g, 0, none⟩), .func (.func 39) #[] #[.pointer (some ⟨gc, 0, none⟩)]] w fun e w' => e = .returned (.tuple #[]) ∧ Touch F w w' ∧ Med w' g F n bs bv (.slice none 0 0) fv cn cl (Dv.settle oc 0 W S) (W.foldl (Dv.turn (Dv.settle oc 0 W S)) V) [] := by
  have HC := Lib.hid hc
  have HO := Lib.hid ho
  obtain ⟨av, cw, rfl, hcw, hcw9, hav⟩ := h.wait.shape
  have HAV : Hid (W ≠ [] → ∃ bw, av = some ⟨bw, 0, none⟩ ∧ bw < w.heap.size) := Lib.hid hav
  obtain ⟨cy, hcy⟩ : ∃ cy, cy = (wcells (0, List.replicate 64 0)).toArray := ⟨_, rfl⟩
  have HCY : Hid (cy.size = 65 ∧ ((Try.prog.info? 102).bind (·.zero)).map (·.cells) = some cy) := Lib.hid ⟨by rw [hcy, List.size_toArray, wcells_length (by simp)], by rw [hcy]; exact write_zero⟩
  obtain ⟨L, hL⟩ : ∃ L, L = W.length := ⟨_, rfl⟩
  have HL := Lib.hid hL
  rw [← hL] at hcw hW h
  have hn9 := h.le
  have c2 := h.c2
  have HH := Lib.hid h
  clear hc ho hav hcy hL h
  go_enter Try.func38, Try.ntmps38
  go_upto_block 0 with fail
  go_cut [] from 4 to 32 (fun wx => Touch F w wx ∧ Med wx g F n bs bv (.slice av L cw) fv cn cl (Dv.settle oc 0 W S) V W)
  case first =>
    go_wp2_with fail
    go_loopw [13] (fun i wr => ∃ k : Nat, k ≤ L ∧ i = .int .i64 k ∧ Touch F w wr ∧ Med wr g F n bs bv (.slice av L cw) fv cn cl (Dv.settle oc 0 (W.take k) S) V W) (fun i _ => L - (intOf i).toNat)
    case atStart => exact ⟨0, Nat.zero_le _, rfl, Touch.refl _ _, by rw [List.take_zero]; exact HH.out⟩
    case round =>
      clear c2 HH
      obtain ⟨k, hk, rfl, ht, hM⟩ := hrel
      by_cases hlt : k < L
      · have hki : (k : Int) < L := by omega
        have hkl : k < W.length := by rw [← HL.out]; exact hlt
        obtain ⟨bw, hav, hbw⟩ := HAV.out (fun e => by rw [e] at hkl; cases hkl)
        subst hav
        obtain ⟨hgw1, hgw2⟩ := hM.gW _ (List.getElem_mem hkl)
        have hseg := (hM.wait.cell (fun y hy => (hM.gW y hy).2) k hkl rfl).2
        have HK := Lib.hid (show W[k]? = some W[k] from List.getElem?_eq_getElem hkl)
        generalize hWk : W[k] = y at hgw1 hgw2 hseg HK
        obtain ⟨p, x⟩ := y
        obtain ⟨cx, hcx⟩ : ∃ cx, cx = (wcells (p, x)).toArray := ⟨_, rfl⟩
        have hcz : cx.size = 65 := by rw [hcx, List.size_toArray, wcells_length hgw2]
        have hone2 : cx.all (·.oneCell') = true := by rw [hcx]; exact Array.all_eq_true_iff_forall_mem.2 (fun v hv => wcells_one _ v (by simpa using hv))
        have hseg : ∀ j v, cx.toList[j]? = some v → wr.cell? ((⟨bw, k * 65, none⟩ : Addr).add j) = some v := by rw [hcx]; exact hseg
        have hy : cy.size = 65 := HCY.out.1
        have hzr := HCY.out.2
        have HCX := Lib.hid hcx
        have HM0 := Lib.hid hM
        have HT := Lib.hid ht
        have hpn : p < n := hgw1
        have hx64 : x.length = 64 := hgw2
        clear hWk hcx hM ht hgw1 hgw2 hbw
        go_upto_region 2 with fail
        go_cut [4, 5] (fun u4 u5 wx => ∃ q, u4 = .int .i64 (k : Int) ∧ u5 = .pointer (some ⟨q, 0, none⟩) ∧ Below wr.heap.size wr wx ∧ q = wr.heap.size ∧ wx.heap[q]? = some (.cells cx 102 (0, 0)))
        case first =>
          go_wp2_with (first
            | refine wpList_load_seg rfl 102 (.tmp 16) rfl ⟨bw, k * 65, none⟩ rfl cx _ hseg Try.underlying102 rfl (by rw [hcz]; exact write_size) ?_
            | refine wpList_alloc_zero rfl 102 rfl cy hzr ?_
            | refine wpList_store_row rfl 102 (.tmp 5) (.tmp 17) rfl wr.heap.size cx rfl rfl 102 cy (heap_alloc_new wr _) (by rw [hcz]; exact write_size) (by rw [hcz, hy]) hone2 ?_)
          go_meet
          exact ⟨wr.heap.size, rfl, rfl, Below.row ((Below.refl _ wr).alloc (Nat.le_refl _) _) (Nat.le_refl _) _, rfl, setRow_heap _ _ _ _ _ _ (heap_alloc_new wr _)⟩
        case rest =>
          obtain ⟨q, rfl, rfl, hb2, hq, hz2⟩ := hcut
          have HQ := Lib.hid hq
          have HBW : Hid (∀ q', q' = wr.heap.size → Below wr.heap.size wr wc) := Lib.hid (fun _ _ => hb2)
          clear hq hseg hone2 hy hzr
          have hM := HM0.out.later hb2
          have l0 := fun p9 : LateOf wc => p9.cell hM.c0
          have l1 := fun p9 : LateOf wc => p9.cell hM.c1
          have l2 := fun p9 : LateOf wc => p9.cell (show wc.cell? ⟨q, 64, none⟩ = some (.int .i64 (p : Int)) by
            simp only [World.cell?, hz2, HCX.out]
            unfold wcells
            have e9 : (Lib.byteCells x).length = 64 := by rw [Lib.byteCells_length, hx64]
            simp [e9])
          have hpi : (p : Int) < n := by omega
          have hM1 := Lib.hid hM
          have hZ2 := Lib.hid hz2
          clear hM
          obtain ⟨c9, hc9⟩ : ∃ c9 : Nat, oc k = c9 := ⟨_, rfl⟩
          have cF := fun p9 : LateOf wc => HC.out p9.w (HT.out.trans (Touch.of (hb2.trans (p9.h.mono hb2.size)))) k hkl
          rw [hc9] at cF
          have hc64 : (c9 : Int) ≤ 64 := by have := HO.out k; omega
          have hc64n : c9 ≤ 64 := by have := HO.out k; omega
          have HC9 := Lib.hid hc9
          clear hc9 hb2
          go_upto_region 3 with fail
          refine wp_region_late_tail 13 (by kernel_rfl) (by kernel_rfl) ?_
          simp only [List.take_succ_cons, List.take_zero, List.drop_succ_cons, List.drop_zero]
          iterate 9 quiet_step (fail)
          quiet_step (exact late_same _ (cF _))
          iterate 3 quiet_step (fail)
          refine wpQuiet_nil ?_
          intro w8 hw'
          have hb8 : Below wc.heap.size wc w8 := by obtain ⟨p9, rfl⟩ := hw'; exact p9.h
          have hM8 := hM1.out.later hb8
          have hs8 := hM8.sure
          unfold Secs at hs8
          have hz8 : w8.heap[q]? = some (.cells cx 102 (0, 0)) := by rw [hb8.block q (lt_of_block hZ2.out)]; exact hZ2.out
          have HM8 := Lib.hid hM8
          have HT8 : Hid (Touch F w w8) := Lib.hid (HT.out.trans (Touch.of ((HBW.out q HQ.out).trans (hb8.mono (HBW.out q HQ.out).size))))
          clear hw' hM8 l0 l1 l2 cF hb8 hM1 hZ2
          obtain ⟨z, hz⟩ : ∃ z, z = x.take c9 := ⟨_, rfl⟩
          have hzl : z.length = c9 := by rw [hz, List.length_take]; omega
          have hsl : (secs (Dv.settle oc 0 (W.take k) S)).toArray.size = n * 64 := by rw [List.size_toArray, secs_length HM8.out.gS, HM8.out.lS]
          have hn9 : (Lib.byteCells z).length = c9 := by rw [Lib.byteCells_length, hzl]
          have hsrc : ∀ j v, (Lib.byteCells z)[j]? = some v → w8.cell? ((⟨q, 0, none⟩ : Addr).add j) = some v := fun j v hj => by
            have hj9 := (List.getElem?_eq_some_iff.1 hj).1
            rw [Addr.add_lit, Nat.zero_add]
            simp only [World.cell?, hz8, HCX.out]
            rw [← hj, hz]
            unfold wcells
            have hxl : (Lib.byteCells x).length = 64 := by rw [Lib.byteCells_length, hx64]
            rw [List.getElem?_toArray, List.getElem?_append_left (show j < (Lib.byteCells x).length by omega)]
            unfold Lib.byteCells
            rw [List.map_take, List.getElem?_take_of_lt (by omega)]
            simp
          obtain ⟨R, hR⟩ : ∃ R, ((secs (Dv.settle oc 0 (W.take k) S)).toArray.toList.take (p * 64) ++ (Lib.byteCells z ++ (secs (Dv.settle oc 0 (W.take k) S)).toArray.toList.drop (p * 64 + (Lib.byteCells z).length))).toArray = R := ⟨_, rfl⟩
          have HR := Lib.hid hR
          have HZ := Lib.hid hz
          have hmin : (Lib.byteCells z).length = Nat.min 64 c9 := by rw [hn9]; exact (Nat.min_eq_right hc64n).symm
          have hone3 := bytes_one z
          generalize Lib.byteCells z = zs at hn9 hsrc hR hmin hone3
          generalize (secs (Dv.settle oc 0 (W.take k) S)).toArray = old at hs8 hsl hR
          clear hz hz8
          go_wp2_with (refine wpList_copy_to rfl (.tmp 28) (.tmp 30) 22 22 rfl 5 Try.underlying22 (by kernel_rfl) bs (p * 64) c9 64 ⟨q, 0, none⟩ 64 64 rfl rfl old 100 hs8 zs hmin hsrc (by rw [hn9, hsl]; omega) hone3 R hR c9 hn9 ?_)
          have hM9 : Med (w8.setRow bs R) g F n bs bv (.slice (some ⟨bw, 0, none⟩) L cw) fv cn cl (Dv.settle oc 0 (W.take (k + 1)) S) V W := by
            have h9 := HM8.out.sures p hpn z (by omega)
            have e9 : ((secs (Dv.settle oc 0 (W.take k) S)).toArray.toList.take (p * 64) ++ Lib.byteCells z ++ (secs (Dv.settle oc 0 (W.take k) S)).toArray.toList.drop (p * 64 + (Lib.byteCells z).length)).toArray = R := by rw [← HR.out, List.append_assoc]
            have e8 : W.take (k + 1) = W.take k ++ [(p, x)] := by rw [List.take_add_one, HK.out]; rfl
            rw [e9] at h9
            rw [e8, Dv.settle_snoc, List.length_take, Nat.min_eq_left (Nat.le_of_lt hkl), Nat.zero_add, HC9.out, ← HZ.out]
            rw [hzl] at h9
            exact h9
          have hT9 : Touch F w (w8.setRow bs R) := HT8.out.trans (Touch.row HM8.out.hs R)
          generalize w8.setRow bs R = w9 at hM9 hT9 ⊢
          clear hs8 hsrc
          go_roundw
          case rel => exact ⟨k + 1, by omega, by go_num, hT9, hM9⟩
          case measure => simp [intOf]; omega
      · have hki : ¬ (k : Int) < L := by omega
        have HE : Hid (W.take k = W) := Lib.hid (List.take_of_length_le (by rw [← HL.out]; omega))
        rw [HE.out] at hM
        have HMM := Lib.hid hM
        clear hlt hk hM
        go_wp2_with fail
        go_meet
        exact ⟨ht, HMM.out⟩
  case rest =>
    obtain ⟨ht1, hM1⟩ := hcut
    have HT1 := Lib.hid ht1
    have HM1 := Lib.hid hM1
    have d2 := hM1.c2
    have S'def : ∃ S', S' = Dv.settle oc 0 W S := ⟨_, rfl⟩
    obtain ⟨S', hS'⟩ := S'def
    rw [← hS'] at HM1
    have HS' := Lib.hid hS'
    clear c2 HH ht1 hM1 hS'
    go_upto_block 2 with fail
    go_cut [] from 7 to 57 (fun wx => Touch F w wx ∧ Med wx g F n bs bv (.slice av L cw) fv cn cl S' (W.foldl (Dv.turn S') V) W)
    case first =>
      go_wp2_with fail
      go_loopw [38] (fun i wr => ∃ k : Nat, k ≤ L ∧ i = .int .i64 k ∧ Touch F w wr ∧ Med wr g F n bs bv (.slice av L cw) fv cn cl S' ((W.take k).foldl (Dv.turn S') V) W) (fun i _ => L - (intOf i).toNat)
      case atStart => exact ⟨0, Nat.zero_le _, rfl, HT1.out, by rw [List.take_zero]; exact HM1.out⟩
      case round =>
        clear d2 HM1 HT1
        obtain ⟨k, hk, rfl, ht, hM⟩ := hrel
        by_cases hlt : k < L
        · have hki : (k : Int) < L := by omega
          have hkl : k < W.length := by rw [← HL.out]; exact hlt
          obtain ⟨bw, hav, hbw⟩ := HAV.out (fun e => by rw [e] at hkl; cases hkl)
          subst hav
          obtain ⟨hgw1, hgw2⟩ := hM.gW _ (List.getElem_mem hkl)
          have hseg := (hM.wait.cell (fun y hy => (hM.gW y hy).2) k hkl rfl).2
          have HK := Lib.hid (show W[k]? = some W[k] from List.getElem?_eq_getElem hkl)
          generalize hWk : W[k] = y at hgw1 hgw2 hseg HK
          obtain ⟨p, x⟩ := y
          obtain ⟨cx, hcx⟩ : ∃ cx, cx = (wcells (p, x)).toArray := ⟨_, rfl⟩
          have hcz : cx.size = 65 := by rw [hcx, List.size_toArray, wcells_length hgw2]
          have hone2 : cx.all (·.oneCell') = true := by rw [hcx]; exact Array.all_eq_true_iff_forall_mem.2 (fun v hv => wcells_one _ v (by simpa using hv))
          have hseg : ∀ j v, cx.toList[j]? = some v → wr.cell? ((⟨bw, k * 65, none⟩ : Addr).add j) = some v := by rw [hcx]; exact hseg
          have hy : cy.size = 65 := HCY.out.1
          have hzr := HCY.out.2
          have HCX := Lib.hid hcx
          have HM0 := Lib.hid hM
          have HT := Lib.hid ht
          have hpn : p < n := hgw1
          have hx64 : x.length = 64 := hgw2
          clear hWk hcx hM ht hgw1 hgw2 hbw
          go_upto_region 7 with fail
          go_cut [7] (fun u7 wx => ∃ q, u7 = .pointer (some ⟨q, 0, none⟩) ∧ Below wr.heap.size wr wx ∧ q = wr.heap.size ∧ wx.heap[q]? = some (.cells cx 102 (0, 0)))
          case first =>
            go_wp2_with (first
              | refine wpList_load_seg rfl 102 (.tmp 40) rfl ⟨bw, k * 65, none⟩ rfl cx _ hseg Try.underlying102 rfl (by rw [hcz]; exact write_size) ?_
              | refine wpList_alloc_zero rfl 102 rfl cy hzr ?_
              | refine wpList_store_row rfl 102 (.tmp 7) (.tmp 41) rfl wr.heap.size cx rfl rfl 102 cy (heap_alloc_new wr _) (by rw [hcz]; exact write_size) (by rw [hcz, hy]) hone2 ?_)
            go_meet
            exact ⟨wr.heap.size, rfl, Below.row ((Below.refl _ wr).alloc (Nat.le_refl _) _) (Nat.le_refl _) _, rfl, setRow_heap _ _ _ _ _ _ (heap_alloc_new wr _)⟩
          case rest =>
            obtain ⟨q, rfl, hb2, hq, hz2⟩ := hcut
            have HQ := Lib.hid hq
            have HBW : Hid (∀ q', q' = wr.heap.size → Below wr.heap.size wr wc) := Lib.hid (fun _ _ => hb2)
            clear hq hseg hone2 hy hzr
            have hM := HM0.out.later hb2
            have l0 := fun p9 : LateOf wc => p9.cell hM.c0
            have l1 := fun p9 : LateOf wc => p9.cell hM.c1
            have l2 := fun p9 : LateOf wc => p9.cell (show wc.cell? ⟨q, 64, none⟩ = some (.int .i64 (p : Int)) by
              simp only [World.cell?, hz2, HCX.out]
              unfold wcells
              have e9 : (Lib.byteCells x).length = 64 := by rw [Lib.byteCells_length, hx64]
              simp [e9])
            have hpi : (p : Int) < n := by omega
            have hM1 := Lib.hid hM
            have hZ2 := Lib.hid hz2
            clear hM
            obtain ⟨z, hz⟩ : ∃ z, z = S'.getD p [] := ⟨_, rfl⟩
            have hpS : p < S'.length := by rw [hM1.out.lS]; exact hpn
            have hze : z = S'[p] := by rw [hz, List.getD_eq_getElem?_getD, List.getElem?_eq_getElem hpS]; rfl
            have hz64 : z.length = 64 := by rw [hze]; exact hM1.out.gS _ (List.getElem_mem hpS)
            have l3 : ∀ W9, (∃ p9 : LateOf wc, W9 = p9.w) → ∀ j u, (Lib.byteCells z).toArray.toList[j]? = some u → W9.cell? ((⟨bs, p * 64, none⟩ : Addr).add j) = some u := fun W9 ⟨p9, hp9⟩ j u hj => by
              subst hp9
              have h9 := (hM1.out.later p9.h).sure.cell hM1.out.gS p hpS j u (by rw [← hze]; simpa using hj)
              exact h9
            have hs3 : (Lib.byteCells z).toArray.size = 64 := by rw [List.size_toArray, Lib.byteCells_length, hz64]
            have hone3 : ∀ v ∈ (Lib.byteCells z).toArray.toList, v.oneCell' = true := bytes_one z
            obtain ⟨VK, hVK⟩ : ∃ VK, VK = (W.take k).foldl (Dv.turn S') V := ⟨_, rfl⟩
            have HVK := Lib.hid hVK
            rw [← hVK] at hM1
            have hVl : (secs VK).toArray.size = n * 64 := by rw [List.size_toArray, secs_length hM1.out.gV, hM1.out.lV]
            obtain ⟨R, hR⟩ : ∃ R, ((secs VK).toArray.toList.take (p * 64) ++ (Lib.byteCells z).toArray.toList ++ (secs VK).toArray.toList.drop (p * 64 + (Lib.byteCells z).toArray.toList.length)).toArray = R := ⟨_, rfl⟩
            have HR := Lib.hid hR
            have HZ := Lib.hid hz
            generalize (Lib.byteCells z).toArray = xc at l3 hs3 hone3 hR
            generalize hold : (secs VK).toArray = old at hVl hR
            have HOLD := Lib.hid hold
            clear hz hze hVK hb2 hz2 HM0 hold
            go_upto_region 8 with fail
            refine wp_region_late_tail 15 (by kernel_rfl) (by kernel_rfl) ?_
            simp only [List.take_succ_cons, List.take_zero, List.drop_succ_cons, List.drop_zero]
            iterate 13 quiet_step (fail)
            refine quiet_seg rfl 100 (.tmp 54) rfl ⟨bs, p * 64, none⟩ rfl xc _ l3 Try.underlying100 rfl (by rw [hs3]; exact sector_size) ?_
            quiet_step (fail)
            refine wpQuiet_nil ?_
            intro w8 hw'
            have hb8 : Below wc.heap.size wc w8 := by obtain ⟨p9, rfl⟩ := hw'; exact p9.h
            have hM8 := hM1.out.later hb8
            have hs8 := hM8.seen
            unfold Secs at hs8
            rw [HOLD.out] at hs8
            have HM8 := Lib.hid hM8
            have HT8 : Hid (Touch F w w8) := Lib.hid (HT.out.trans (Touch.of ((HBW.out q HQ.out).trans (hb8.mono (HBW.out q HQ.out).size))))
            clear hw' hM8 l0 l1 l2 l3 hb8 hM1 hZ2
            go_wp2_with (refine wpList_store_to rfl 100 (.tmp 56) (.tmp 55) rfl bv (p * 64) xc rfl rfl 100 old hs8 (by rw [hs3]; exact sector_size) (by rw [hs3, hVl]; omega) hone3 R hR ?_)
            have hM9 : Med (w8.setRow bv R) g F n bs bv (.slice (some ⟨bw, 0, none⟩) L cw) fv cn cl S' ((W.take (k + 1)).foldl (Dv.turn S') V) W := by
              have h9 := HM8.out.see p hpn z hz64
              have e9 : ((secs VK).toArray.toList.take (p * 64) ++ Lib.byteCells z ++ (secs VK).toArray.toList.drop (p * 64 + (Lib.byteCells z).length)).toArray = R := HR.out
              have e8 : W.take (k + 1) = W.take k ++ [(p, x)] := by rw [List.take_add_one, HK.out]; rfl
              rw [e9] at h9
              rw [e8, List.foldl_append, ← HVK.out]
              show Med _ _ _ _ _ _ _ _ _ _ _ (VK.set p (S'.getD p [])) _
              rw [← HZ.out]
              exact h9
            have hT9 : Touch F w (w8.setRow bv R) := HT8.out.trans (Touch.row HM8.out.hv R)
            generalize w8.setRow bv R = w9 at hM9 hT9 ⊢
            clear hs8
            go_roundw
            case rel => exact ⟨k + 1, by omega, by go_num, hT9, hM9⟩
            case measure => simp [intOf]; omega
        · have hki : ¬ (k : Int) < L := by omega
          have HE : Hid (W.take k = W) := Lib.hid (List.take_of_length_le (by rw [← HL.out]; omega))
          rw [HE.out] at hM
          have HMM := Lib.hid hM
          clear hlt hk hM
          go_wp2_with fail
          go_meet
          exact ⟨ht, HMM.out⟩
    case rest =>
      obtain ⟨ht2, hM2⟩ := hcut
      have e2 := hM2.c2
      have f2 := hM2.free 2
      have HX : Hid (Touch F w (wc.setCell ⟨g, 2, none⟩ (.slice none 0 0)) ∧ Med (wc.setCell ⟨g, 2, none⟩ (.slice none 0 0)) g F n bs bv (.slice none 0 0) fv cn cl S' (W.foldl (Dv.turn S') V) []) :=
        Lib.hid ⟨ht2.trans (Touch.cell hM2.hg 2 _), hM2.waits (World.ownsRow_nil _ _ _ _) (fun k hk => by cases hk) (fun x hx => by cases hx)⟩
      clear d2 HM1 HT1 ht2 hM2
      go_wp2_with fail
      go_end0
      refine ⟨rfl, ?_⟩
      rw [← HS'.out]
      exact HX.out
end Go.Proofs.Ytjdmmnpfjbnhoaa
