/- The document's own device (layer 13): Crash. -/
import Derived.Test.YtlipgphmhkjnpaaDoorPgD7
namespace Dv
theorem left_take (keep : List Bool) (torn p : Int) (l : List (Nat × Sec)) (safe : List Sec) (k : Nat) (hk : k < l.length) :
    settle (octets keep torn p) 0 (l.take (k + 1)) safe = (settle (octets keep torn p) 0 (l.take k) safe).set l[k].1 (l[k].2.take (octets keep torn p k) ++ ((settle (octets keep torn p) 0 (l.take k) safe).getD l[k].1 []).drop (octets keep torn p k)) := by
  rw [List.take_succ_eq_append_getElem hk, settle_snoc, List.length_take, Nat.min_eq_left (Nat.le_of_lt hk), Nat.zero_add]
end Dv
namespace Go.Proofs.YtlipgphmhkjnpaaDoor
open Go.RowKit

theorem load_int {w : World} {g k : Nat} {n : Int} (h : w.cell? ⟨g, k, none⟩ = some (.int .i64 n)) : (Instr.loadAt 3 (.pointer (some ⟨g, k, none⟩))).run Tryd.prog w = .ok (.int .i64 n) w := by go_simp
theorem store_octs {w : World} {b k : Nat} {u : Value} {x : Option Addr} {l c : Nat} (h : w.cell? ⟨b, k, none⟩ = some u) (hf : w.frozen? ⟨b, k, none⟩ = false) : (Instr.storeAt 23 (.pointer (some ⟨b, k, none⟩)) (.slice x l c)).run Tryd.prog w = .ok () (w.setCell ⟨b, k, none⟩ (.slice x l c)) := by go_simp

set_option maxHeartbeats 6400000 in
set_option maxRecDepth 100000 in
theorem rcrash_w (w : World) (g B : Nat) (F : Nat → Prop) (vs vw vb : Value) (us : List Value) (ws : List (Nat × Value)) (d : Dv.S) (h : RMed w g F B vs vw vb us ws d) (hw : d.wait.length ≤ 100000) (v : Value) (keep : List Bool) (torn pp : Int) (hv : KIn F w v keep) :
    Calls Tryd.prog 26 #[.pointer (some ⟨g, 0, none⟩), mkCrash v torn pp] w fun e w' => e = .returned (.tuple #[]) ∧ Touch (fun k => F k ∨ w.heap.size ≤ k) w w' ∧ ∃ us', RMed w' g (fun k => F k ∨ w.heap.size ≤ k) B vs (.slice none 0 0) (.slice none 0 0) us' [] (Dv.crash d keep torn pp) := by
  obtain ⟨G, hG⟩ : ∃ G : Nat → Prop, G = fun k => F k ∨ w.heap.size ≤ k := ⟨_, rfl⟩
  rw [← hG]
  have HGn : Hid (∀ k, w.heap.size ≤ k → G k) := Lib.hid (fun k hk => by rw [hG]; exact .inr hk)
  have HGB : Hid (∀ k, G k → B ≤ k) := Lib.hid (fun k hk => by
    rw [hG] at hk
    rcases hk with hk | hk
    · exact h.hB k hk
    · have := h.hB g h.hg; have := lt_of_block h.blk; omega)
  have HGF : Hid (∀ k, k < w.heap.size → ¬ F k → ¬ G k) := Lib.hid (fun k hk hn hg => by rw [hG] at hg; rcases hg with h9 | h9; exact hn h9; omega)
  have hM := h.mono (F' := G) (fun k hk => by rw [hG]; exact .inl hk) HGB.out
  obtain ⟨oc, hoc⟩ : ∃ oc, oc = Dv.octets keep torn pp := ⟨_, rfl⟩
  have HOC := Lib.hid hoc
  have HCR : Hid (Dv.crash d keep torn pp = ⟨Dv.settle oc 0 d.wait d.safe, [], 0, [], -1⟩) := Lib.hid (by
    rw [hoc, Dv.settle_crash keep torn pp d.wait 0 d.safe h.gS h.gW]
    rfl)
  have HSN : Hid (∀ k (hk : k < d.wait.length), Dv.settle oc 0 (d.wait.take (k + 1)) d.safe = (Dv.settle oc 0 (d.wait.take k) d.safe).set d.wait[k].1 (d.wait[k].2.take (oc k) ++ ((Dv.settle oc 0 (d.wait.take k) d.safe).getD d.wait[k].1 []).drop (oc k))) := Lib.hid (fun k hk => by
    rw [hoc]; exact Dv.left_take keep torn pp d.wait d.safe k hk)
  obtain ⟨W1, hW1⟩ : ∃ W1, W1 = w.alloc (.cells #[v, .int .i64 torn, .int .i64 pp] 46) := ⟨_, rfl⟩
  have hb1 : Below w.heap.size w W1 := by rw [hW1]; exact (Below.refl _ w).alloc (Nat.le_refl _) _
  have hc1 : W1.heap[w.heap.size]? = some (.cells #[v, .int .i64 torn, .int .i64 pp] 46 (0, 0)) := by rw [hW1]; exact heap_alloc_new w _
  obtain ⟨gc, hgc⟩ : ∃ gc, gc = w.heap.size := ⟨_, rfl⟩
  have HGC := Lib.hid hgc
  rw [← hgc] at hc1
  have hW1' : w.alloc (.cells #[v, .int .i64 torn, .int .i64 pp] 46) = W1 := hW1.symm
  have HM1 := Lib.hid (hM.later hb1)
  have HT1 : Hid (Touch G w W1) := Lib.hid (Touch.of hb1)
  have HC1 := Lib.hid hc1
  have HV := Lib.hid hv
  obtain ⟨ao, cap, rfl, hkc, hkc9, hk9⟩ := hv
  have HK9 := Lib.hid hk9
  have c1 : W1.cell? ⟨gc, 1, none⟩ = some (.int .i64 torn) := (blk_cell hc1 1 _ rfl).1
  have c2 : W1.cell? ⟨gc, 2, none⟩ = some (.int .i64 pp) := (blk_cell hc1 2 _ rfl).1
  obtain ⟨m, hm⟩ : ∃ m, m = d.wait.length := ⟨_, rfl⟩
  have HMM := Lib.hid hm
  obtain ⟨aw, cw, hvw, hcw, hcw9⟩ := h.shapes.2.1
  rw [← hm] at hvw hcw hw
  subst hvw
  clear hM hG hoc hW1 hb1 hc1 hgc hk9 hm h
  unfold mkCrash
  go_enter Tryd.func26, Tryd.ntmps26
  go_upto_region 1 with fail
  rw [← HGC.out]
  clear hW1'
  obtain ⟨pt, hpt⟩ : ∃ pt : Nat, pt = Dv.part pp := ⟨_, rfl⟩
  have HPT := Lib.hid hpt
  have hpt2 : (pt : Int) = min (max pp 0) 64 := by rw [hpt]; unfold Dv.part; omega
  clear hpt
  obtain ⟨p1, hp1⟩ : ∃ p1 : Int, p1 = max pp 0 := ⟨_, rfl⟩
  have HP1 := Lib.hid hp1
  have HPT2 := Lib.hid hpt2
  clear hp1 hpt2
  go_upto_if 11 with fail
  go_cut [4] (fun u4 wx => u4 = .int .i64 p1 ∧ W1 = wx)
  case first =>
    by_cases hp0 : pp < 0
    · have e9 : p1 = 0 := by have := HP1.out; omega
      subst e9
      go_wp2_with fail
      go_meet
      exact ⟨rfl, rfl⟩
    · have e9 : p1 = pp := by have := HP1.out; omega
      subst e9
      go_wp2_with fail
      go_meet
      exact ⟨rfl, rfl⟩
  case rest =>
    obtain ⟨rfl, rfl⟩ := hcut
    go_upto_if 13 with fail
    go_cut [4] (fun u4 wx => u4 = .int .i64 (pt : Int) ∧ W1 = wx)
    case first =>
      by_cases hp0 : 64 < p1
      · have e9 : pt = 64 := by have := HP1.out; have := HPT2.out; omega
        subst e9
        go_wp2_with fail
        go_meet
        exact ⟨rfl, rfl⟩
      · have e9 : p1 = (pt : Int) := by have := HP1.out; have := HPT2.out; omega
        subst e9
        go_wp2_with fail
        go_meet
        exact ⟨rfl, rfl⟩
    case rest =>
      obtain ⟨rfl, rfl⟩ := hcut
      have hpt64 : pt ≤ 64 := by have := HPT2.out; omega
      clear HPT2 HP1 c2 p1
      have hgc9 : w.heap.size ≤ gc := by rw [HGC.out]; exact Nat.le_refl _
      have HGC9 := Lib.hid hgc9
      have hwf := HT1.out.size
      clear hgc9 hwf
      go_wp2_with fail
      go_loopw [5] (fun i wr => ∃ k : Nat, k ≤ m ∧ i = .int .i64 k ∧ Touch G w wr ∧ wr.heap[gc]? = some (.cells #[.slice ao keep.length cap, .int .i64 torn, .int .i64 pp] 46 (0, 0)) ∧ ∃ us', RMed wr g G B vs (.slice aw m cw) vb us' ws { d with safe := Dv.settle oc 0 (d.wait.take k) d.safe }) (fun i _ => m - (intOf i).toNat)
      case atStart => exact ⟨0, Nat.zero_le _, rfl, HT1.out, HC1.out, us, by rw [List.take_zero]; exact HM1.out⟩
      case round =>
        clear HM1 HT1 HC1 c1 W1
        obtain ⟨k, hk, rfl, ht, hgcb, us', hM⟩ := hrel
        have c1 := hM.c1
        have g0 : wr.cell? ⟨gc, 0, none⟩ = some (.slice ao keep.length cap) := (blk_cell hgcb 0 _ rfl).1
        have g1 : wr.cell? ⟨gc, 1, none⟩ = some (.int .i64 torn) := (blk_cell hgcb 1 _ rfl).1
        by_cases hlt : k < m
        · have hki : (k : Int) < m := by omega
          have hk2 : k < d.wait.length := by rw [← HMM.out]; exact hlt
          have hk1 : k < ws.length := by rw [hM.lws]; exact hk2
          obtain ⟨b, c, hv, q1, q2⟩ := hM.wcell k hk1
          injection hv with hv hv2 hv3
          subst hv hv3
          clear hv2
          obtain ⟨x1, x2⟩ := hM.wts k hk1 hk2
          have x1 : ws[k].1 = d.wait[k].1 := x1
          have x2 : OIn G wr ws[k].2 d.wait[k].2 := x2
          rw [x1] at q1
          have hsn := HSN.out k hk2
          obtain ⟨hg1, hg2⟩ := hM.gW (d.wait[k]) (List.getElem_mem hk2)
          obtain ⟨n, hnn⟩ : ∃ n, n = us'.length := ⟨_, rfl⟩
          have hpn : d.wait[k].1 < n := by rw [hnn, hM.lus]; exact hg1
          generalize ws[k].2 = y at q2 x2
          generalize d.wait[k].1 = p at q1 hsn hpn
          generalize d.wait[k].2 = s at x2 hsn hg2
          obtain ⟨yb, yo, yc, yC, yf, hye, hyc, hyc9, _⟩ := id x2
          rw [hg2] at hye hyc
          subst hye
          have hpl : p < us'.length := by rw [← hnn]; exact hpn
          obtain ⟨bs, cs, hvs, q3, f3, hbsT⟩ := hM.scell p hpl
          have c0 := hM.c0
          obtain ⟨_, z9, hz9, hzz, _⟩ := own_shape hM.safe
          have hncs : n ≤ cs := by
            have h8 := hz9
            rw [hvs] at h8
            injection h8 with _ _ h8
            rw [hnn, h8]; exact hzz
          rw [hvs, ← hnn] at c0
          have hpd : p < (Dv.settle oc 0 (d.wait.take k) d.safe).length := by
            have := hM.lus
            show p < _
            rw [← show us'.length = (Dv.settle oc 0 (d.wait.take k) d.safe).length from hM.lus]; exact hpl
          have hz64 : ((Dv.settle oc 0 (d.wait.take k) d.safe)[p]).length = 64 := hM.gS _ (List.getElem_mem hpd)
          have hgd : (Dv.settle oc 0 (d.wait.take k) d.safe).getD p [] = (Dv.settle oc 0 (d.wait.take k) d.safe)[p] := by rw [List.getD_eq_getElem?_getD, List.getElem?_eq_getElem hpd]; rfl
          rw [hgd] at hsn
          have hoz : OIn G wr us'[p] ((Dv.settle oc 0 (d.wait.take k) d.safe)[p]) := hM.sec p hpl hpd
          have HSELF : Hid ((Dv.settle oc 0 (d.wait.take k) d.safe).set p ((Dv.settle oc 0 (d.wait.take k) d.safe)[p]) = Dv.settle oc 0 (d.wait.take k) d.safe) := Lib.hid (List.set_getElem_self hpd)
          generalize (Dv.settle oc 0 (d.wait.take k) d.safe)[p] = z at hsn hoz hz64 HSELF
          generalize us'[p] = y0 at q3 hoz
          obtain ⟨zb, zo, zc, zC, zf, hze, hzc1, hzc9, _, hzb, hzcc⟩ := id hoz
          rw [hz64] at hze hzc1
          subst hze
          have hs64 : s.length = 64 := hg2
          obtain ⟨bC, hbC⟩ := hbsT
          -- what a store at the sector leaves
          have HSTO : Hid (∀ W9, Below wr.heap.size wr W9 → ∀ yy ss, ss.length = 64 → OIn G W9 yy ss → W9.cell? ⟨bs, p, none⟩ = some (.slice (some ⟨zb, zo, none⟩) 64 zc) ∧ W9.frozen? ⟨bs, p, none⟩ = false ∧ (Touch G w (W9.setCell ⟨bs, p, none⟩ yy) ∧ (W9.setCell ⟨bs, p, none⟩ yy).heap[gc]? = some (.cells #[.slice ao keep.length cap, .int .i64 torn, .int .i64 pp] 46 (0, 0)) ∧ RMed (W9.setCell ⟨bs, p, none⟩ yy) g G B vs (.slice (some ⟨b, 0, none⟩) m cw) vb (us'.set p yy) ws { d with safe := (Dv.settle oc 0 (d.wait.take k) d.safe).set p ss }) ∧ ∀ (j : Nat) (C : Array Value) (T : TypeId), W9.heap[j]? = some (.cells C T (0, 0)) → T ≠ 23 → (W9.setCell ⟨bs, p, none⟩ yy).heap[j]? = W9.heap[j]?) := Lib.hid (fun W9 h9 yy ss hss hyy => by
            have e1 : W9.heap[bs]? = some (.cells bC 23 (0, 0)) := by rw [h9.block bs (lt_of_block hbC)]; exact hbC
            refine ⟨by rw [h9.cell (p := ⟨bs, p, none⟩) (lt_of_block hbC)]; exact q3, by rw [World.frozen?_of_block (a := ⟨bs, p, none⟩) (h9.block bs (lt_of_block hbC))]; exact f3, ⟨(ht.trans (Touch.of h9)).trans (Touch.cell (hM.hs bs (by rw [hvs]; rfl)) p yy), ?_, ?_⟩, fun j C T hj hT => heap_setCell_other W9 ⟨bs, p, none⟩ j yy (ne_block hj e1 hT)⟩
            · have e2 : W9.heap[gc]? = some (.cells #[.slice ao keep.length cap, .int .i64 torn, .int .i64 pp] 46 (0, 0)) := by rw [h9.block gc (lt_of_block hgcb)]; exact hgcb
              rw [heap_setCell_other W9 ⟨bs, p, none⟩ gc yy (ne_block e2 e1 (by decide))]; exact e2
            · exact (hM.later h9).setSafe hvs p hpd yy ss hss hyy)
          have HX2 := Lib.hid x2
          have HOZ := Lib.hid hoz
          have HTT := Lib.hid ht
          have HMK := Lib.hid hM
          have HGCB := Lib.hid hgcb
          have HSNK := Lib.hid hsn
          have HOCK : Hid (oc k = if (k : Int) = torn then pt else if keep.getD k false then 64 else 0) := Lib.hid (by rw [HOC.out, HPT.out]; rfl)
          have hpi : (p : Int) < n := by omega
          clear x1 x2 hoz ht hM hgcb hsn hz9 hzz hvs hbC hzb hzcc hgd hpd hpl hg1 hg2 hnn q3 f3
          go_upto_region 10 with fail
          obtain ⟨q6, hq6⟩ : ∃ q6, q6 = wr.heap.size := ⟨_, rfl⟩
          have hbn : Below wr.heap.size wr (wr.alloc (.cells #[.int .i64 (p : Int), .slice (some ⟨yb, yo, none⟩) 64 yc] 84)) := (Below.refl _ wr).alloc (Nat.le_refl _) _
          have hz6 := heap_alloc_new wr (.cells #[.int .i64 (p : Int), .slice (some ⟨yb, yo, none⟩) 64 yc] 84)
          rw [← hq6] at hz6 ⊢
          generalize wr.alloc (.cells #[.int .i64 (p : Int), .slice (some ⟨yb, yo, none⟩) 64 yc] 84) = w6 at hbn hz6 ⊢
          have HQ6 := Lib.hid hq6
          clear hq6
          have HBN := Lib.hid hbn
          have HZ6 := Lib.hid hz6
          have e1 := cell_later hbn g1
          have e0 := cell_later hbn g0
          have z0 : w6.cell? ⟨q6, 0, none⟩ = some (.int .i64 (p : Int)) := (blk_cell hz6 0 _ rfl).1
          have z1 : w6.cell? ⟨q6, 1, none⟩ = some (.slice (some ⟨yb, yo, none⟩) 64 yc) := (blk_cell hz6 1 _ rfl).1
          have k0 := cell_later hbn c0
          have hzp : wr.cell? ⟨bs, p, none⟩ = some (.slice (some ⟨zb, zo, none⟩) 64 zc) := (HSTO.out wr (Below.refl _ _) _ z hz64 HOZ.out).1
          have zp := cell_later hbn hzp
          have HWS : Hid (w.heap.size ≤ w6.heap.size) := Lib.hid (Nat.le_trans HTT.out.size hbn.size)
          have HS6 : Hid (∀ W9, Below w6.heap.size w6 W9 → W9.cell? ⟨g, 0, none⟩ = some (.slice (some ⟨bs, 0, none⟩) n cs) ∧ W9.cell? ⟨q6, 0, none⟩ = some (.int .i64 (p : Int))) := Lib.hid (fun W9 h9 => ⟨cell_later h9 k0, cell_later h9 z0⟩)
          have HZ : Hid (∀ W9, Below w6.heap.size w6 W9 → W9.cell? ⟨bs, p, none⟩ = some (.slice (some ⟨zb, zo, none⟩) 64 zc)) := Lib.hid (fun W9 h9 => cell_later h9 zp)
          -- a store, and all that is said of the next round
          have HST : Hid (∀ W9, Below w6.heap.size w6 W9 → ∀ yy ss, ss.length = 64 → ss = s.take (oc k) ++ z.drop (oc k) → OIn G W9 yy ss → W9.cell? ⟨bs, p, none⟩ = some (.slice (some ⟨zb, zo, none⟩) 64 zc) ∧ W9.frozen? ⟨bs, p, none⟩ = false ∧ (Touch G w (W9.setCell ⟨bs, p, none⟩ yy) ∧ (W9.setCell ⟨bs, p, none⟩ yy).heap[gc]? = some (.cells #[.slice ao keep.length cap, .int .i64 torn, .int .i64 pp] 46 (0, 0)) ∧ ∃ us2, RMed (W9.setCell ⟨bs, p, none⟩ yy) g G B vs (.slice (some ⟨b, 0, none⟩) m cw) vb us2 ws { d with safe := Dv.settle oc 0 (d.wait.take (k + 1)) d.safe }) ∧ ((W9.setCell ⟨bs, p, none⟩ yy).cell? ⟨g, 0, none⟩ = some (.slice (some ⟨bs, 0, none⟩) n cs) ∧ (W9.setCell ⟨bs, p, none⟩ yy).cell? ⟨q6, 0, none⟩ = some (.int .i64 (p : Int)))) := Lib.hid (fun W9 h9 yy ss hss hse hyy => by
            have h8 : Below wr.heap.size wr W9 := HBN.out.trans (h9.mono HBN.out.size)
            obtain ⟨a1, a2, ⟨a3, a4, a5⟩, a6⟩ := HSTO.out W9 h8 yy ss hss hyy
            rw [hse, ← HSNK.out] at a5
            refine ⟨a1, a2, ⟨a3, a4, _, a5⟩, ?_, ?_⟩
            · have hb9 : W9.heap[g]? = wr.heap[g]? := h8.block g (lt_of_block HMK.out.blk)
              rw [World.cell?_of_block (a := ⟨g, 0, none⟩) (a6 g _ _ (hb9.trans HMK.out.blk) (by decide))]
              exact (HS6.out W9 h9).1
            · have hb9 : W9.heap[q6]? = w6.heap[q6]? := h9.block q6 (lt_of_block HZ6.out)
              rw [World.cell?_of_block (a := ⟨q6, 0, none⟩) (a6 q6 _ _ (hb9.trans HZ6.out) (by decide))]
              exact (HS6.out W9 h9).2)
          have HSAME : Hid (oc k = 0 → Touch G w w6 ∧ w6.heap[gc]? = some (.cells #[.slice ao keep.length cap, .int .i64 torn, .int .i64 pp] 46 (0, 0)) ∧ ∃ us2, RMed w6 g G B vs (.slice (some ⟨b, 0, none⟩) m cw) vb us2 ws { d with safe := Dv.settle oc 0 (d.wait.take (k + 1)) d.safe }) := Lib.hid (fun h => by
            refine ⟨HTT.out.trans (Touch.of HBN.out), by rw [HBN.out.block gc (lt_of_block HGCB.out)]; exact HGCB.out, us', ?_⟩
            rw [HSNK.out, h, List.take_zero, List.drop_zero, List.nil_append, HSELF.out]
            exact HMK.out.later HBN.out)
          clear hbn hz6 g0 g1 c0 c1 hzp
          by_cases hkt : (k : Int) = torn
          · have hoc : oc k = pt := by rw [HOCK.out, if_pos hkt]
            have HOK := Lib.hid hoc
            have hbuf := Buf.none_ w6 w6 (Below.refl _ w6)
            have hba : Below w6.heap.size w6 (w6.alloc (.cells #[] 5)) := (Below.refl _ w6).alloc (Nat.le_refl _) _
            have z1a := cell_later hba z1
            have hptc : (pt : Int) ≤ yc := by omega
            have hbi : BIn (w6.alloc (.cells #[] 5)) (.slice (some ⟨yb, yo, none⟩) pt yc) (s.take pt) := by
              have h9 := ((HX2.out.bin).1.later (HBN.out.trans (hba.mono HBN.out.size)))
              obtain ⟨a9, c9, e9, _, f9, g9⟩ := h9
              injection e9 with e9 e10 e11
              have hl9 : (s.take pt).length = pt := by rw [List.length_take]; omega
              refine ⟨some ⟨yb, yo, none⟩, yc, by rw [hl9], by rw [hl9]; omega, by omega, .inr ⟨yb, yo, rfl, ?_⟩⟩
              rcases g9 with g9 | ⟨b9, o9, i9, j9, k9⟩
              · rw [g9] at hs64; cases hs64
              · rw [← e9] at i9
                cases i9
                refine ⟨j9, fun j hj => ?_⟩
                rw [k9 j (by rw [hl9] at hj; omega)]
                simp
            have hcap : (64 : Nat) ≤ zc := hzc1
            have HDR : Hid (∀ W9, Below w6.heap.size w6 W9 → BIn W9 (.slice (some ⟨zb, zo, none⟩) 64 zc) z) := Lib.hid (fun W9 h9 => HOZ.out.bin.1.later (HBN.out.trans (h9.mono HBN.out.size)))
            go_upto_region 12 with (refine appBs hbuf hbi (nil_ok' _ _ _) (by rw [List.length_nil, List.length_take]; omega) rfl (.tmp 34) (.tmp 38) rfl rfl rfl (fun v7 w7 hB7 hN7 => ?_); rw [List.nil_append] at hB7; have HBF := Lib.hid hB7; have HV7 := Lib.hid (hN7 (fun e => by cases e)); clear hB7 hN7)
            go_simp
            by_cases hpc : pt = zc
            · have hp64 : pt = 64 := by omega
              have hz64c : zc = 64 := by omega
              have HZD : Hid (∀ W9, Below w6.heap.size w6 W9 → BIn W9 (.slice (some ⟨zb, zo, none⟩) 0 0) (z.drop pt)) := Lib.hid (fun W9 h9 => by
                have e9 : z.drop pt = [] := List.drop_eq_nil_of_le (by omega)
                rw [e9]
                exact ⟨some ⟨zb, zo, none⟩, 0, rfl, Nat.le_refl _, by decide, .inl rfl⟩)
              have HSX : Hid (∀ W9, Below w6.heap.size w6 W9 → ∀ yy, OIn G W9 yy (s.take pt ++ z.drop pt) → _) := Lib.hid (fun W9 h9 yy hy => HST.out W9 h9 yy _ (by rw [List.length_append, List.length_take, List.length_drop]; omega) (by rw [HOK.out]) hy)
              refine wp_region_noPanic ?_
              refine wp_region_held (S := fun W9 => W9.cell? ⟨g, 0, none⟩ = some (.slice (some ⟨bs, 0, none⟩) n cs) ∧ W9.cell? ⟨q6, 0, none⟩ = some (.int .i64 (p : Int))) (by kernel_rfl) ?_
              change wpAnyH _ _ _ _ _ _ _ _ w7.drew
              have hbf8 : Buf w6 w7.drew v7 (s.take pt) := HBF.out.drew
              have hb8 : Below w6.heap.size w6 w7.drew := hbf8.below
              have s7 : w7.drew.cell? ⟨g, 0, none⟩ = some (.slice (some ⟨bs, 0, none⟩) n cs) ∧ w7.drew.cell? ⟨q6, 0, none⟩ = some (.int .i64 (p : Int)) := HS6.out _ hb8
              generalize w7.drew = w8 at s7 hb8 hbf8 ⊢
              refine held_of_takes (fuel := 5) (by kernel_rfl) (fun _ _ _ _ _ h => h) s7 [0, 1, 2, 3, 4, 5, 6, 7, 8, 9, 10, 11, 12, 13, 15] _ _ (by kernel_rfl) ?_
              refine Takes.val (.pointer (some ⟨g, 0, none⟩)) rfl rfl (fun _ _ => by kernel_rfl) ?_
              refine Takes.val (.pointer (some ⟨g, 0, none⟩)) rfl rfl (fun _ _ => by kernel_rfl) ?_
              refine Takes.val (.pointer (some ⟨g, 0, none⟩)) rfl rfl (fun _ _ => by kernel_rfl) ?_
              refine Takes.val (.slice (some ⟨bs, 0, none⟩) n cs) rfl rfl (fun W9 h9 => exec_load (s := 42) rfl (by kernel_rfl) (load_secs h9.1)) ?_
              refine Takes.val (.pointer (some ⟨q6, 0, none⟩)) rfl rfl (fun _ _ => by kernel_rfl) ?_
              refine Takes.val (.int .i64 (p : Int)) rfl rfl (fun W9 h9 => exec_load (s := 44) rfl (by kernel_rfl) (load_int h9.2)) ?_
              refine Takes.val v7 rfl rfl (fun _ _ => by kernel_rfl) ?_
              refine Takes.val (.pointer (some ⟨g, 0, none⟩)) rfl rfl (fun _ _ => by kernel_rfl) ?_
              refine Takes.val (.pointer (some ⟨g, 0, none⟩)) rfl rfl (fun _ _ => by kernel_rfl) ?_
              refine Takes.val (.pointer (some ⟨g, 0, none⟩)) rfl rfl (fun _ _ => by kernel_rfl) ?_
              refine Takes.val (.slice (some ⟨bs, 0, none⟩) n cs) rfl rfl (fun W9 h9 => exec_load (s := 49) rfl (by kernel_rfl) (load_secs h9.1)) ?_
              refine Takes.val (.pointer (some ⟨q6, 0, none⟩)) rfl rfl (fun _ _ => by kernel_rfl) ?_
              refine Takes.val (.int .i64 (p : Int)) rfl rfl (fun W9 h9 => exec_load (s := 51) rfl (by kernel_rfl) (load_int h9.2)) ?_
              refine Takes.val (.pointer (some ⟨bs, p, none⟩)) rfl rfl (fun W9 _ => by go_simp) ?_
              refine Takes.val (.int .i64 (pt : Int)) rfl rfl (fun _ _ => by kernel_rfl) ?_
              refine wpAnyH_all (rs := [14]) (by kernel_rfl) (by simp) (fun i hi => ?_)
              obtain rfl := List.mem_singleton.1 hi
              refine wpOp_make (v := .slice (some ⟨zb, zo, none⟩) 64 zc) (w' := w8) rfl rfl (exec_load (s := 53) rfl (by kernel_rfl) (load_octs (HZ.out w8 hb8))) ⟨s7, ?_⟩
              refine held_of_takes (fuel := 3) (by kernel_rfl) (fun _ _ _ _ _ h => h) s7 [16] _ _ (by kernel_rfl) ?_
              refine Takes.val (.slice (some ⟨zb, zo, none⟩) 0 0) rfl rfl (fun W9 _ => by go_simp) ?_
              refine wpAnyH_all (rs := [17]) (by kernel_rfl) (by simp) (fun i hi => ?_)
              obtain rfl := List.mem_singleton.1 hi
              refine wpOp_plain rfl rfl (wp_append_octets hbf8 (HZD.out w8 hb8) (nil_ok' _ _ _) (by rw [List.length_take, List.length_drop]; omega) (.tmp 46) (.tmp 56) rfl (by kernel_rfl) (by kernel_rfl) (fun v9 w9 hB9 hN9 => ?_))
              have hb9 : Below w6.heap.size w6 w9 := hB9.below
              have hv9 : v9 ≠ .slice none 0 0 := hN9 HV7.out
              have s9 : w9.cell? ⟨g, 0, none⟩ = some (.slice (some ⟨bs, 0, none⟩) n cs) ∧ w9.cell? ⟨q6, 0, none⟩ = some (.int .i64 (p : Int)) := HS6.out w9 hb9
              obtain ⟨q9, c9, rfl⟩ : ∃ q9 c9, v9 = .slice (some ⟨q9, 0, none⟩) 64 c9 := by
                rcases hB9.1.2 with ⟨h0, _⟩ | ⟨q9, c9, _, h0, _⟩
                · exact absurd h0 hv9
                · exact ⟨q9, c9, by rw [h0]; congr 1; rw [List.length_append, List.length_take, List.length_drop]; omega⟩
              have hl9 : s.take pt ++ z.drop pt ≠ [] := by
                intro e
                have e2 := congrArg List.length e
                rw [List.length_append, List.length_take, List.length_drop, List.length_nil] at e2
                omega
              have ho9 := hB9.oin (F := G) hl9 (fun k9 hk9 => HGn.out k9 (Nat.le_trans HWS.out hk9))
              refine ⟨s9, ?_⟩
              refine held_of_takes (fuel := 1) (by kernel_rfl) (fun _ _ _ _ _ h => h) s9 [18] _ _ (by kernel_rfl) ?_
              refine Takes.val (.pointer (some ⟨bs, p, none⟩)) rfl rfl (fun W9 _ => by go_simp) ?_
              refine wpAnyH_all (rs := [19]) (by kernel_rfl) (by simp) (fun i hi => ?_)
              obtain rfl := List.mem_singleton.1 hi
              have hst := HSX.out w9 hb9 _ ho9
              refine wpOp_known (.store 23 (.tmp 58) (.tmp 57)) none (by kernel_rfl) (fun _ e1 e2 => wp_store_one (p := .pointer (some ⟨bs, p, none⟩)) (v := .slice (some ⟨q9, 0, none⟩) 64 c9) (w' := w9.setCell ⟨bs, p, none⟩ (.slice (some ⟨q9, 0, none⟩) 64 c9)) e1 (by kernel_rfl) (by kernel_rfl) (store_octs hst.1 hst.2.1) ?_)
              rw [e2]
              refine ⟨hst.2.2.2, ?_⟩
              refine wpAnyH_done (P := Tryd.prog) (by kernel_rfl) ?_ 0
              refine NoPanic.normal ?_
              have HX := Lib.hid hst.2.2.1
              generalize w9.setCell ⟨bs, p, none⟩ (.slice (some ⟨q9, 0, none⟩) 64 c9) = w10 at HX ⊢
              clear hst ho9 hl9 s9 hv9 hb9 hB9 hN9 hbf8 hb8 s7
              go_simp
              go_wp2_with fail
              go_roundw
              case rel => exact ⟨k + 1, by omega, by go_num, HX.out⟩
              case measure => simp [intOf]; omega

            · have HZD : Hid (∀ W9, Below w6.heap.size w6 W9 → BIn W9 (.slice (some ⟨zb, zo + pt, none⟩) (64 - pt) (zc - pt)) (z.drop pt)) := Lib.hid (fun W9 h9 => by
                have h8 := HDR.out W9 h9
                obtain ⟨a9, c9, e9, _, f9, g9⟩ := h8
                injection e9 with e9 e10 e11
                have hl9 : (z.drop pt).length = 64 - pt := by rw [List.length_drop]; omega
                refine ⟨some ⟨zb, zo + pt, none⟩, zc - pt, by rw [hl9], by rw [hl9]; omega, by omega, ?_⟩
                rcases g9 with g9 | ⟨b9, o9, i9, j9, k9⟩
                · rw [g9] at hz64; cases hz64
                · rw [← e9] at i9
                  cases i9
                  refine .inr ⟨zb, zo + pt, rfl, j9, fun j hj => ?_⟩
                  rw [hl9] at hj
                  rw [Nat.add_assoc, k9 (pt + j) (by omega)]
                  simp)
              have HSX : Hid (∀ W9, Below w6.heap.size w6 W9 → ∀ yy, OIn G W9 yy (s.take pt ++ z.drop pt) → _) := Lib.hid (fun W9 h9 yy hy => HST.out W9 h9 yy _ (by rw [List.length_append, List.length_take, List.length_drop]; omega) (by rw [HOK.out]) hy)
              refine wp_region_noPanic ?_
              refine wp_region_held (S := fun W9 => W9.cell? ⟨g, 0, none⟩ = some (.slice (some ⟨bs, 0, none⟩) n cs) ∧ W9.cell? ⟨q6, 0, none⟩ = some (.int .i64 (p : Int))) (by kernel_rfl) ?_
              change wpAnyH _ _ _ _ _ _ _ _ w7.drew
              have hbf8 : Buf w6 w7.drew v7 (s.take pt) := HBF.out.drew
              have hb8 : Below w6.heap.size w6 w7.drew := hbf8.below
              have s7 : w7.drew.cell? ⟨g, 0, none⟩ = some (.slice (some ⟨bs, 0, none⟩) n cs) ∧ w7.drew.cell? ⟨q6, 0, none⟩ = some (.int .i64 (p : Int)) := HS6.out _ hb8
              generalize w7.drew = w8 at s7 hb8 hbf8 ⊢
              refine held_of_takes (fuel := 5) (by kernel_rfl) (fun _ _ _ _ _ h => h) s7 [0, 1, 2, 3, 4, 5, 6, 7, 8, 9, 10, 11, 12, 13, 15] _ _ (by kernel_rfl) ?_
              refine Takes.val (.pointer (some ⟨g, 0, none⟩)) rfl rfl (fun _ _ => by kernel_rfl) ?_
              refine Takes.val (.pointer (some ⟨g, 0, none⟩)) rfl rfl (fun _ _ => by kernel_rfl) ?_
              refine Takes.val (.pointer (some ⟨g, 0, none⟩)) rfl rfl (fun _ _ => by kernel_rfl) ?_
              refine Takes.val (.slice (some ⟨bs, 0, none⟩) n cs) rfl rfl (fun W9 h9 => exec_load (s := 42) rfl (by kernel_rfl) (load_secs h9.1)) ?_
              refine Takes.val (.pointer (some ⟨q6, 0, none⟩)) rfl rfl (fun _ _ => by kernel_rfl) ?_
              refine Takes.val (.int .i64 (p : Int)) rfl rfl (fun W9 h9 => exec_load (s := 44) rfl (by kernel_rfl) (load_int h9.2)) ?_
              refine Takes.val v7 rfl rfl (fun _ _ => by kernel_rfl) ?_
              refine Takes.val (.pointer (some ⟨g, 0, none⟩)) rfl rfl (fun _ _ => by kernel_rfl) ?_
              refine Takes.val (.pointer (some ⟨g, 0, none⟩)) rfl rfl (fun _ _ => by kernel_rfl) ?_
              refine Takes.val (.pointer (some ⟨g, 0, none⟩)) rfl rfl (fun _ _ => by kernel_rfl) ?_
              refine Takes.val (.slice (some ⟨bs, 0, none⟩) n cs) rfl rfl (fun W9 h9 => exec_load (s := 49) rfl (by kernel_rfl) (load_secs h9.1)) ?_
              refine Takes.val (.pointer (some ⟨q6, 0, none⟩)) rfl rfl (fun _ _ => by kernel_rfl) ?_
              refine Takes.val (.int .i64 (p : Int)) rfl rfl (fun W9 h9 => exec_load (s := 51) rfl (by kernel_rfl) (load_int h9.2)) ?_
              refine Takes.val (.pointer (some ⟨bs, p, none⟩)) rfl rfl (fun W9 _ => by go_simp) ?_
              refine Takes.val (.int .i64 (pt : Int)) rfl rfl (fun _ _ => by kernel_rfl) ?_
              refine wpAnyH_all (rs := [14]) (by kernel_rfl) (by simp) (fun i hi => ?_)
              obtain rfl := List.mem_singleton.1 hi
              refine wpOp_make (v := .slice (some ⟨zb, zo, none⟩) 64 zc) (w' := w8) rfl rfl (exec_load (s := 53) rfl (by kernel_rfl) (load_octs (HZ.out w8 hb8))) ⟨s7, ?_⟩
              refine held_of_takes (fuel := 3) (by kernel_rfl) (fun _ _ _ _ _ h => h) s7 [16] _ _ (by kernel_rfl) ?_
              refine Takes.val (.slice (some ⟨zb, zo + pt, none⟩) (64 - pt) (zc - pt)) rfl rfl (fun W9 _ => by go_simp; simp only [if_pos (show (pt : Int) ≤ 64 by omega), if_neg (show ¬ zc = pt by omega)]) ?_
              refine wpAnyH_all (rs := [17]) (by kernel_rfl) (by simp) (fun i hi => ?_)
              obtain rfl := List.mem_singleton.1 hi
              refine wpOp_plain rfl rfl (wp_append_octets hbf8 (HZD.out w8 hb8) (nil_ok' _ _ _) (by rw [List.length_take, List.length_drop]; omega) (.tmp 46) (.tmp 56) rfl (by kernel_rfl) (by kernel_rfl) (fun v9 w9 hB9 hN9 => ?_))
              have hb9 : Below w6.heap.size w6 w9 := hB9.below
              have hv9 : v9 ≠ .slice none 0 0 := hN9 HV7.out
              have s9 : w9.cell? ⟨g, 0, none⟩ = some (.slice (some ⟨bs, 0, none⟩) n cs) ∧ w9.cell? ⟨q6, 0, none⟩ = some (.int .i64 (p : Int)) := HS6.out w9 hb9
              obtain ⟨q9, c9, rfl⟩ : ∃ q9 c9, v9 = .slice (some ⟨q9, 0, none⟩) 64 c9 := by
                rcases hB9.1.2 with ⟨h0, _⟩ | ⟨q9, c9, _, h0, _⟩
                · exact absurd h0 hv9
                · exact ⟨q9, c9, by rw [h0]; congr 1; rw [List.length_append, List.length_take, List.length_drop]; omega⟩
              have hl9 : s.take pt ++ z.drop pt ≠ [] := by
                intro e
                have e2 := congrArg List.length e
                rw [List.length_append, List.length_take, List.length_drop, List.length_nil] at e2
                omega
              have ho9 := hB9.oin (F := G) hl9 (fun k9 hk9 => HGn.out k9 (Nat.le_trans HWS.out hk9))
              refine ⟨s9, ?_⟩
              refine held_of_takes (fuel := 1) (by kernel_rfl) (fun _ _ _ _ _ h => h) s9 [18] _ _ (by kernel_rfl) ?_
              refine Takes.val (.pointer (some ⟨bs, p, none⟩)) rfl rfl (fun W9 _ => by go_simp) ?_
              refine wpAnyH_all (rs := [19]) (by kernel_rfl) (by simp) (fun i hi => ?_)
              obtain rfl := List.mem_singleton.1 hi
              have hst := HSX.out w9 hb9 _ ho9
              refine wpOp_known (.store 23 (.tmp 58) (.tmp 57)) none (by kernel_rfl) (fun _ e1 e2 => wp_store_one (p := .pointer (some ⟨bs, p, none⟩)) (v := .slice (some ⟨q9, 0, none⟩) 64 c9) (w' := w9.setCell ⟨bs, p, none⟩ (.slice (some ⟨q9, 0, none⟩) 64 c9)) e1 (by kernel_rfl) (by kernel_rfl) (store_octs hst.1 hst.2.1) ?_)
              rw [e2]
              refine ⟨hst.2.2.2, ?_⟩
              refine wpAnyH_done (P := Tryd.prog) (by kernel_rfl) ?_ 0
              refine NoPanic.normal ?_
              have HX := Lib.hid hst.2.2.1
              generalize w9.setCell ⟨bs, p, none⟩ (.slice (some ⟨q9, 0, none⟩) 64 c9) = w10 at HX ⊢
              clear hst ho9 hl9 s9 hv9 hb9 hB9 hN9 hbf8 hb8 s7
              go_simp
              go_wp2_with fail
              go_roundw
              case rel => exact ⟨k + 1, by omega, by go_num, HX.out⟩
              case measure => simp [intOf]; omega

          · have hktn : ((k : Int) == torn) = false := beq_eq_false_iff_ne.2 hkt
            have hokk : oc k = if keep.getD k false then 64 else 0 := by rw [HOCK.out, if_neg hkt]
            have HOK := Lib.hid hokk
            clear hokk
            by_cases hkl : k < keep.length
            · have hkli : (k : Int) < keep.length := by omega
              obtain ⟨b9, o9, hao, hb9, hF9, hc9⟩ : ∃ b o, ao = some ⟨b, o, none⟩ ∧ b < w.heap.size ∧ ¬ F b ∧ ∀ (j : Nat) (hj : j < keep.length), w.cell? ⟨b, o + j, none⟩ = some (.bool keep[j]) := by
                rcases HK9.out with h9 | h9
                · rw [h9] at hkl; cases hkl
                · exact h9
              have hkc2 : w6.cell? ⟨b9, o9 + k, none⟩ = some (.bool keep[k]) := by
                have h9 := hc9 k hkl
                have e9 : w6.heap[b9]? = w.heap[b9]? := (HBN.out.block b9 (Nat.lt_of_lt_of_le hb9 HTT.out.size)).trans (HTT.out.block b9 hb9 (HGF.out b9 hb9 hF9))
                rw [World.cell?_of_block (a := ⟨b9, o9 + k, none⟩) e9]; exact h9
              rw [hao] at e0
              have hgd9 : keep.getD k false = keep[k] := by rw [List.getD_eq_getElem?_getD, List.getElem?_eq_getElem hkl]; rfl
              have HGD := Lib.hid hgd9
              clear hao hc9 hgd9
              generalize keep[k] = kv at hkc2 HGD
              cases kv with
              | true =>
                have h64 : oc k = 64 := by rw [HOK.out, HGD.out]; rfl
                have H64 := Lib.hid h64
                clear h64
                go_upto_region 14 with fail
                have l0 := fun p9 : LateOf w6 => p9.cell k0
                have l1 := fun p9 : LateOf w6 => p9.cell z0
                have l2 := fun p9 : LateOf w6 => p9.cell z1
                refine wp_region_late_tail 9 (by kernel_rfl) (by kernel_rfl) ?_
                simp only [List.take_succ_cons, List.take_zero, List.drop_succ_cons, List.drop_zero]
                iterate 9 quiet_step (fail)
                refine wpQuiet_nil ?_
                intro w8 hw'
                have hb8 : Below w6.heap.size w6 w8 := by obtain ⟨p9, rfl⟩ := hw'; exact p9.h
                clear hw' l0 l1 l2
                obtain ⟨q8, f8, hX8, _⟩ := HST.out w8 hb8 (.slice (some ⟨yb, yo, none⟩) 64 yc) s hs64 (by rw [H64.out, List.take_of_length_le (by omega), List.drop_eq_nil_of_le (by omega), List.append_nil]) (HX2.out.keep (fun _ hf => hf) (fun k9 _ _ _ hb => (HBN.out.trans (hb8.mono HBN.out.size)).block k9 (lt_of_block hb)))
                have HX8 := Lib.hid hX8
                clear hX8 hb8
                go_wp2_with fail
                go_roundw
                case rel => exact ⟨k + 1, by omega, by go_num, HX8.out⟩
                case measure => simp [intOf]; omega
              | false =>
                have h64 : oc k = 0 := by rw [HOK.out, HGD.out]; rfl
                have HX8 := Lib.hid (HSAME.out h64)
                clear h64
                go_wp2_with fail
                go_roundw
                case rel => exact ⟨k + 1, by omega, by go_num, HX8.out⟩
                case measure => simp [intOf]; omega
            · have hkli : ¬ (k : Int) < keep.length := by omega
              have h64 : oc k = 0 := by rw [HOK.out, List.getD_eq_getElem?_getD, List.getElem?_eq_none (by omega)]; rfl
              have HX8 := Lib.hid (HSAME.out h64)
              clear h64
              go_wp2_with fail
              go_roundw
              case rel => exact ⟨k + 1, by omega, by go_num, HX8.out⟩
              case measure => simp [intOf]; omega
        · have hki : ¬ (k : Int) < m := by omega
          have HTK : Hid (d.wait.take k = d.wait) := Lib.hid (List.take_of_length_le (by rw [← HMM.out]; omega))
          obtain rfl : k = m := by omega
          have f1 := hM.free 1
          have c2 := hM.c2
          have c3 := hM.c3
          have c4 := hM.c4
          have f2 := hM.free 2
          have f3 := hM.free 3
          have f4 := hM.free 4
          have h9 := hM.setWait (.slice none 0 0) [] [] (World.ownsRow_nil _ _ _ _) rfl (fun j h1 _ => by cases h1) (fun j hj => by cases hj) (fun x hx => by cases hx)
          have hb2 := heap_setCell_same _ g 2 _ _ (.int .i64 0) h9.blk
          have hb3 := heap_setCell_same _ g 3 _ _ (.slice none 0 0) hb2
          have hb4 := heap_setCell_same _ g 4 _ _ (.int .i64 (-1)) hb3
          have ht4 : Touch (fun k => k = g) (wr.setCell ⟨g, 1, none⟩ (.slice none 0 0)) ((((wr.setCell ⟨g, 1, none⟩ (.slice none 0 0)).setCell ⟨g, 2, none⟩ (.int .i64 0)).setCell ⟨g, 3, none⟩ (.slice none 0 0)).setCell ⟨g, 4, none⟩ (.int .i64 (-1))) := ((Touch.cell (F := fun k => k = g) rfl 2 _).trans (Touch.cell (F := fun k => k = g) rfl 3 _)).trans (Touch.cell (F := fun k => k = g) rfl 4 _)
          have HX : Hid (Touch G w ((((wr.setCell ⟨g, 1, none⟩ (.slice none 0 0)).setCell ⟨g, 2, none⟩ (.int .i64 0)).setCell ⟨g, 3, none⟩ (.slice none 0 0)).setCell ⟨g, 4, none⟩ (.int .i64 (-1))) ∧ RMed ((((wr.setCell ⟨g, 1, none⟩ (.slice none 0 0)).setCell ⟨g, 2, none⟩ (.int .i64 0)).setCell ⟨g, 3, none⟩ (.slice none 0 0)).setCell ⟨g, 4, none⟩ (.int .i64 (-1))) g G B vs (.slice none 0 0) (.slice none 0 0) us' [] (Dv.crash d keep torn pp)) := Lib.hid ⟨(ht.trans (Touch.cell hM.hg 1 _)).trans (ht4.mono (fun k9 _ hk9 => by rw [hk9]; exact hM.hg)), by
            rw [HCR.out]
            refine h9.block (d' := ⟨Dv.settle oc 0 d.wait d.safe, [], 0, [], -1⟩) hb4 ht4 ?_ rfl ⟨none, 0, rfl, Nat.le_refl _, by decide, .inl rfl⟩ (show -9223372036854775808 ≤ (-1 : Int) ∧ (-1 : Int) ≤ 9223372036854775807 by decide)
            show Dv.settle oc 0 d.wait d.safe = Dv.settle oc 0 (d.wait.take k) d.safe
            rw [HTK.out]⟩
          clear hlt hk ht hM h9 hb2 hb3 hb4 ht4 hgcb
          go_wp2_with fail
          go_end0
          exact ⟨rfl, HX.out.1, us', HX.out.2⟩

end Go.Proofs.YtlipgphmhkjnpaaDoor
