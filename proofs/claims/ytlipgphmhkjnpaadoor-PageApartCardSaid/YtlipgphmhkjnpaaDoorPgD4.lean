/- The document's own device (layer 13): Flush. -/
import Derived.Test.YtlipgphmhkjnpaaDoorPgD3
namespace Go.Proofs.YtlipgphmhkjnpaaDoor
open Go.RowKit

section
variable {w w' : World} {g B : Nat} {F : Nat → Prop} {vs vw vb : Value} {us : List Value} {ws : List (Nat × Value)} {d : Dv.S}
theorem ownsRow_set {base bs : Nat} {c n : Nat} {xs : List Value} (h : w.ownsRow base 23 1 (.slice (some ⟨bs, 0, none⟩) n c) n xs) (k : Nat) (y : Value) : (w.setCell ⟨bs, k, none⟩ y).ownsRow base 23 1 (.slice (some ⟨bs, 0, none⟩) n c) n (xs.set k y) := by
  have hl := h.1
  rcases h.2 with ⟨h0, _⟩ | ⟨g', cap', cur, hv, hbase, hb, h1, h2, h3, h4⟩
  · cases h0
  cases hv
  refine ⟨by rw [List.length_set]; exact hl, .inr ⟨bs, c, cur.setIfInBounds k y, rfl, hbase, heap_setCell_same w bs k _ _ y hb, h1, h2, by simpa using h3, ?_⟩⟩
  rw [Array.toList_setIfInBounds, List.take_set, h4]
/-- A sector comes to be sure: another slice in its place. -/
theorem RMed.setSafe {bs c : Nat} (h : RMed w g F B vs vw vb us ws d) (hvs : vs = .slice (some ⟨bs, 0, none⟩) us.length c) (k : Nat) (_hk : k < d.safe.length) (y : Value) (s : Dv.Sec) (hs : s.length = 64) (hy : OIn F w y s) :
    RMed (w.setCell ⟨bs, k, none⟩ y) g F B vs vw vb (us.set k y) ws { d with safe := d.safe.set k s } := by
  have hF : F bs := h.hs bs (by rw [hvs]; rfl)
  obtain ⟨C, hC⟩ := row_type h.safe (show vs.ownBlock = some bs by rw [hvs]; rfl)
  have hk2 : ∀ j, j ≠ bs → (w.setCell ⟨bs, k, none⟩ y).heap[j]? = w.heap[j]? := fun j hj => heap_setCell_other w ⟨bs, k, none⟩ j y hj
  have ho : ∀ j C fr, F j → w.heap[j]? = some (.cells C 5 fr) → (w.setCell ⟨bs, k, none⟩ y).heap[j]? = w.heap[j]? := fun j C fr _ hb => hk2 j (ne_block hb hC (by decide))
  have hsafe := h.safe
  rw [hvs] at hsafe
  refine ⟨by rw [hk2 g (ne_block h.blk hC (by decide))]; exact h.blk, ?_, ownsRow_keep h.wait (fun j hj => ?_), by rw [List.length_set, List.length_set]; exact h.lus, h.lws, fun j h1 h2 => ?_, fun j h1 h2 => ⟨(h.wts j h1 h2).1, (h.wts j h1 h2).2.keep (fun _ hf => hf) ho⟩, h.bad.keep (by simp) (fun j hjB _ => hk2 j (fun e => by have := h.hB bs hF; omega)), h.hg, h.hs, h.hw, by rw [List.length_set]; exact h.le, fun x hx => ?_, fun x hx => ?_, h.hB, h.left⟩
  · rw [hvs, List.length_set]
    exact ownsRow_set hsafe k y
  · obtain ⟨C2, hC2⟩ := row_type h.wait hj
    exact hk2 j (ne_block hC2 hC (by decide))
  · rw [List.length_set] at h1
    simp only [List.length_set] at h2
    rw [List.getElem_set, List.getElem_set]
    split
    · exact hy.keep (fun _ hf => hf) ho
    · exact (h.sec j h1 h2).keep (fun _ hf => hf) ho
  · rcases List.mem_or_eq_of_mem_set hx with hx | rfl
    · exact h.gS x hx
    · exact hs
  · have := h.gW x hx
    simp only [List.length_set]
    exact this
/-- Other writes wait. -/
theorem RMed.setWait (h : RMed w g F B vs vw vb us ws d) (vw' : Value) (ws' : List (Nat × Value)) (wt : List (Nat × Dv.Sec)) (hw : w.ownsRow 0 84 2 vw' ws'.length (ws'.flatMap rwcells)) (hl : ws'.length = wt.length) (ht : ∀ j (h1 : j < ws'.length) (h2 : j < wt.length), ws'[j].1 = wt[j].1 ∧ OIn F w ws'[j].2 wt[j].2) (hF : ∀ k, vw'.ownBlock = some k → F k) (hg : ∀ x ∈ wt, x.1 < d.safe.length ∧ x.2.length = 64) :
    RMed (w.setCell ⟨g, 1, none⟩ vw') g F B vs vw' vb us ws' { d with wait := wt } := by
  have hk2 : ∀ j, j ≠ g → (w.setCell ⟨g, 1, none⟩ vw').heap[j]? = w.heap[j]? := fun j hj => heap_setCell_other w ⟨g, 1, none⟩ j vw' hj
  have ho : ∀ j C fr, F j → w.heap[j]? = some (.cells C 5 fr) → (w.setCell ⟨g, 1, none⟩ vw').heap[j]? = w.heap[j]? := fun j C fr _ hb => hk2 j (ne_block hb h.blk (by decide))
  refine ⟨heap_setCell_same w g 1 _ _ vw' h.blk, ownsRow_keep h.safe (fun j hj => ?_), ownsRow_keep hw (fun j hj => ?_), h.lus, hl, fun j h1 h2 => (h.sec j h1 h2).keep (fun _ hf => hf) ho, fun j h1 h2 => ⟨(ht j h1 h2).1, (ht j h1 h2).2.keep (fun _ hf => hf) ho⟩, h.bad.keep (by simp) (fun j hjB _ => hk2 j (fun e => by have := h.hB g h.hg; omega)), h.hg, h.hs, hF, h.le, h.gS, hg, h.hB, h.left⟩
  · obtain ⟨C2, hC2⟩ := row_type h.safe hj
    exact hk2 j (ne_block hC2 h.blk (by decide))
  · obtain ⟨C2, hC2⟩ := row_type hw hj
    exact hk2 j (ne_block hC2 h.blk (by decide))
end

set_option maxHeartbeats 3200000 in
set_option maxRecDepth 100000 in
theorem rflush_w (w : World) (g B : Nat) (F : Nat → Prop) (vs vw vb : Value) (us : List Value) (ws : List (Nat × Value)) (d : Dv.S) (h : RMed w g F B vs vw vb us ws d) (hn : d.n ≤ 1000000) (hw : d.wait.length ≤ 100000) :
    Calls Tryd.prog 22 #[.pointer (some ⟨g, 0, none⟩)] w fun e w' => e = .returned (.int .i64 (Dv.flush d).2) ∧ Touch F w w' ∧ ∃ vw' us' ws', RMed w' g F B vs vw' vb us' ws' (Dv.flush d).1 := by
  have HH := Lib.hid h
  have cC := rcall_w w g B F vs vw vb us ws d h hn
  have hle := h.le
  have hg := h.hg
  clear h
  obtain ⟨er, her⟩ : ∃ er, er = (Dv.call d).2 := ⟨_, rfl⟩
  have HER := Lib.hid her
  rw [← her] at cC
  clear her
  by_cases h0 : er = 0
  · have HE : Hid (Dv.flush d = ({ (Dv.call d).1 with safe := d.wait.foldl Dv.done d.safe, wait := [] }, 0)) := Lib.hid (by unfold Dv.flush; rw [if_neg (by rw [← HER.out]; exact fun h => h h0)])
    subst h0
    go_enter Tryd.func22, Tryd.ntmps22
    go_wp2_with fail
    refine cC.mono ?_
    rintro e w1 ⟨rfl, ht1, hM1⟩
    obtain ⟨e1, e2, e3⟩ := Dv.call_same d
    obtain ⟨D, hD⟩ : ∃ D, D = (Dv.call d).1 := ⟨_, rfl⟩
    have HD := Lib.hid hD
    rw [← hD] at hM1 e1 e2 e3
    have HE2 := Lib.hid (And.intro e1 (And.intro e2 e3))
    have HT1 := Lib.hid ht1
    have HM1 := Lib.hid hM1
    obtain ⟨m, hm⟩ : ∃ m, m = d.wait.length := ⟨_, rfl⟩
    have HMM := Lib.hid hm
    rw [← hm] at hw
    obtain ⟨aw, cw, hvw, hcw, hcw9⟩ := hM1.shapes.2.1
    rw [e2, ← hm] at hvw hcw
    subst hvw
    clear ht1 hM1 cC hD e1 e2 e3 hm
    go_wp2_with fail
    go_loopw [4] (fun i wr => ∃ k : Nat, k ≤ m ∧ i = .int .i64 k ∧ Touch F w wr ∧ ∃ us', RMed wr g F B vs (.slice aw m cw) vb us' ws { D with safe := (d.wait.take k).foldl Dv.done d.safe }) (fun i _ => m - (intOf i).toNat)
    case atStart => exact ⟨0, Nat.zero_le _, rfl, HT1.out.mono (fun k _ hk => by rw [hk]; exact hg), us, by
      have e : ({ D with safe := (d.wait.take 0).foldl Dv.done d.safe } : Dv.S) = D := by rw [List.take_zero]; show ({ D with safe := d.safe } : Dv.S) = D; rw [← HE2.out.1]
      rw [e]; exact HM1.out⟩
    case round =>
      obtain ⟨k, hk, rfl, ht, us', hM⟩ := hrel
      have c1 := hM.c1
      by_cases hlt : k < m
      · have hki : (k : Int) < m := by omega
        have hk2 : k < d.wait.length := by rw [← HMM.out]; exact hlt
        have hk1 : k < ws.length := by rw [hM.lws]; show k < D.wait.length; rw [HE2.out.2.1]; exact hk2
        obtain ⟨b, c, hv, q1, q2⟩ := hM.wcell k hk1
        injection hv with hv _ hv3
        subst hv hv3
        obtain ⟨x1, x2⟩ := hM.wts k hk1 (by show k < D.wait.length; rw [HE2.out.2.1]; exact hk2)
        have hwk : D.wait[k]'(by rw [HE2.out.2.1]; exact hk2) = d.wait[k] := by
          have := HE2.out.2.1
          simp only [this]
        have x1' : ws[k].1 = d.wait[k].1 := x1.trans (by rw [hwk])
        have x2' : OIn F wr ws[k].2 d.wait[k].2 := by
          have h9 := x2
          simp only [hwk] at h9
          exact h9
        rw [x1'] at q1
        have HK := Lib.hid (show d.wait[k]? = some d.wait[k] from List.getElem?_eq_getElem hk2)
        have hgw := hM.gW (d.wait[k]) (by show _ ∈ D.wait; rw [HE2.out.2.1]; exact List.getElem_mem hk2)
        obtain ⟨n, hnn⟩ : ∃ n, n = us'.length := ⟨_, rfl⟩
        have hpn : d.wait[k].1 < n := by rw [hnn, hM.lus]; exact hgw.1
        have hp64 := hgw.2
        generalize ws[k].2 = y at q2 x2'
        generalize d.wait[k] = dw at q1 x2' HK hpn hp64
        obtain ⟨p, s⟩ := dw
        have x3 : OIn F wr y s := x2'
        have q1 : wr.cell? ⟨b, k * 2, none⟩ = some (.int .i64 (p : Int)) := q1
        have hpn : p < n := hpn
        have hp64 : s.length = 64 := hp64
        obtain ⟨yb, yo, yc, yC, yf, hye, _⟩ := id x3
        rw [hp64] at hye
        subst hye
        obtain ⟨bs, cs, hvs, q3, f3, _⟩ := hM.scell p (by rw [← hnn]; exact hpn)
        have c0 := hM.c0
        have hpi : (p : Int) < n := by omega
        have HM9 : Hid (∀ w8, Below wr.heap.size wr w8 → RMed (w8.setCell ⟨bs, p, none⟩ (.slice (some ⟨yb, yo, none⟩) 64 yc)) g F B vs (.slice (some ⟨b, 0, none⟩) m cw) vb (us'.set p (.slice (some ⟨yb, yo, none⟩) 64 yc)) ws { D with safe := (d.wait.take (k + 1)).foldl Dv.done d.safe }) := Lib.hid (fun w8 h8 => by
          have h9 := (hM.later h8).setSafe hvs p (by rw [← hM.lus, ← hnn]; exact hpn) _ s hp64 (x3.keep (fun _ hf => hf) (fun k9 _ _ _ hb => h8.block k9 (lt_of_block hb)))
          have e8 : (d.wait.take (k + 1)).foldl Dv.done d.safe = ((d.wait.take k).foldl Dv.done d.safe).set p s := by rw [List.take_add_one, HK.out, List.foldl_append]; rfl
          rw [e8]
          exact h9)
        have HFB : Hid (F bs) := Lib.hid (hM.hs bs (by rw [hvs]; rfl))
        obtain ⟨_, z9, hz9, hzz, _⟩ := own_shape hM.safe
        have hncs : n ≤ cs := by
          have h8 := hz9
          rw [hvs] at h8
          injection h8 with _ _ h8
          rw [hnn, h8]; exact hzz
        rw [hvs, ← hnn] at c0
        have HTT := Lib.hid ht
        generalize us'[p] = y0 at q3
        clear hgw x1 x2 x1' x2' x3 hwk hM ht hz9 hzz hvs hnn
        go_upto_region 7 with fail
        have l0 := fun p9 : LateOf wr => p9.cell c0
        have l1 := fun p9 : LateOf wr => p9.cell c1
        have l2 := fun p9 : LateOf wr => p9.cell q1
        have l3 := fun p9 : LateOf wr => p9.cell q2
        have l4 := fun p9 : LateOf wr => p9.cell q3
        have HQ3 := Lib.hid (And.intro q3 f3)
        refine wp_region_late_tail 21 (by kernel_rfl) (by kernel_rfl) ?_
        simp only [List.take_succ_cons, List.take_zero, List.drop_succ_cons, List.drop_zero]
        iterate 21 quiet_step (fail)
        refine wpQuiet_nil ?_
        intro w8 hw'
        have hb8 : Below wr.heap.size wr w8 := by obtain ⟨p9, rfl⟩ := hw'; exact p9.h
        have q8 : w8.cell? ⟨bs, p, none⟩ = some y0 := by obtain ⟨p9, rfl⟩ := hw'; exact l4 p9
        have f8 : w8.frozen? ⟨bs, p, none⟩ = false := by
          have hlt9 := World.block_lt_of_cell? wr _ HQ3.out.1
          rw [World.frozen?_of_block (a := ⟨bs, p, none⟩) (hb8.block bs hlt9)]
          exact HQ3.out.2
        have HM10 := Lib.hid (HM9.out w8 hb8)
        have HT10 : Hid (Touch F w (w8.setCell ⟨bs, p, none⟩ (.slice (some ⟨yb, yo, none⟩) 64 yc))) := Lib.hid ((HTT.out.trans (Touch.of hb8)).trans (Touch.cell HFB.out p _))
        clear hw' l0 l1 l2 l3 l4 hb8 HM9
        go_wp2_with fail
        go_roundw
        case rel => exact ⟨k + 1, by omega, by go_num, HT10.out, _, HM10.out⟩
        case measure => simp [intOf]; omega
      · have hki : ¬ (k : Int) < m := by omega
        have HTK : Hid (d.wait.take k = d.wait) := Lib.hid (List.take_of_length_le (by rw [← HMM.out]; omega))
        have f1 := hM.free 1
        have HX : Hid (Touch F w (wr.setCell ⟨g, 1, none⟩ (.slice none 0 0)) ∧ RMed (wr.setCell ⟨g, 1, none⟩ (.slice none 0 0)) g F B vs (.slice none 0 0) vb us' [] (Dv.flush d).1) := Lib.hid ⟨ht.trans (Touch.cell hM.hg 1 _), by
          have h9 := hM.setWait (.slice none 0 0) [] [] (World.ownsRow_nil _ _ _ _) rfl (fun j h1 _ => by cases h1) (fun j hj => by cases hj) (fun x hx => by cases hx)
          rw [HTK.out] at h9
          rw [HE.out]
          have e : ({ (Dv.call d).1 with safe := d.wait.foldl Dv.done d.safe, wait := [] } : Dv.S) = { ({ D with safe := d.wait.foldl Dv.done d.safe } : Dv.S) with wait := [] } := by rw [HD.out]
          show RMed _ g F B vs _ vb us' [] ({ (Dv.call d).1 with safe := d.wait.foldl Dv.done d.safe, wait := [] } : Dv.S)
          rw [e]
          exact h9⟩
        clear hlt hk ht hM
        go_wp2_with fail
        go_ret
        exact ⟨by rw [HE.out]; rfl, HX.out.1, _, _, _, HX.out.2⟩
  · have hb : (er != 0) = true := bne_iff_ne.2 h0
    have HE : Hid (Dv.flush d = Dv.call d) := Lib.hid (by unfold Dv.flush; rw [if_pos (by rw [← HER.out]; exact h0)])
    go_enter Tryd.func22, Tryd.ntmps22
    go_wp2_with fail
    refine cC.mono ?_
    rintro e w1 ⟨rfl, ht1, hM1⟩
    have HT1 := Lib.hid ht1
    have HM1 := Lib.hid hM1
    clear ht1 hM1 cC
    go_wp2_with fail
    go_ret
    exact ⟨by rw [HE.out, ← HER.out]; rfl, HT1.out.mono (fun k _ hk => by rw [hk]; exact hg), vw, us, ws, by rw [HE.out]; exact HM1.out⟩
end Go.Proofs.YtlipgphmhkjnpaaDoor
