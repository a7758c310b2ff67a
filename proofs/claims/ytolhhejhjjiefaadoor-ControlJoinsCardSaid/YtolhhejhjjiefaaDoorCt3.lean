/- Package control: Parse. -/
import Derived.Test.YtolhhejhjjiefaaDoorCt2
import Derived.Deep.DeepCutAuto
namespace Go.Proofs.YtolhhejhjjiefaaDoor
open Go.RowKit

theorem SIn.at_ {w : World} {b o n c : Nat} {ls : List (List UInt8)} (h : SIn w (.slice (some ⟨b, o, none⟩) n c) ls) (k : Nat) (hk : k < ls.length) : w.cell? ⟨b, o + k, none⟩ = some (.string (str ls[k])) := by
  obtain ⟨ao, cap, hv, h⟩ := h
  injection hv with h1 h2 h3
  subst h1
  rcases h with h | ⟨b', o', h4, h5, h6⟩
  · subst h; cases hk
  · injection h4 with h4; injection h4 with h7 h8 _; subst h7 h8; exact h6 k hk

/-- What lies there while a text is read: the result's block, what has been said (block g), the pieces behind it. -/
structure PAt (W w : World) (g : Nat) (v : Value) (ps : List (List UInt8)) (c : Ctl.C) : Prop where
  res : CAt w W.heap.size Ctl.zeroC
  said : CAt w g c
  gt : W.heap.size < g
  row : w.ownsRow (g + 1) 9 1 v ps.length (strCells ps)
  below : Below W.heap.size W w
theorem PAt.after {W w w' : World} {g : Nat} {v : Value} {ps : List (List UInt8)} {c : Ctl.C} (h : PAt W w g v ps c) (hb : Below w.heap.size w w') : PAt W w' g v ps c :=
  ⟨h.res.later hb, h.said.later hb, h.gt, ownsRow_after h.row (fun k cur hk => by rw [hb.block k (lt_of_block hk)]; exact hk), h.below.trans (hb.mono h.below.size)⟩
theorem PAt.turn {W w w' : World} {g : Nat} {v : Value} {ps : List (List UInt8)} {c d : Ctl.C} (h : PAt W w g v ps c) (ha : Apart w w' g g) (hc : CAt w' g d) : PAt W w' g v ps d := by
  refine ⟨?_, hc, h.gt, ?_, ?_⟩
  · unfold CAt; rw [ha.2.2.2.2 _ (by have := h.gt; omega) (by have := h.gt; omega)]; exact h.res
  · refine ownsRow_after h.row fun k cur hk => ?_
    have hne : k ≠ g := fun e => by
      subst e
      have h1 := h.said
      unfold CAt at h1
      rw [h1] at hk; simp at hk
    rw [ha.2.2.2.2 k hne hne]; exact hk
  · exact h.below.trans ⟨ha.1, ha.2.1, ha.2.2.1, by rw [ha.2.2.2.1]; exact Nat.le_refl _, fun k hk => ha.2.2.2.2 k (by have := h.gt; omega) (by have := h.gt; omega)⟩
theorem row_mono {w : World} {base base' e s n : Nat} {v : Value} {xs : List Value} (h : w.ownsRow base e s v n xs) (hb : base' ≤ base) : w.ownsRow base' e s v n xs := by
  refine ⟨h.1, ?_⟩
  rcases h.2 with h0 | ⟨g, cap, cur, hv, hg, hh, rest⟩
  · exact .inl h0
  · exact .inr ⟨g, cap, cur, hv, Nat.le_trans hb hg, hh, rest⟩
theorem PAt.sin {W w : World} {g : Nat} {v : Value} {ps : List (List UInt8)} {c : Ctl.C} (h : PAt W w g v ps c) : SIn w v ps := SIn.of_row h.row

/-- A block is set whole. -/
theorem CAt.whole {w : World} {g : Nat} {c : Ctl.C} (h : CAt w g c) (d : Ctl.C) : CAt (w.setRow g (ccells d)) g d := by
  unfold CAt at *
  simp [World.setRow, Array.getElem?_modify, h]
theorem ccells_one (c : Ctl.C) : (ccells c).all (·.oneCell') = true := by simp [ccells, Value.oneCell']
theorem Below.row {n : Nat} {W w : World} {g : Nat} (h : Below n W w) (hg : n ≤ g) (cs : Array Value) : Below n W (w.setRow g cs) := by
  refine h.trans ⟨rfl, rfl, rfl, by simp [World.setRow], fun k hk => ?_⟩
  have hne : g ≠ k := by omega
  simp [World.setRow, Array.getElem?_modify, hne]

set_option maxHeartbeats 3200000 in
set_option maxRecDepth 100000 in
theorem Parse_w (va : Value) (ls : List (List UInt8)) (w : World) (hv : SIn w va ls) (hn : ls.length ≤ 1000) (hl : ∀ l ∈ ls, l.length ≤ 1000000) (hm : MaxOk w) :
    Calls Tryd.prog 9 #[va] w fun e w' => e = .returned (cval (Ctl.parse ls)) ∧ Below w.heap.size w w' := by
  have HM := Lib.hid hm
  obtain ⟨W1, hW1⟩ : ∃ W1, W1 = w.alloc (.cells (ccells Ctl.zeroC) 25) := ⟨_, rfl⟩
  have hW1' : w.alloc (.cells #[.bool false, .bool false, .bool false, .bool false, .bool false, .bool false, .bool false, .int .i64 0, .int .i64 0, .int .i64 0, .int .i64 0] 25) = W1 := hW1.symm
  have hb1 : Below w.heap.size w W1 := by rw [hW1]; exact (Below.refl _ w).alloc (Nat.le_refl _) _
  have HS1 : Hid (W1.heap.size = w.heap.size + 1) := Lib.hid (by rw [hW1]; simp)
  have hr1 : CAt W1 w.heap.size Ctl.zeroC := by rw [hW1]; exact heap_alloc_new w _
  have hN := None_w W1
  rw [show cval Ctl.none0 = .agg #[.bool false, .bool false, .bool false, .bool false, .bool false, .bool false, .bool false, .int .i64 (-1), .int .i64 (-1), .int .i64 (-1), .int .i64 (-1)] from rfl] at hN
  have HSA := Lib.hid (fun (w2 : World) (hb : Below w.heap.size w w2) => Split_s va ls w2 (hv.later hb) hn hl)
  have hplen : (Oct.splitAll ls).length ≤ 1000001000 := by have := Oct.splitAll_len ls hl; omega
  have HPM : Hid (∀ p ∈ Oct.splitAll ls, p.length ≤ 1000000) := fun p hp => Ctl.splitAll_piece hl hp
  have HR : Hid (Ctl.parse ls = Ctl.sayAll (Oct.splitAll ls)) := Lib.hid rfl
  obtain ⟨ps, hps⟩ : ∃ ps, ps = Oct.splitAll ls := ⟨_, rfl⟩
  rw [← hps] at hplen HPM HR HSA
  clear hm hn hl hv hps hW1
  go_enter Tryd.func9, Tryd.ntmps9
  go_upto_region 1 with fail
  clear hW1'
  go_wp2_with fail
  refine hN.mono ?_
  rintro e w2 ⟨rfl, hb2⟩
  have hb2a := hb2
  have hb2 := hb1.trans (hb2.mono hb1.size)
  go_wp2_with fail
  have hb23 : Below w2.heap.size w2 (w2.alloc (.cells (ccells Ctl.none0) 25)) := (Below.refl _ w2).alloc (Nat.le_refl _) _
  have hc3 : CAt (w2.alloc (.cells (ccells Ctl.none0) 25)) w2.heap.size Ctl.none0 := heap_alloc_new w2 _
  have hs3 : (w2.alloc (.cells (ccells Ctl.none0) 25)).heap.size = w2.heap.size + 1 := by simp
  have hgt : w.heap.size < w2.heap.size := by
    have h1 := hb2a.size; have h2 : W1.heap.size = w.heap.size + 1 := HS1.out
    omega
  have hr3 := (hr1.later hb2a).later hb23
  change CAt (w2.alloc (.cells #[.bool false, .bool false, .bool false, .bool false, .bool false, .bool false, .bool false, .int .i64 (-1), .int .i64 (-1), .int .i64 (-1), .int .i64 (-1)] 25)) w.heap.size Ctl.zeroC at hr3
  change CAt (w2.alloc (.cells #[.bool false, .bool false, .bool false, .bool false, .bool false, .bool false, .bool false, .int .i64 (-1), .int .i64 (-1), .int .i64 (-1), .int .i64 (-1)] 25)) w2.heap.size Ctl.none0 at hc3
  change Below w2.heap.size w2 (w2.alloc (.cells #[.bool false, .bool false, .bool false, .bool false, .bool false, .bool false, .bool false, .int .i64 (-1), .int .i64 (-1), .int .i64 (-1), .int .i64 (-1)] 25)) at hb23
  change (w2.alloc (.cells #[.bool false, .bool false, .bool false, .bool false, .bool false, .bool false, .bool false, .int .i64 (-1), .int .i64 (-1), .int .i64 (-1), .int .i64 (-1)] 25)).heap.size = w2.heap.size + 1 at hs3
  have hb3 := hb2.trans (hb23.mono hb2.size)
  generalize w2.alloc (.cells #[.bool false, .bool false, .bool false, .bool false, .bool false, .bool false, .bool false, .int .i64 (-1), .int .i64 (-1), .int .i64 (-1), .int .i64 (-1)] 25) = W3 at *
  obtain ⟨g, hg⟩ : ∃ g, g = w2.heap.size := ⟨_, rfl⟩
  rw [← hg] at hs3 hgt hc3 ⊢
  refine (HSA.out W3 hb3).mono ?_
  rintro e w4 ⟨v, rfl, hown, hb4⟩
  rw [hs3] at hown
  have hP0 : PAt w w4 g v ps Ctl.none0 := ⟨hr3.later hb4, hc3.later hb4, hgt, row_mono hown (Nat.le_succ _), hb3.trans (hb4.mono hb3.size)⟩
  clear hg hs3 hb23 hb3 hr3 hc3 hown hb4 hb2 hb2a hN HSA hb1 hr1 hgt
  obtain ⟨ao, cp, rfl, hao⟩ := hP0.sin
  obtain ⟨n, hnn⟩ : ∃ n, n = ps.length := ⟨_, rfl⟩
  have HNN := Lib.hid hnn
  rw [← hnn] at hP0 hplen ⊢
  clear hnn
  have HG : Hid (∀ w5 c k (hk : k < n), PAt w w5 g (.slice ao n cp) ps c → ∃ b o, ao = some ⟨b, o, none⟩ ∧ w5.cell? ⟨b, o + k, none⟩ = some (.string (str (ps[k]'(by rw [← HNN.out]; exact hk))))) := by
    intro w5 c k hk hP
    obtain ⟨ao', cap', hv, h⟩ := hP.sin
    injection hv with h1 h2 h3
    subst h1
    rcases h with h | ⟨b, o, h4, h5, h6⟩
    · exfalso; rw [HNN.out, h] at hk; cases hk
    · exact ⟨b, o, h4, h6 k (by rw [← HNN.out]; exact hk)⟩
  clear hao
  go_wp2_with fail
  go_loopw [13] (fun i wr => ∃ k : Nat, k ≤ n ∧ i = .int .i64 k ∧ PAt w wr g (.slice ao n cp) ps (Ctl.sayAll (ps.take k))) (fun i _ => n - (intOf i).toNat)
  case atStart => exact ⟨0, by omega, rfl, hP0⟩
  case round =>
    clear hP0
    obtain ⟨k, hk, rfl, hP⟩ := hrel
    obtain ⟨wo, rfl⟩ : ∃ wo : World, wo = wr := ⟨_, rfl⟩
    by_cases hlt : k < n
    · have hkl : k < ps.length := by have := HNN.out; omega
      have HSn := Lib.hid (Ctl.sayAll_snoc ps k hkl)
      obtain ⟨b, o, rfl, hcell⟩ := HG.out wo _ k hlt hP
      have hD := directive_w ps[k] wo (HPM.out _ (List.getElem_mem hkl)) (HM.out.later hP.below)
      generalize hp : ps[k] = p at *
      generalize Ctl.sayAll (ps.take k) = c at *
      cases hd : Ctl.directive p with
      | none =>
        have HE := Lib.hid (Ctl.step_none (c := c) hd)
        rw [hd, show dres none = .tuple #[.string ⟨#[]⟩, .int .i64 0, .bool false] from rfl] at hD
        clear hd hp
        generalize str p = s at *
        go_wp2_with fail
        refine hD.mono ?_
        rintro e w5 ⟨rfl, hb5⟩
        have hP5 := hP.after hb5
        clear hP hcell hb5 hD
        go_wp2_with fail
        go_roundw
        case rel => exact ⟨k + 1, by omega, by go_num, by rw [HSn.out, HE.out]; exact hP5⟩
        case measure => simp [intOf]; omega
      | some x =>
        obtain ⟨nm, m⟩ := x
        have HE := Lib.hid (Ctl.step_some (c := c) hd)
        rw [hd, show dres (some (nm, m)) = .tuple #[.string (str nm), .int .i64 m, .bool true] from rfl] at hD
        have HSY := Lib.hid (fun (w5 : World) (h : CAt w5 g c) => say_w nm c m g w5 h)
        clear hd hp
        generalize str p = s at *
        generalize str nm = sn at *
        go_wp2_with fail
        refine hD.mono ?_
        rintro e w5 ⟨rfl, hb5⟩
        have hP5 := hP.after hb5
        clear hP hcell hb5 hD
        go_wp2_with fail
        refine (HSY.out w5 hP5.said).mono ?_
        rintro e w6 ⟨rfl, hc6, ha6⟩
        have hP6 := hP5.turn ha6 hc6
        clear hP5 ha6 hc6
        go_wp2_with fail
        go_roundw
        case rel => exact ⟨k + 1, by omega, by go_num, by rw [HSn.out, HE.out]; exact hP6⟩
        case measure => simp [intOf]; omega
    · obtain rfl : k = n := by omega
      have HTA : Hid (ps.take k = ps) := List.take_of_length_le (by have := HNN.out; omega)
      rw [HTA.out, ← HR.out] at hP
      obtain ⟨c, hc⟩ : ∃ c, c = Ctl.parse ls := ⟨_, rfl⟩
      rw [← hc] at hP
      have HC := Lib.hid hc
      clear hc
      have hs := hP.said
      have hr := hP.res
      have HF := Lib.hid (hP.res.whole c)
      have HB := Lib.hid (Below.row (g := w.heap.size) hP.below (Nat.le_refl _) (ccells c))
      unfold CAt at hs hr
      clear hP
      generalize hcc : ccells c = cc at *
      have hsz : cc.size = 11 := by rw [← hcc]; rfl
      have hi : (Tryd.prog.info? 25).map (·.size) = some cc.size := by rw [hsz]; kernel_rfl
      have h1 : cc.all (·.oneCell') = true := by rw [← hcc]; exact ccells_one c
      have HF : Hid ((wo.setRow w.heap.size cc).heap[w.heap.size]? = some (.cells cc 25 (0, 0))) := Lib.hid (by have h := HF.out; unfold CAt at h; rw [hcc] at h; exact h)
      go_upto_region 9 with fail
      go_wp2_with (first
        | refine wpList_load_row rfl 25 _ rfl g rfl 25 cc (0, 0) _ hs Tryd.underlying25 rfl hi ?_
        | refine wpList_store_row rfl 25 _ _ rfl w.heap.size cc rfl rfl 25 (ccells Ctl.zeroC) hr hi hsz.symm h1 ?_)
      (try simp only [Exit.inBlock, Exit.then])
      refine bodyPost_ret (v := .agg cc) ?h1 ?h2 ?h3
      case h1 => exact results_cell_row rfl _ _ w.heap.size _ cc (0, 0) _ rfl HF.out Tryd.underlying25 rfl hi
      case h2 => rfl
      case h3 => exact ⟨by unfold cval; rw [← HC.out, hcc], HB.out⟩
end Go.Proofs.YtolhhejhjjiefaaDoor
