/- The document's own device (layer 13): Write. -/
import Derived.Test.YtlipgphmhkjnpaaDoorPgD5
import Derived.Test.YtlipgphmhkjnpaaDoorDvP
namespace Go.Proofs.YtlipgphmhkjnpaaDoor
open Go.RowKit

/-- One write more. -/
theorem wts_snoc {F : Nat → Prop} {w : World} {ws : List (Nat × Value)} {wt : List (Nat × Dv.Sec)} (hl : ws.length = wt.length) (h : ∀ j (h1 : j < ws.length) (h2 : j < wt.length), ws[j].1 = wt[j].1 ∧ OIn F w ws[j].2 wt[j].2) (p : Nat) (x : Dv.Sec) (y : Value) (hy : OIn F w y x) : ∀ j (h1 : j < (ws ++ [(p, y)]).length) (h2 : j < (wt ++ [(p, x)]).length), (ws ++ [(p, y)])[j].1 = (wt ++ [(p, x)])[j].1 ∧ OIn F w (ws ++ [(p, y)])[j].2 (wt ++ [(p, x)])[j].2 := by
  intro j h1 h2
  by_cases hj : j < ws.length
  · have h := h j hj (by omega)
    rw [List.getElem_append_left hj, List.getElem_append_left (by omega)]
    exact h
  · have e : j = ws.length := by simp at h1; omega
    subst e
    rw [List.getElem_append_right (Nat.le_refl _), List.getElem_append_right (by omega)]
    simp only [Nat.sub_self, hl, List.getElem_singleton]
    exact ⟨trivial, hy⟩

theorem nil_ok' (ad : Addr) (n c : Nat) : NilOk (.slice (some ad) n c) := fun _ h => by injection h with h; cases h
set_option maxHeartbeats 6400000 in
set_option maxRecDepth 100000 in
theorem rwrite_w (w : World) (g B : Nat) (F : Nat → Prop) (vs vw vb : Value) (us : List Value) (ws : List (Nat × Value)) (d : Dv.S) (h : RMed w g F B vs vw vb us ws d) (hn : d.n ≤ 1000000) (hw : d.wait.length ≤ 100000) (at_ : Int) (v : Value) (ls : List Dv.Sec) (hv : BsOut F w v ls) (hl : ls.length ≤ 1000) (ha : -9223372036854775808 ≤ at_ ∧ at_ ≤ 9223372036854775807) :
    Calls Tryd.prog 15 #[.pointer (some ⟨g, 0, none⟩), .int .i64 at_, v] w fun e w' => e = .returned (.int .i64 (Dv.write d at_ ls).2) ∧ Touch (fun k => F k ∨ w.heap.size ≤ k) w w' ∧ ∃ vw' ws', RMed w' g (fun k => F k ∨ w.heap.size ≤ k) B vs vw' vb us ws' (Dv.write d at_ ls).1 := by
  obtain ⟨G, hG⟩ : ∃ G : Nat → Prop, G = fun k => F k ∨ w.heap.size ≤ k := ⟨_, rfl⟩
  rw [← hG]
  have hgw := lt_of_block h.blk
  have HGn : Hid (∀ k, w.heap.size ≤ k → G k) := Lib.hid (fun k hk => by rw [hG]; exact .inr hk)
  have HFG : Hid (∀ k, F k → G k) := Lib.hid (fun k hk => by rw [hG]; exact .inl hk)
  have HGB : Hid (∀ k, G k → B ≤ k) := Lib.hid (fun k hk => by
    rw [hG] at hk
    rcases hk with hk | hk
    · exact h.hB k hk
    · have := h.hB g h.hg; omega)
  have HGF : Hid (∀ k, k < w.heap.size → ¬ F k → ¬ G k) := Lib.hid (fun k hk hn hg => by rw [hG] at hg; rcases hg with h9 | h9; exact hn h9; omega)
  have HH : Hid (RMed w g G B vs vw vb us ws d) := Lib.hid (h.mono HFG.out HGB.out)
  have cC := rcall_w w g B F vs vw vb us ws d h hn
  have cT : Calls Tryd.prog 36 #[.pointer (some ⟨g, 0, none⟩), .int .i64 at_, .int .i64 (ls.length : Int)] w fun e w' => e = .returned (.bool (Dv.there d at_ ls.length)) ∧ w = w' := by
    have c0 := h.c0
    have hl0 := h.le
    obtain ⟨⟨a0, z0, hv0, hz0, hz09⟩, _⟩ := h.shapes
    rw [hv0] at c0
    exact rthere_w w g d a0 _ z0 rfl hl0 hz0 hz09 c0 at_ _ ha (by omega)
  have hle := h.le
  have hg := h.hg
  have HV := Lib.hid hv
  obtain ⟨er, her⟩ : ∃ er, er = (Dv.call d).2 := ⟨_, rfl⟩
  have HER := Lib.hid her
  rw [← her] at cC
  obtain ⟨av, cv, rfl, hcv, hcv9, hx9⟩ := hv
  have HX9 := Lib.hid hx9
  obtain ⟨m, hm⟩ : ∃ m, m = ls.length := ⟨_, rfl⟩
  have HM := Lib.hid hm
  rw [← hm] at cT hl hcv ⊢
  clear h her hx9 hm hgw hG
  cases ht : Dv.there d at_ m with
  | false =>
    have HE : Hid (Dv.write d at_ ls = (d, 2)) := Lib.hid (by unfold Dv.write; rw [if_pos (.inl (by rw [← HM.out]; exact ht))])
    rw [ht] at cT
    clear ht cC
    go_enter Tryd.func15, Tryd.ntmps15
    go_wp2_with fail
    refine cT.mono ?_
    rintro e w1 ⟨rfl, rfl⟩
    clear cT
    go_wp2_with fail
    go_ret
    exact ⟨by rw [HE.out]; rfl, Touch.refl _ _, vw, ws, by rw [HE.out]; exact HH.out⟩
  | true =>
    rw [ht] at cT
    go_enter Tryd.func15, Tryd.ntmps15
    go_wp2_with fail
    refine cT.mono ?_
    rintro e w1 ⟨rfl, rfl⟩
    clear cT
    go_wp2_with fail
    go_loopw [7] (fun i wr => ∃ k : Nat, k ≤ m ∧ i = .int .i64 k ∧ Hid (∀ j (hj : j < ls.length), j < k → ls[j].length = 64) ∧ wr = w) (fun i _ => m - (intOf i).toNat)
    case atStart => exact ⟨0, Nat.zero_le _, rfl, Lib.hid (fun j _ h => absurd h (Nat.not_lt_zero j)), rfl⟩
    case round =>
      obtain ⟨k, hk, rfl, HE0, rfl⟩ := hrel
      obtain ⟨wo, rfl⟩ : ∃ wo : World, wo = wr := ⟨_, rfl⟩
      by_cases hlt : k < m
      · have hki : (k : Int) < m := by omega
        obtain ⟨b1, o1, hx1, hl1, hF1, hc1⟩ := HX9.out.resolve_left (fun x => by have := HM.out; rw [x] at this; simp at this; omega)
        subst hx1
        have k1 : k < ls.length := by rw [← HM.out]; exact hlt
        obtain ⟨u1, f1, i1, n1⟩ := hc1 k k1
        obtain ⟨au, cu, rfl, hcu, hcu9, hx8⟩ := i1
        have HNX : Hid (ls[k].length = 64 → ∀ j (hj : j < ls.length), j < k + 1 → ls[j].length = 64) := Lib.hid (fun h j hj hjk => by
          by_cases e : j = k
          · subst e; exact h
          · exact HE0.out j hj (by omega))
        have HBAD : Hid (ls[k].length ≠ 64 → Dv.write d at_ ls = (d, 2)) := Lib.hid (fun h => by
          have hb : (ls.all fun x => decide (x.length = 64)) = false := by
            rw [← Bool.not_eq_true, List.all_eq_true]
            intro h9
            exact h (of_decide_eq_true (h9 ls[k] (List.getElem_mem k1)))
          unfold Dv.write
          rw [if_pos (.inr hb)])
        clear hc1 n1 hx8
        generalize ls[k].length = q at *
        by_cases hm : q = 64
        · subst hm
          go_wp2_with fail
          go_roundw
          case rel => exact ⟨k + 1, by omega, by go_num, Lib.hid (HNX.out rfl), trivial⟩
          case measure => simp [intOf]; omega
        · have hmi : ((q : Int) != 64) = true := by rw [bne, beq_eq_false_iff_ne.2 (by omega)]; rfl
          have hmi2 : ¬ (q : Int) = 64 := by omega
          have HE := Lib.hid (HBAD.out hm)
          clear HBAD HNX hm
          go_wp2_with fail
          go_ret
          exact ⟨by rw [HE.out]; rfl, Touch.refl _ _, vw, ws, by rw [HE.out]; exact HH.out⟩
      · have hki : ¬ (k : Int) < m := by omega
        have H64 : Hid (∀ x ∈ ls, x.length = 64) := Lib.hid (fun x hx => by
          obtain ⟨j, hj, rfl⟩ := List.getElem_of_mem hx
          exact HE0.out j hj (by have := HM.out; omega))
        have HW := Lib.hid (write_head d at_ ls (by rw [← HM.out]; exact ht) (List.all_eq_true.2 (fun x hx => decide_eq_true (H64.out x hx))))
        clear hlt hk
        go_wp2_with fail
        refine cC.mono ?_
        rintro e w1 ⟨rfl, ht1, hM1⟩
        have HT1 : Hid (Touch G wo w1) := Lib.hid (ht1.mono (fun k9 _ hk9 => by rw [hk9]; exact HFG.out g hg))
        have HM1 := Lib.hid (hM1.mono HFG.out HGB.out)
        clear ht1 hM1 cC
        by_cases h0 : er = 0
        · have HE : Hid (Dv.write d at_ ls = ({ (Dv.call d).1 with wait := d.wait ++ Dv.lay at_.toNat ls }, 0)) := Lib.hid (by rw [HW.out, if_neg (by rw [← HER.out]; exact fun h => h h0)])
          subst h0
          have hth : 0 ≤ at_ ∧ 0 ≤ (m : Int) ∧ at_ ≤ d.safe.length ∧ (m : Int) ≤ d.safe.length - at_ := by unfold Dv.there at ht; exact of_decide_eq_true ht
          obtain ⟨a, ha'⟩ : ∃ a : Nat, at_ = (a : Int) := ⟨at_.toNat, by omega⟩
          subst ha'
          have hak : a + m ≤ 65536 := by omega
          have HAK : Hid (a + m ≤ d.safe.length) := Lib.hid (by omega)
          obtain ⟨D, hD⟩ : ∃ D, D = (Dv.call d).1 := ⟨_, rfl⟩
          have HD := Lib.hid hD
          obtain ⟨e1, e2, e3⟩ := Dv.call_same d
          rw [← hD] at HM1 e1 e2 e3
          have HE2 := Lib.hid (And.intro e1 (And.intro e2 e3))
          clear hth ht hD e1 e2 e3 HW
          go_wp2_with fail
          go_loopw [9] (fun i wx => ∃ j : Nat, j ≤ m ∧ i = .int .i64 j ∧ Touch G wo wx ∧ ∃ vw' ws', RMed wx g G B vs vw' vb us ws' { D with wait := d.wait ++ Dv.lay a (ls.take j) }) (fun i _ => m - (intOf i).toNat)
          case atStart => exact ⟨0, Nat.zero_le _, rfl, HT1.out, vw, ws, by
            have e : ({ D with wait := d.wait ++ Dv.lay a (ls.take 0) } : Dv.S) = D := by simp only [List.take_zero, Dv.lay, List.append_nil]; rw [← HE2.out.2.1]
            rw [e]; exact HM1.out⟩
          case round =>
            clear HM1 HT1
            obtain ⟨j, hj, rfl, hT0, vwj, wsK, hMj⟩ := hrel
            by_cases hlt : j < m
            · have hji : (j : Int) < m := by omega
              have hjl : j < ls.length := by rw [← HM.out]; exact hlt
              obtain ⟨b, o, cap, bk, ok, ck, hve, hc1, hc2, hck, hck9, hbk, hsrc⟩ := HV.out.at_ (wr := wr) (fun q hq hF => hT0.block q hq (HGF.out q hq hF)) j hjl (H64.out _ (List.getElem_mem hjl))
              rw [← HM.out] at hve
              cases hve
              obtain ⟨x, hx⟩ : ∃ x, x = ls[j] := ⟨_, rfl⟩
              have hx64 : x.length = 64 := by rw [hx]; exact H64.out _ (List.getElem_mem hjl)
              have HT := Lib.hid hT0
              have HM0' := hMj
              obtain ⟨p, hp⟩ : ∃ p, p = a + j := ⟨_, rfl⟩
              have hw1 : IntKind.i64.wrap ((a : Int) + j) = (p : Int) := by rw [IntKind.wrap_i64]; omega
              have HP := Lib.hid hp
              obtain ⟨DK, hDK⟩ : ∃ DK : Dv.S, DK = { D with wait := d.wait ++ Dv.lay a (ls.take j) } := ⟨_, rfl⟩
              rw [← hDK] at hMj
              have hwlk : DK.wait.length ≤ 101000 := by
                rw [hDK]
                show (d.wait ++ Dv.lay a (ls.take j)).length ≤ 101000
                rw [List.length_append, Dv.lay_length, List.length_take]; have := HM.out; omega
              have hwsl : wsK.length ≤ 101000 := by rw [hMj.lws]; exact hwlk
              have HGW : Hid (∀ y ∈ DK.wait ++ [(p, x)], y.1 < DK.safe.length ∧ y.2.length = 64) := Lib.hid (fun y hy => by
                rcases List.mem_append.1 hy with h | h
                · exact hMj.gW y h
                · rw [List.mem_singleton.1 h]
                  refine ⟨?_, hx64⟩
                  show p < DK.safe.length
                  rw [hDK]
                  show p < D.safe.length
                  rw [HE2.out.1]
                  have := HAK.out
                  omega)
              have HLY : Hid (({ D with wait := d.wait ++ Dv.lay a (ls.take (j + 1)) } : Dv.S) = { DK with wait := DK.wait ++ [(p, x)] }) := Lib.hid (by
                rw [hDK, List.take_succ_eq_append_getElem hjl, Dv.lay_snoc, List.length_take, Nat.min_eq_left (Nat.le_of_lt hjl), hx, hp, List.append_assoc])
              obtain ⟨va, vc, hvw, hvn, hvc⟩ := own_shape hMj.wait
              obtain ⟨vn, hvn9⟩ : ∃ vn, vn = wsK.length := ⟨_, rfl⟩
              rw [← hvn9] at hvw
              subst hvw
              have HM0 := Lib.hid hMj
              have HBI : Hid (∀ W9, Below wr.heap.size wr W9 → BIn W9 (.slice (some ⟨bk, ok, none⟩) 64 ck) x) := Lib.hid (fun W9 h9 => by
                refine ⟨_, ck, by rw [hx64], by rw [hx64]; exact hck, hck9, .inr ⟨bk, ok, rfl, Nat.lt_of_lt_of_le hbk (Nat.le_trans hT0.size h9.size), fun i hi => ?_⟩⟩
                have h8 := hsrc i (.int .u8 (x[i].toNat : Int)) (by rw [← hx]; simp [Lib.byteCells, hi])
                rw [Addr.add_lit] at h8
                rw [h9.cell (p := ⟨bk, ok + i, none⟩) (World.block_lt_of_cell? wr _ h8)]
                exact h8)
              have HNO : Hid (NilOk (.slice (some ⟨bk, ok, none⟩) 64 ck)) := Lib.hid (nil_ok' _ _ _)
              have HNB : Hid (¬ G b) := Lib.hid (by
                rcases HX9.out with h9 | ⟨b9, o9, e9, hb9, hF9, _⟩
                · rw [h9] at hjl; cases hjl
                · cases e9; exact HGF.out _ hb9 hF9)
              obtain ⟨ii, hii, hz3, hsz, hbb⟩ : ∃ ii, Tryd.prog.info? 84 = some ii ∧ ii.zero.map (·.cells.size) = some 2 ∧ ii.size = 2 ∧ ii.bytes = 32 := by
                have h9 := rwrite_info
                cases hi : Tryd.prog.info? 84 with
                | none => rw [hi] at h9; cases h9
                | some ii => rw [hi] at h9; simp only [Option.map_some, Option.some.injEq, Prod.mk.injEq] at h9; exact ⟨ii, rfl, h9⟩
              obtain ⟨zz, hzz, hzc⟩ : ∃ zz, ii.zero = some zz ∧ zz.cells.size = 2 := by
                cases h9 : ii.zero with
                | none => rw [h9] at hz3; cases hz3
                | some zz => rw [h9] at hz3; exact ⟨zz, rfl, by simpa using hz3⟩
              clear hx hT0 hMj HM0' hp hDK hvn9 hz3 hsrc hwlk
              go_upto_region 14 with fail
              refine wp_region_noPanic ?_
              refine wp_region_held (S := fun W9 => W9.cell? ⟨b, o + j, none⟩ = some (.slice (some ⟨bk, ok, none⟩) 64 ck)) (by kernel_rfl) ?_
              change wpAnyH _ _ _ _ _ _ _ _ wr.drew
              have hb0 : Below wr.heap.size wr wr.drew := (Below.refl _ wr).drew
              have HC := fun W9 (h9 : Below wr.heap.size wr W9) => cell_later h9 hc2
              have HCK := Lib.hid HC
              have s0 := HC _ hb0
              generalize wr.drew = w4 at hb0 s0 ⊢
              clear hc2 HC
              refine held_of_takes (fuel := 9) (by kernel_rfl) (fun _ _ _ _ _ h => h) s0 [0, 1, 2, 3, 5, 6, 7, 9, 10, 11, 12] _ _ (by kernel_rfl) ?_
              refine Takes.val (.pointer (some ⟨g, 0, none⟩)) rfl rfl (fun _ _ => by kernel_rfl) ?_
              refine Takes.val (.pointer (some ⟨g, 0, none⟩)) rfl rfl (fun _ _ => by kernel_rfl) ?_
              refine Takes.val (.pointer (some ⟨g, 0, none⟩)) rfl rfl (fun _ _ => by kernel_rfl) ?_
              refine Takes.val (.pointer (some ⟨g, 1, none⟩)) rfl rfl (fun _ _ => by kernel_rfl) ?_
              refine Takes.val (.int .i64 (a : Int)) rfl rfl (fun _ _ => by kernel_rfl) ?_
              refine Takes.val (.int .i64 (j : Int)) rfl rfl (fun _ _ => by kernel_rfl) ?_
              refine Takes.val (.int .i64 (p : Int)) rfl rfl (fun W9 _ => by go_simp) ?_
              refine Takes.val (.slice (some ⟨b, o, none⟩) m cv) rfl rfl (fun _ _ => by kernel_rfl) ?_
              refine Takes.val (.int .i64 (j : Int)) rfl rfl (fun _ _ => by kernel_rfl) ?_
              refine Takes.val (.pointer (some ⟨b, o + j, none⟩)) rfl rfl (fun W9 _ => by go_simp) ?_
              refine Takes.val (.slice (some ⟨bk, ok, none⟩) 64 ck) rfl rfl (fun W9 h9 => exec_load (s := 50) rfl (by kernel_rfl) (load_octs h9)) ?_
              refine wpAnyH_all (rs := [4, 8]) (by kernel_rfl) (by simp) (fun i hi => ?_)
              simp only [List.mem_cons, List.not_mem_nil, or_false] at hi
              rcases hi with rfl | rfl
              · refine wpOp_make (v := .slice va vn vc) (w' := w4) rfl rfl (exec_load (s := 42) rfl (by kernel_rfl) (load_rwaits (HM0.out.later hb0).c1)) ⟨HCK.out _ hb0, ?_⟩
                refine wpAnyH_all (rs := [8]) (by kernel_rfl) (by simp) (fun i hi => ?_)
                obtain rfl := List.mem_singleton.1 hi
                refine wpOp_make (v := .slice (some ⟨w4.heap.size, 0, none⟩) 0 0) (w' := w4.alloc (.cells #[] 5)) rfl rfl (by kernel_rfl) ⟨HCK.out _ (hb0.alloc hb0.size _), ?_⟩
                refine wpAnyH_all (rs := [13]) (by kernel_rfl) (by simp) (fun i hi => ?_)
                obtain rfl := List.mem_singleton.1 hi
                have hbuf : Buf w4 (w4.alloc (.cells #[] 5)) (.slice (some ⟨w4.heap.size, 0, none⟩) 0 0) [] := Buf.none_ w4 w4 (Below.refl _ w4)
                have hbx := hb0.alloc hb0.size (.cells #[] 5)
                refine wpOp_plain rfl rfl (wp_append_octets hbuf (HBI.out _ hbx) HNO.out (by simp; omega) (.tmp 47) (.tmp 51) rfl (by kernel_rfl) (by kernel_rfl) (fun v5 w5 hB5 hN5 => ?_))
                have hb5 : Below wr.heap.size wr w5 := hb0.trans (hB5.below.mono hb0.size)
                rw [List.nil_append] at hB5
                have hv5 : v5 ≠ .slice none 0 0 := hN5 (fun e => by cases e)
                have ho5 := hB5.oin (F := G) (by intro e; rw [e] at hx64; cases hx64) (fun k9 hk9 => HGn.out k9 (Nat.le_trans (Nat.le_trans HT.out.size hb0.size) hk9))
                have hob : ∃ q5 c5, v5 = .slice (some ⟨q5, 0, none⟩) x.length c5 := by
                  rcases hB5.1.2 with ⟨h0, _⟩ | ⟨q5, c5, _, h0, _⟩
                  · exact absurd h0 hv5
                  · exact ⟨q5, c5, h0⟩
                obtain ⟨q5, c5, rfl⟩ := hob
                refine ⟨HCK.out _ hb5, ?_⟩
                clear hbuf hbx hB5 hN5 hv5
                refine held_of_takes (fuel := 5) (by kernel_rfl) (fun _ _ _ _ _ h => h) (HCK.out _ hb5) [14] _ _ (by kernel_rfl) ?_
                refine Takes.val (.agg #[.int .i64 (p : Int), .slice (some ⟨q5, 0, none⟩) x.length c5]) rfl rfl (fun _ _ => by kernel_rfl) ?_
                refine wpAnyH_all (rs := [15]) (by kernel_rfl) (by simp) (fun i hi => ?_)
                obtain rfl := List.mem_singleton.1 hi
                have hb6 : Below wr.heap.size wr (w5.alloc (.cells #[.int .i64 (p : Int), .slice (some ⟨q5, 0, none⟩) x.length c5] 84)) := hb5.alloc hb5.size _
                refine wpOp_make (v := .slice (some ⟨w5.heap.size, 0, none⟩) 1 1) (w' := w5.alloc (.cells #[.int .i64 (p : Int), .slice (some ⟨q5, 0, none⟩) x.length c5] 84)) rfl rfl (by kernel_rfl) ⟨HCK.out _ hb6, ?_⟩
                have hr6 := heap_alloc_new w5 (.cells #[.int .i64 (p : Int), .slice (some ⟨q5, 0, none⟩) x.length c5] 84)
                have ho6 := ho5.keep (w' := w5.alloc (.cells #[.int .i64 (p : Int), .slice (some ⟨q5, 0, none⟩) x.length c5] 84)) (fun _ hf => hf) (fun k9 _ _ _ hb9 => ((Below.refl _ w5).alloc (Nat.le_refl _) _).block k9 (lt_of_block hb9))
                generalize w5.alloc (.cells #[.int .i64 (p : Int), .slice (some ⟨q5, 0, none⟩) x.length c5] 84) = w6 at hb6 hr6 ho6 ⊢
                generalize w5.heap.size = r at hr6 ⊢
                clear ho5 hb5
                have hM6 := HM0.out.later hb6
                refine wpAnyH_all (rs := [16]) (by kernel_rfl) (by simp) (fun i hi => ?_)
                obtain rfl := List.mem_singleton.1 hi
                refine wpOp_plain rfl rfl (wp_append_whose w6 (.tmp 43) (.tmp 54) 79 rfl 84 ii zz 2 32 Tryd.underlying79 hii hzz hsz hbb hzc (by decide) (.slice va vn vc) wsK.length (wsK.flatMap rwcells) (by kernel_rfl) hM6.wait ⟨r, 0, none⟩ 1 1 [.int .i64 (p : Int), .slice (some ⟨q5, 0, none⟩) x.length c5] (by kernel_rfl) rfl (fun j9 u9 hj9 => by
                  rw [Addr.add_lit, Nat.zero_add]
                  simp only [World.cell?, hr6]
                  match j9, hj9 with
                  | 0, hj9 => simpa using hj9
                  | 1, hj9 => simpa using hj9) (fun u9 hu9 => by
                  rcases List.mem_cons.1 hu9 with rfl | hu9
                  · rfl
                  · rw [List.mem_singleton.1 hu9]; rfl) (by unfold maxLen; omega) (by omega) (fun v7 w7 ho7 hg7 hk7 => ?_))
                have hs7 : w7.cell? ⟨b, o + j, none⟩ = some (.slice (some ⟨bk, ok, none⟩) 64 ck) := by
                  have h9 := HCK.out _ hb6
                  refine (hg7.cell (a := ⟨b, o + j, none⟩) h9 (fun e => ?_))
                  exact HNB.out (HM0.out.hw b e.symm)
                refine ⟨hs7, ?_⟩
                have hX7 := hM6.grown_waits hg7
                have hT7 : Touch G wr w7 := by
                  refine ⟨hg7.os.trans hb6.os, hg7.tape.trans hb6.tape, hg7.output.trans hb6.output, Nat.le_trans hb6.size hg7.size, fun k2 hk2 hn2 => ?_⟩
                  rw [hg7.block k2 (Nat.lt_of_lt_of_le hk2 hb6.size) (fun e => hn2 (HM0.out.hw k2 e.symm)), hb6.block k2 hk2]
                have hW7 : w7.ownsRow 0 84 2 v7 (wsK ++ [(p, Value.slice (some ⟨q5, 0, none⟩) x.length c5)]).length ((wsK ++ [(p, Value.slice (some ⟨q5, 0, none⟩) x.length c5)]).flatMap rwcells) := by
                  rw [List.length_append, List.flatMap_append]
                  exact ho7
                obtain ⟨va7, vc7, rfl, _, _⟩ := own_shape hW7
                refine held_of_takes (fuel := 1) (by kernel_rfl) (fun _ _ _ _ _ h => h) hs7 [17, 18] _ _ (by kernel_rfl) ?_
                refine Takes.val (.pointer (some ⟨g, 0, none⟩)) rfl rfl (fun _ _ => by kernel_rfl) ?_
                refine Takes.val (.pointer (some ⟨g, 1, none⟩)) rfl rfl (fun _ _ => by kernel_rfl) ?_
                refine wpAnyH_all (rs := [19]) (by kernel_rfl) (by simp) (fun i hi => ?_)
                obtain rfl := List.mem_singleton.1 hi
                refine wpOp_known (.store 79 (.tmp 57) (.tmp 55)) none (by kernel_rfl) (fun _ e1 e2 => wp_store_one (p := .pointer (some ⟨g, 1, none⟩)) (v := .slice va7 (wsK ++ [(p, Value.slice (some ⟨q5, 0, none⟩) x.length c5)]).length vc7) (w' := w7.setCell ⟨g, 1, none⟩ (.slice va7 (wsK ++ [(p, Value.slice (some ⟨q5, 0, none⟩) x.length c5)]).length vc7)) e1 (by kernel_rfl) (by kernel_rfl) (store_rwaits hX7.1 hX7.2.1) ?_)
                rw [e2]
                have hM8 := hX7.2.2 _ (wsK ++ [(p, Value.slice (some ⟨q5, 0, none⟩) x.length c5)]) (DK.wait ++ [(p, x)]) hW7 (by rw [List.length_append, List.length_append, hM6.lws]; rfl) (wts_snoc hM6.lws hM6.wts p x _ ho6) (fun k3 hk3 => by
                  rcases hk7 k3 hk3 with h9 | h9
                  · exact HM0.out.hw k3 h9
                  · exact HGn.out k3 (Nat.le_trans (Nat.le_trans HT.out.size hb6.size) h9)) HGW.out
                have hs8 : (w7.setCell ⟨g, 1, none⟩ (.slice va7 (wsK ++ [(p, Value.slice (some ⟨q5, 0, none⟩) x.length c5)]).length vc7)).cell? ⟨b, o + j, none⟩ = some (.slice (some ⟨bk, ok, none⟩) 64 ck) := by
                  rw [World.cell?_of_block (a := ⟨b, o + j, none⟩) (heap_setCell_other w7 ⟨g, 1, none⟩ b _ (fun e => HNB.out (by have e9 : b = g := e; rw [e9]; exact HM0.out.hg)))]
                  exact hs7
                have hT8 := hT7.trans (Touch.cell HM0.out.hg 1 (.slice va7 (wsK ++ [(p, Value.slice (some ⟨q5, 0, none⟩) x.length c5)]).length vc7))
                generalize w7.setCell ⟨g, 1, none⟩ (.slice va7 (wsK ++ [(p, Value.slice (some ⟨q5, 0, none⟩) x.length c5)]).length vc7) = w8 at hM8 hs8 hT8 ⊢
                refine ⟨hs8, ?_⟩
                refine wpAnyH_done (P := Tryd.prog) (by kernel_rfl) ?_ 0
                refine NoPanic.normal ?_
                have HM8 := Lib.hid hM8
                have HT8 := Lib.hid hT8
                clear hM8 hs8 hT8 hT7 hW7 hX7 ho7 hg7 hk7 hM6 hs7 ho6 hr6 hb6
                go_simp
                go_wp2_with fail
                go_roundw
                case rel =>
                  have h9 := HM8.out
                  rw [← HLY.out] at h9
                  exact ⟨j + 1, by omega, by go_num, HT.out.trans HT8.out, _, _, h9⟩
                case measure => simp [intOf]; omega
              · refine wpOp_make (v := .slice (some ⟨w4.heap.size, 0, none⟩) 0 0) (w' := w4.alloc (.cells #[] 5)) rfl rfl (by kernel_rfl) ⟨HCK.out _ (hb0.alloc hb0.size _), ?_⟩
                refine wpAnyH_all (rs := [4, 13]) (by kernel_rfl) (by simp) (fun i hi => ?_)
                simp only [List.mem_cons, List.not_mem_nil, or_false] at hi
                rcases hi with rfl | rfl
                · refine wpOp_make (v := .slice va vn vc) (w' := (w4.alloc (.cells #[] 5))) rfl rfl (exec_load (s := 42) rfl (by kernel_rfl) (load_rwaits (HM0.out.later (hb0.alloc hb0.size _)).c1)) ⟨HCK.out _ (hb0.alloc hb0.size _), ?_⟩
                  refine wpAnyH_all (rs := [13]) (by kernel_rfl) (by simp) (fun i hi => ?_)
                  obtain rfl := List.mem_singleton.1 hi
                  have hbuf : Buf w4 (w4.alloc (.cells #[] 5)) (.slice (some ⟨w4.heap.size, 0, none⟩) 0 0) [] := Buf.none_ w4 w4 (Below.refl _ w4)
                  have hbx := hb0.alloc hb0.size (.cells #[] 5)
                  refine wpOp_plain rfl rfl (wp_append_octets hbuf (HBI.out _ hbx) HNO.out (by simp; omega) (.tmp 47) (.tmp 51) rfl (by kernel_rfl) (by kernel_rfl) (fun v5 w5 hB5 hN5 => ?_))
                  have hb5 : Below wr.heap.size wr w5 := hb0.trans (hB5.below.mono hb0.size)
                  rw [List.nil_append] at hB5
                  have hv5 : v5 ≠ .slice none 0 0 := hN5 (fun e => by cases e)
                  have ho5 := hB5.oin (F := G) (by intro e; rw [e] at hx64; cases hx64) (fun k9 hk9 => HGn.out k9 (Nat.le_trans (Nat.le_trans HT.out.size hb0.size) hk9))
                  have hob : ∃ q5 c5, v5 = .slice (some ⟨q5, 0, none⟩) x.length c5 := by
                    rcases hB5.1.2 with ⟨h0, _⟩ | ⟨q5, c5, _, h0, _⟩
                    · exact absurd h0 hv5
                    · exact ⟨q5, c5, h0⟩
                  obtain ⟨q5, c5, rfl⟩ := hob
                  refine ⟨HCK.out _ hb5, ?_⟩
                  clear hbuf hbx hB5 hN5 hv5
                  refine held_of_takes (fuel := 5) (by kernel_rfl) (fun _ _ _ _ _ h => h) (HCK.out _ hb5) [14] _ _ (by kernel_rfl) ?_
                  refine Takes.val (.agg #[.int .i64 (p : Int), .slice (some ⟨q5, 0, none⟩) x.length c5]) rfl rfl (fun _ _ => by kernel_rfl) ?_
                  refine wpAnyH_all (rs := [15]) (by kernel_rfl) (by simp) (fun i hi => ?_)
                  obtain rfl := List.mem_singleton.1 hi
                  have hb6 : Below wr.heap.size wr (w5.alloc (.cells #[.int .i64 (p : Int), .slice (some ⟨q5, 0, none⟩) x.length c5] 84)) := hb5.alloc hb5.size _
                  refine wpOp_make (v := .slice (some ⟨w5.heap.size, 0, none⟩) 1 1) (w' := w5.alloc (.cells #[.int .i64 (p : Int), .slice (some ⟨q5, 0, none⟩) x.length c5] 84)) rfl rfl (by kernel_rfl) ⟨HCK.out _ hb6, ?_⟩
                  have hr6 := heap_alloc_new w5 (.cells #[.int .i64 (p : Int), .slice (some ⟨q5, 0, none⟩) x.length c5] 84)
                  have ho6 := ho5.keep (w' := w5.alloc (.cells #[.int .i64 (p : Int), .slice (some ⟨q5, 0, none⟩) x.length c5] 84)) (fun _ hf => hf) (fun k9 _ _ _ hb9 => ((Below.refl _ w5).alloc (Nat.le_refl _) _).block k9 (lt_of_block hb9))
                  generalize w5.alloc (.cells #[.int .i64 (p : Int), .slice (some ⟨q5, 0, none⟩) x.length c5] 84) = w6 at hb6 hr6 ho6 ⊢
                  generalize w5.heap.size = r at hr6 ⊢
                  clear ho5 hb5
                  have hM6 := HM0.out.later hb6
                  refine wpAnyH_all (rs := [16]) (by kernel_rfl) (by simp) (fun i hi => ?_)
                  obtain rfl := List.mem_singleton.1 hi
                  refine wpOp_plain rfl rfl (wp_append_whose w6 (.tmp 43) (.tmp 54) 79 rfl 84 ii zz 2 32 Tryd.underlying79 hii hzz hsz hbb hzc (by decide) (.slice va vn vc) wsK.length (wsK.flatMap rwcells) (by kernel_rfl) hM6.wait ⟨r, 0, none⟩ 1 1 [.int .i64 (p : Int), .slice (some ⟨q5, 0, none⟩) x.length c5] (by kernel_rfl) rfl (fun j9 u9 hj9 => by
                    rw [Addr.add_lit, Nat.zero_add]
                    simp only [World.cell?, hr6]
                    match j9, hj9 with
                    | 0, hj9 => simpa using hj9
                    | 1, hj9 => simpa using hj9) (fun u9 hu9 => by
                    rcases List.mem_cons.1 hu9 with rfl | hu9
                    · rfl
                    · rw [List.mem_singleton.1 hu9]; rfl) (by unfold maxLen; omega) (by omega) (fun v7 w7 ho7 hg7 hk7 => ?_))
                  have hs7 : w7.cell? ⟨b, o + j, none⟩ = some (.slice (some ⟨bk, ok, none⟩) 64 ck) := by
                    have h9 := HCK.out _ hb6
                    refine (hg7.cell (a := ⟨b, o + j, none⟩) h9 (fun e => ?_))
                    exact HNB.out (HM0.out.hw b e.symm)
                  refine ⟨hs7, ?_⟩
                  have hX7 := hM6.grown_waits hg7
                  have hT7 : Touch G wr w7 := by
                    refine ⟨hg7.os.trans hb6.os, hg7.tape.trans hb6.tape, hg7.output.trans hb6.output, Nat.le_trans hb6.size hg7.size, fun k2 hk2 hn2 => ?_⟩
                    rw [hg7.block k2 (Nat.lt_of_lt_of_le hk2 hb6.size) (fun e => hn2 (HM0.out.hw k2 e.symm)), hb6.block k2 hk2]
                  have hW7 : w7.ownsRow 0 84 2 v7 (wsK ++ [(p, Value.slice (some ⟨q5, 0, none⟩) x.length c5)]).length ((wsK ++ [(p, Value.slice (some ⟨q5, 0, none⟩) x.length c5)]).flatMap rwcells) := by
                    rw [List.length_append, List.flatMap_append]
                    exact ho7
                  obtain ⟨va7, vc7, rfl, _, _⟩ := own_shape hW7
                  refine held_of_takes (fuel := 1) (by kernel_rfl) (fun _ _ _ _ _ h => h) hs7 [17, 18] _ _ (by kernel_rfl) ?_
                  refine Takes.val (.pointer (some ⟨g, 0, none⟩)) rfl rfl (fun _ _ => by kernel_rfl) ?_
                  refine Takes.val (.pointer (some ⟨g, 1, none⟩)) rfl rfl (fun _ _ => by kernel_rfl) ?_
                  refine wpAnyH_all (rs := [19]) (by kernel_rfl) (by simp) (fun i hi => ?_)
                  obtain rfl := List.mem_singleton.1 hi
                  refine wpOp_known (.store 79 (.tmp 57) (.tmp 55)) none (by kernel_rfl) (fun _ e1 e2 => wp_store_one (p := .pointer (some ⟨g, 1, none⟩)) (v := .slice va7 (wsK ++ [(p, Value.slice (some ⟨q5, 0, none⟩) x.length c5)]).length vc7) (w' := w7.setCell ⟨g, 1, none⟩ (.slice va7 (wsK ++ [(p, Value.slice (some ⟨q5, 0, none⟩) x.length c5)]).length vc7)) e1 (by kernel_rfl) (by kernel_rfl) (store_rwaits hX7.1 hX7.2.1) ?_)
                  rw [e2]
                  have hM8 := hX7.2.2 _ (wsK ++ [(p, Value.slice (some ⟨q5, 0, none⟩) x.length c5)]) (DK.wait ++ [(p, x)]) hW7 (by rw [List.length_append, List.length_append, hM6.lws]; rfl) (wts_snoc hM6.lws hM6.wts p x _ ho6) (fun k3 hk3 => by
                    rcases hk7 k3 hk3 with h9 | h9
                    · exact HM0.out.hw k3 h9
                    · exact HGn.out k3 (Nat.le_trans (Nat.le_trans HT.out.size hb6.size) h9)) HGW.out
                  have hs8 : (w7.setCell ⟨g, 1, none⟩ (.slice va7 (wsK ++ [(p, Value.slice (some ⟨q5, 0, none⟩) x.length c5)]).length vc7)).cell? ⟨b, o + j, none⟩ = some (.slice (some ⟨bk, ok, none⟩) 64 ck) := by
                    rw [World.cell?_of_block (a := ⟨b, o + j, none⟩) (heap_setCell_other w7 ⟨g, 1, none⟩ b _ (fun e => HNB.out (by have e9 : b = g := e; rw [e9]; exact HM0.out.hg)))]
                    exact hs7
                  have hT8 := hT7.trans (Touch.cell HM0.out.hg 1 (.slice va7 (wsK ++ [(p, Value.slice (some ⟨q5, 0, none⟩) x.length c5)]).length vc7))
                  generalize w7.setCell ⟨g, 1, none⟩ (.slice va7 (wsK ++ [(p, Value.slice (some ⟨q5, 0, none⟩) x.length c5)]).length vc7) = w8 at hM8 hs8 hT8 ⊢
                  refine ⟨hs8, ?_⟩
                  refine wpAnyH_done (P := Tryd.prog) (by kernel_rfl) ?_ 0
                  refine NoPanic.normal ?_
                  have HM8 := Lib.hid hM8
                  have HT8 := Lib.hid hT8
                  clear hM8 hs8 hT8 hT7 hW7 hX7 ho7 hg7 hk7 hM6 hs7 ho6 hr6 hb6
                  go_simp
                  go_wp2_with fail
                  go_roundw
                  case rel =>
                    have h9 := HM8.out
                    rw [← HLY.out] at h9
                    exact ⟨j + 1, by omega, by go_num, HT.out.trans HT8.out, _, _, h9⟩
                  case measure => simp [intOf]; omega
                · have hbuf : Buf w4 (w4.alloc (.cells #[] 5)) (.slice (some ⟨w4.heap.size, 0, none⟩) 0 0) [] := Buf.none_ w4 w4 (Below.refl _ w4)
                  have hbx := hb0.alloc hb0.size (.cells #[] 5)
                  refine wpOp_plain rfl rfl (wp_append_octets hbuf (HBI.out _ hbx) HNO.out (by simp; omega) (.tmp 47) (.tmp 51) rfl (by kernel_rfl) (by kernel_rfl) (fun v5 w5 hB5 hN5 => ?_))
                  have hb5 : Below wr.heap.size wr w5 := hb0.trans (hB5.below.mono hb0.size)
                  rw [List.nil_append] at hB5
                  have hv5 : v5 ≠ .slice none 0 0 := hN5 (fun e => by cases e)
                  have ho5 := hB5.oin (F := G) (by intro e; rw [e] at hx64; cases hx64) (fun k9 hk9 => HGn.out k9 (Nat.le_trans (Nat.le_trans HT.out.size hb0.size) hk9))
                  have hob : ∃ q5 c5, v5 = .slice (some ⟨q5, 0, none⟩) x.length c5 := by
                    rcases hB5.1.2 with ⟨h0, _⟩ | ⟨q5, c5, _, h0, _⟩
                    · exact absurd h0 hv5
                    · exact ⟨q5, c5, h0⟩
                  obtain ⟨q5, c5, rfl⟩ := hob
                  refine ⟨HCK.out _ hb5, ?_⟩
                  clear hbuf hbx hB5 hN5 hv5
                  refine held_of_takes (fuel := 6) (by kernel_rfl) (fun _ _ _ _ _ h => h) (HCK.out _ hb5) [14] _ _ (by kernel_rfl) ?_
                  refine Takes.val (.agg #[.int .i64 (p : Int), .slice (some ⟨q5, 0, none⟩) x.length c5]) rfl rfl (fun _ _ => by kernel_rfl) ?_
                  refine wpAnyH_all (rs := [4, 15]) (by kernel_rfl) (by simp) (fun i hi => ?_)
                  simp only [List.mem_cons, List.not_mem_nil, or_false] at hi
                  rcases hi with rfl | rfl
                  · refine wpOp_make (v := .slice va vn vc) (w' := w5) rfl rfl (exec_load (s := 42) rfl (by kernel_rfl) (load_rwaits (HM0.out.later hb5).c1)) ⟨HCK.out _ hb5, ?_⟩
                    refine wpAnyH_all (rs := [15]) (by kernel_rfl) (by simp) (fun i hi => ?_)
                    obtain rfl := List.mem_singleton.1 hi
                    have hb6 : Below wr.heap.size wr (w5.alloc (.cells #[.int .i64 (p : Int), .slice (some ⟨q5, 0, none⟩) x.length c5] 84)) := hb5.alloc hb5.size _
                    refine wpOp_make (v := .slice (some ⟨w5.heap.size, 0, none⟩) 1 1) (w' := w5.alloc (.cells #[.int .i64 (p : Int), .slice (some ⟨q5, 0, none⟩) x.length c5] 84)) rfl rfl (by kernel_rfl) ⟨HCK.out _ hb6, ?_⟩
                    have hr6 := heap_alloc_new w5 (.cells #[.int .i64 (p : Int), .slice (some ⟨q5, 0, none⟩) x.length c5] 84)
                    have ho6 := ho5.keep (w' := w5.alloc (.cells #[.int .i64 (p : Int), .slice (some ⟨q5, 0, none⟩) x.length c5] 84)) (fun _ hf => hf) (fun k9 _ _ _ hb9 => ((Below.refl _ w5).alloc (Nat.le_refl _) _).block k9 (lt_of_block hb9))
                    generalize w5.alloc (.cells #[.int .i64 (p : Int), .slice (some ⟨q5, 0, none⟩) x.length c5] 84) = w6 at hb6 hr6 ho6 ⊢
                    generalize w5.heap.size = r at hr6 ⊢
                    clear ho5 hb5
                    have hM6 := HM0.out.later hb6
                    refine wpAnyH_all (rs := [16]) (by kernel_rfl) (by simp) (fun i hi => ?_)
                    obtain rfl := List.mem_singleton.1 hi
                    refine wpOp_plain rfl rfl (wp_append_whose w6 (.tmp 43) (.tmp 54) 79 rfl 84 ii zz 2 32 Tryd.underlying79 hii hzz hsz hbb hzc (by decide) (.slice va vn vc) wsK.length (wsK.flatMap rwcells) (by kernel_rfl) hM6.wait ⟨r, 0, none⟩ 1 1 [.int .i64 (p : Int), .slice (some ⟨q5, 0, none⟩) x.length c5] (by kernel_rfl) rfl (fun j9 u9 hj9 => by
                      rw [Addr.add_lit, Nat.zero_add]
                      simp only [World.cell?, hr6]
                      match j9, hj9 with
                      | 0, hj9 => simpa using hj9
                      | 1, hj9 => simpa using hj9) (fun u9 hu9 => by
                      rcases List.mem_cons.1 hu9 with rfl | hu9
                      · rfl
                      · rw [List.mem_singleton.1 hu9]; rfl) (by unfold maxLen; omega) (by omega) (fun v7 w7 ho7 hg7 hk7 => ?_))
                    have hs7 : w7.cell? ⟨b, o + j, none⟩ = some (.slice (some ⟨bk, ok, none⟩) 64 ck) := by
                      have h9 := HCK.out _ hb6
                      refine (hg7.cell (a := ⟨b, o + j, none⟩) h9 (fun e => ?_))
                      exact HNB.out (HM0.out.hw b e.symm)
                    refine ⟨hs7, ?_⟩
                    have hX7 := hM6.grown_waits hg7
                    have hT7 : Touch G wr w7 := by
                      refine ⟨hg7.os.trans hb6.os, hg7.tape.trans hb6.tape, hg7.output.trans hb6.output, Nat.le_trans hb6.size hg7.size, fun k2 hk2 hn2 => ?_⟩
                      rw [hg7.block k2 (Nat.lt_of_lt_of_le hk2 hb6.size) (fun e => hn2 (HM0.out.hw k2 e.symm)), hb6.block k2 hk2]
                    have hW7 : w7.ownsRow 0 84 2 v7 (wsK ++ [(p, Value.slice (some ⟨q5, 0, none⟩) x.length c5)]).length ((wsK ++ [(p, Value.slice (some ⟨q5, 0, none⟩) x.length c5)]).flatMap rwcells) := by
                      rw [List.length_append, List.flatMap_append]
                      exact ho7
                    obtain ⟨va7, vc7, rfl, _, _⟩ := own_shape hW7
                    refine held_of_takes (fuel := 1) (by kernel_rfl) (fun _ _ _ _ _ h => h) hs7 [17, 18] _ _ (by kernel_rfl) ?_
                    refine Takes.val (.pointer (some ⟨g, 0, none⟩)) rfl rfl (fun _ _ => by kernel_rfl) ?_
                    refine Takes.val (.pointer (some ⟨g, 1, none⟩)) rfl rfl (fun _ _ => by kernel_rfl) ?_
                    refine wpAnyH_all (rs := [19]) (by kernel_rfl) (by simp) (fun i hi => ?_)
                    obtain rfl := List.mem_singleton.1 hi
                    refine wpOp_known (.store 79 (.tmp 57) (.tmp 55)) none (by kernel_rfl) (fun _ e1 e2 => wp_store_one (p := .pointer (some ⟨g, 1, none⟩)) (v := .slice va7 (wsK ++ [(p, Value.slice (some ⟨q5, 0, none⟩) x.length c5)]).length vc7) (w' := w7.setCell ⟨g, 1, none⟩ (.slice va7 (wsK ++ [(p, Value.slice (some ⟨q5, 0, none⟩) x.length c5)]).length vc7)) e1 (by kernel_rfl) (by kernel_rfl) (store_rwaits hX7.1 hX7.2.1) ?_)
                    rw [e2]
                    have hM8 := hX7.2.2 _ (wsK ++ [(p, Value.slice (some ⟨q5, 0, none⟩) x.length c5)]) (DK.wait ++ [(p, x)]) hW7 (by rw [List.length_append, List.length_append, hM6.lws]; rfl) (wts_snoc hM6.lws hM6.wts p x _ ho6) (fun k3 hk3 => by
                      rcases hk7 k3 hk3 with h9 | h9
                      · exact HM0.out.hw k3 h9
                      · exact HGn.out k3 (Nat.le_trans (Nat.le_trans HT.out.size hb6.size) h9)) HGW.out
                    have hs8 : (w7.setCell ⟨g, 1, none⟩ (.slice va7 (wsK ++ [(p, Value.slice (some ⟨q5, 0, none⟩) x.length c5)]).length vc7)).cell? ⟨b, o + j, none⟩ = some (.slice (some ⟨bk, ok, none⟩) 64 ck) := by
                      rw [World.cell?_of_block (a := ⟨b, o + j, none⟩) (heap_setCell_other w7 ⟨g, 1, none⟩ b _ (fun e => HNB.out (by have e9 : b = g := e; rw [e9]; exact HM0.out.hg)))]
                      exact hs7
                    have hT8 := hT7.trans (Touch.cell HM0.out.hg 1 (.slice va7 (wsK ++ [(p, Value.slice (some ⟨q5, 0, none⟩) x.length c5)]).length vc7))
                    generalize w7.setCell ⟨g, 1, none⟩ (.slice va7 (wsK ++ [(p, Value.slice (some ⟨q5, 0, none⟩) x.length c5)]).length vc7) = w8 at hM8 hs8 hT8 ⊢
                    refine ⟨hs8, ?_⟩
                    refine wpAnyH_done (P := Tryd.prog) (by kernel_rfl) ?_ 0
                    refine NoPanic.normal ?_
                    have HM8 := Lib.hid hM8
                    have HT8 := Lib.hid hT8
                    clear hM8 hs8 hT8 hT7 hW7 hX7 ho7 hg7 hk7 hM6 hs7 ho6 hr6 hb6
                    go_simp
                    go_wp2_with fail
                    go_roundw
                    case rel =>
                      have h9 := HM8.out
                      rw [← HLY.out] at h9
                      exact ⟨j + 1, by omega, by go_num, HT.out.trans HT8.out, _, _, h9⟩
                    case measure => simp [intOf]; omega
                  · have hb6 : Below wr.heap.size wr (w5.alloc (.cells #[.int .i64 (p : Int), .slice (some ⟨q5, 0, none⟩) x.length c5] 84)) := hb5.alloc hb5.size _
                    refine wpOp_make (v := .slice (some ⟨w5.heap.size, 0, none⟩) 1 1) (w' := w5.alloc (.cells #[.int .i64 (p : Int), .slice (some ⟨q5, 0, none⟩) x.length c5] 84)) rfl rfl (by kernel_rfl) ⟨HCK.out _ hb6, ?_⟩
                    refine wpAnyH_all (rs := [4]) (by kernel_rfl) (by simp) (fun i hi => ?_)
                    obtain rfl := List.mem_singleton.1 hi
                    refine wpOp_make (v := .slice va vn vc) (w' := (w5.alloc (.cells #[.int .i64 (p : Int), .slice (some ⟨q5, 0, none⟩) x.length c5] 84))) rfl rfl (exec_load (s := 42) rfl (by kernel_rfl) (load_rwaits (HM0.out.later hb6).c1)) ⟨HCK.out _ hb6, ?_⟩
                    have hr6 := heap_alloc_new w5 (.cells #[.int .i64 (p : Int), .slice (some ⟨q5, 0, none⟩) x.length c5] 84)
                    have ho6 := ho5.keep (w' := w5.alloc (.cells #[.int .i64 (p : Int), .slice (some ⟨q5, 0, none⟩) x.length c5] 84)) (fun _ hf => hf) (fun k9 _ _ _ hb9 => ((Below.refl _ w5).alloc (Nat.le_refl _) _).block k9 (lt_of_block hb9))
                    generalize w5.alloc (.cells #[.int .i64 (p : Int), .slice (some ⟨q5, 0, none⟩) x.length c5] 84) = w6 at hb6 hr6 ho6 ⊢
                    generalize w5.heap.size = r at hr6 ⊢
                    clear ho5 hb5
                    have hM6 := HM0.out.later hb6
                    refine wpAnyH_all (rs := [16]) (by kernel_rfl) (by simp) (fun i hi => ?_)
                    obtain rfl := List.mem_singleton.1 hi
                    refine wpOp_plain rfl rfl (wp_append_whose w6 (.tmp 43) (.tmp 54) 79 rfl 84 ii zz 2 32 Tryd.underlying79 hii hzz hsz hbb hzc (by decide) (.slice va vn vc) wsK.length (wsK.flatMap rwcells) (by kernel_rfl) hM6.wait ⟨r, 0, none⟩ 1 1 [.int .i64 (p : Int), .slice (some ⟨q5, 0, none⟩) x.length c5] (by kernel_rfl) rfl (fun j9 u9 hj9 => by
                      rw [Addr.add_lit, Nat.zero_add]
                      simp only [World.cell?, hr6]
                      match j9, hj9 with
                      | 0, hj9 => simpa using hj9
                      | 1, hj9 => simpa using hj9) (fun u9 hu9 => by
                      rcases List.mem_cons.1 hu9 with rfl | hu9
                      · rfl
                      · rw [List.mem_singleton.1 hu9]; rfl) (by unfold maxLen; omega) (by omega) (fun v7 w7 ho7 hg7 hk7 => ?_))
                    have hs7 : w7.cell? ⟨b, o + j, none⟩ = some (.slice (some ⟨bk, ok, none⟩) 64 ck) := by
                      have h9 := HCK.out _ hb6
                      refine (hg7.cell (a := ⟨b, o + j, none⟩) h9 (fun e => ?_))
                      exact HNB.out (HM0.out.hw b e.symm)
                    refine ⟨hs7, ?_⟩
                    have hX7 := hM6.grown_waits hg7
                    have hT7 : Touch G wr w7 := by
                      refine ⟨hg7.os.trans hb6.os, hg7.tape.trans hb6.tape, hg7.output.trans hb6.output, Nat.le_trans hb6.size hg7.size, fun k2 hk2 hn2 => ?_⟩
                      rw [hg7.block k2 (Nat.lt_of_lt_of_le hk2 hb6.size) (fun e => hn2 (HM0.out.hw k2 e.symm)), hb6.block k2 hk2]
                    have hW7 : w7.ownsRow 0 84 2 v7 (wsK ++ [(p, Value.slice (some ⟨q5, 0, none⟩) x.length c5)]).length ((wsK ++ [(p, Value.slice (some ⟨q5, 0, none⟩) x.length c5)]).flatMap rwcells) := by
                      rw [List.length_append, List.flatMap_append]
                      exact ho7
                    obtain ⟨va7, vc7, rfl, _, _⟩ := own_shape hW7
                    refine held_of_takes (fuel := 1) (by kernel_rfl) (fun _ _ _ _ _ h => h) hs7 [17, 18] _ _ (by kernel_rfl) ?_
                    refine Takes.val (.pointer (some ⟨g, 0, none⟩)) rfl rfl (fun _ _ => by kernel_rfl) ?_
                    refine Takes.val (.pointer (some ⟨g, 1, none⟩)) rfl rfl (fun _ _ => by kernel_rfl) ?_
                    refine wpAnyH_all (rs := [19]) (by kernel_rfl) (by simp) (fun i hi => ?_)
                    obtain rfl := List.mem_singleton.1 hi
                    refine wpOp_known (.store 79 (.tmp 57) (.tmp 55)) none (by kernel_rfl) (fun _ e1 e2 => wp_store_one (p := .pointer (some ⟨g, 1, none⟩)) (v := .slice va7 (wsK ++ [(p, Value.slice (some ⟨q5, 0, none⟩) x.length c5)]).length vc7) (w' := w7.setCell ⟨g, 1, none⟩ (.slice va7 (wsK ++ [(p, Value.slice (some ⟨q5, 0, none⟩) x.length c5)]).length vc7)) e1 (by kernel_rfl) (by kernel_rfl) (store_rwaits hX7.1 hX7.2.1) ?_)
                    rw [e2]
                    have hM8 := hX7.2.2 _ (wsK ++ [(p, Value.slice (some ⟨q5, 0, none⟩) x.length c5)]) (DK.wait ++ [(p, x)]) hW7 (by rw [List.length_append, List.length_append, hM6.lws]; rfl) (wts_snoc hM6.lws hM6.wts p x _ ho6) (fun k3 hk3 => by
                      rcases hk7 k3 hk3 with h9 | h9
                      · exact HM0.out.hw k3 h9
                      · exact HGn.out k3 (Nat.le_trans (Nat.le_trans HT.out.size hb6.size) h9)) HGW.out
                    have hs8 : (w7.setCell ⟨g, 1, none⟩ (.slice va7 (wsK ++ [(p, Value.slice (some ⟨q5, 0, none⟩) x.length c5)]).length vc7)).cell? ⟨b, o + j, none⟩ = some (.slice (some ⟨bk, ok, none⟩) 64 ck) := by
                      rw [World.cell?_of_block (a := ⟨b, o + j, none⟩) (heap_setCell_other w7 ⟨g, 1, none⟩ b _ (fun e => HNB.out (by have e9 : b = g := e; rw [e9]; exact HM0.out.hg)))]
                      exact hs7
                    have hT8 := hT7.trans (Touch.cell HM0.out.hg 1 (.slice va7 (wsK ++ [(p, Value.slice (some ⟨q5, 0, none⟩) x.length c5)]).length vc7))
                    generalize w7.setCell ⟨g, 1, none⟩ (.slice va7 (wsK ++ [(p, Value.slice (some ⟨q5, 0, none⟩) x.length c5)]).length vc7) = w8 at hM8 hs8 hT8 ⊢
                    refine ⟨hs8, ?_⟩
                    refine wpAnyH_done (P := Tryd.prog) (by kernel_rfl) ?_ 0
                    refine NoPanic.normal ?_
                    have HM8 := Lib.hid hM8
                    have HT8 := Lib.hid hT8
                    clear hM8 hs8 hT8 hT7 hW7 hX7 ho7 hg7 hk7 hM6 hs7 ho6 hr6 hb6
                    go_simp
                    go_wp2_with fail
                    go_roundw
                    case rel =>
                      have h9 := HM8.out
                      rw [← HLY.out] at h9
                      exact ⟨j + 1, by omega, by go_num, HT.out.trans HT8.out, _, _, h9⟩
                    case measure => simp [intOf]; omega
            · have hji : ¬ (j : Int) < m := by omega
              have HTK : Hid (ls.take j = ls) := Lib.hid (List.take_of_length_le (by rw [← HM.out]; omega))
              rw [HTK.out] at hMj
              have HMJ := Lib.hid hMj
              have HT := Lib.hid hT0
              clear hlt hj hMj hT0
              go_wp2_with fail
              go_ret
              refine ⟨by rw [HE.out]; rfl, HT.out, vwj, wsK, ?_⟩
              have h9 := HMJ.out
              rw [HE.out]
              rw [HD.out] at h9
              exact h9
        · have hb : (er != 0) = true := bne_iff_ne.2 h0
          have HE : Hid (Dv.write d at_ ls = Dv.call d) := Lib.hid (by rw [HW.out, if_pos (by rw [← HER.out]; exact h0)])
          go_wp2_with fail
          go_ret
          exact ⟨by rw [HE.out, ← HER.out]; rfl, HT1.out, vw, ws, by rw [HE.out]; exact HM1.out⟩
end Go.Proofs.YtlipgphmhkjnpaaDoor
