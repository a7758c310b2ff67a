/- The law SpaceBack over the pack. -/
import Derived.Test.YtgfgafondiipoaaSpL2
import Derived.Test.YtgfgafondiipoaaSpR
namespace Go.Proofs.Ytgfgafondiipoaa
open Go.RowKit
theorem EsOut.other {F G : Nat → Prop} {w w' : World} {v : Value} {es : List Sp.Ext} (h : EsOut F w v es) (ht : Touch G w w') (hG : ∀ b, v.ownBlock = some b → ¬ G b) : EsOut F w' v es := by
  obtain ⟨ao, cap, hv, h1, h2, h3⟩ := h
  refine ⟨ao, cap, hv, h1, h2, ?_⟩
  rcases h3 with h | ⟨b, o, e, hb, hF, hc⟩
  · exact .inl h
  · have hk : w'.heap[b]? = w.heap[b]? := ht.block b hb (hG b (by rw [hv, e]; rfl))
    refine .inr ⟨b, o, e, Nat.lt_of_lt_of_le hb ht.size, hF, fun k hk2 => ?_⟩
    rw [← (hc k hk2).1, ← (hc k hk2).2]
    exact ⟨World.cell?_of_block (a := ⟨b, o + k * 2, none⟩) hk, World.cell?_of_block (a := ⟨b, o + k * 2 + 1, none⟩) hk⟩
theorem ERow.touchG {B : Nat} {F G : Nat → Prop} {w w' : World} {v : Value} {es : List Sp.Ext} (h : ERow B F w v es) (ht : Touch G w w') (hG : ∀ k, v.ownBlock = some k → G k → False) : ERow B F w' v es :=
  ⟨ownsRow_keep h.row (fun k hk => ht.block k (h.lt k hk) (hG k hk)), h.own⟩
theorem Side.touchG {W w w' : World} {T : World → (Nat → Prop) → Prop} {F G : Nat → Prop} (h : Side W w T F) (hk : T w F → w.heap.size ≤ w'.heap.size → (∀ k, F k → w'.heap[k]? = w.heap[k]?) → T w' F) (hl : ∀ k, F k → k < w.heap.size) (ht : Touch G w w') (hG : ∀ k, G k → W.heap.size ≤ k ∧ ¬ F k) : Side W w' T F :=
  ⟨hk h.thing ht.size (fun k hf => ht.block k (hl k hf) (fun hg => (hG k hg).2 hf)), h.high, ht.below (fun k hg => (hG k hg).1) h.below h.below.size⟩
theorem ERow.part1 {B : Nat} {F : Nat → Prop} {w : World} {g n c k : Nat} {es : List Sp.Ext} (h : ERow B F w (.slice (some ⟨g, 0, none⟩) n c) es) (hk : k ≤ es.length) : EsOut F w (.slice (some ⟨g, 0, none⟩) k c) (es.take k) := by
  obtain ⟨_, _, hv, h1, h2⟩ := own_shape h.row
  injection hv with e1 e2 e3
  have hl : (es.take k).length = k := by rw [List.length_take]; omega
  refine ⟨_, c, by rw [hl], by omega, by omega, .inr ⟨g, 0, rfl, h.lt g rfl, (h.own g rfl).2, fun j hj => ?_⟩⟩
  obtain ⟨g2, e, c1, c2⟩ := h.cell j (by omega)
  cases e
  rw [Nat.zero_add, List.getElem_take]
  exact ⟨c1, c2⟩
theorem ERow.part2 {B : Nat} {F : Nat → Prop} {w : World} {g n c k : Nat} {es : List Sp.Ext} (h : ERow B F w (.slice (some ⟨g, 0, none⟩) n c) es) (hk : k < es.length) :
    (c = k + 1 → EsOut F w (.slice (some ⟨g, 0, none⟩) (n - (k + 1)) 0) (es.drop (k + 1))) ∧ (c ≠ k + 1 → EsOut F w (.slice (some ⟨g, (k + 1) * 2, none⟩) (n - (k + 1)) (c - (k + 1))) (es.drop (k + 1))) := by
  obtain ⟨_, _, hv, h1, h2⟩ := own_shape h.row
  injection hv with e1 e2 e3
  subst e3
  have hl : (es.drop (k + 1)).length = n - (k + 1) := by rw [List.length_drop, e2]
  refine ⟨fun hc => ⟨_, 0, by rw [hl], by omega, by omega, .inl (List.length_eq_zero_iff.1 (by omega))⟩, fun _ => ⟨_, c - (k + 1), by rw [hl], by omega, by omega, .inr ⟨g, (k + 1) * 2, rfl, h.lt g rfl, (h.own g rfl).2, fun j hj => ?_⟩⟩⟩
  obtain ⟨g2, e, c1, c2⟩ := h.cell (k + 1 + j) (by omega)
  cases e
  rw [List.getElem_drop, show (k + 1) * 2 + j * 2 = (k + 1 + j) * 2 from by omega]
  exact ⟨c1, c2⟩
theorem len_le_size : ∀ (l : List Sp.Run), (∀ e ∈ l, 1 ≤ e.2) → l.length ≤ Sp.size l
  | [], _ => Nat.zero_le _
  | e :: t, h => by
    have h1 := len_le_size t (fun x hx => h x (List.mem_cons_of_mem _ hx))
    have h2 := h e List.mem_cons_self
    have h3 : Sp.size (e :: t) = e.2 + Sp.size t := by simp [Sp.size]
    rw [List.length_cons]; omega
theorem size_take_le (l : List Sp.Run) (j : Nat) : Sp.size (l.take j) ≤ Sp.size l := by
  have : Sp.size l = Sp.size (l.take j) + Sp.size (l.drop j) := by rw [← Sp.size_append, List.take_append_drop]
  omega
/-- How long a slice is. -/
def lenV : Value → Nat
  | .slice _ n _ => n
  | _ => 0
section
variable {Env : World → Prop} {MD : World → Nat → Sp.M → (Nat → Prop) → Prop}
set_option maxHeartbeats 12800000 in
set_option maxRecDepth 100000 in
theorem back16 (P : Prog16 Env MD) (va : Value) (xs : List Int) (vo : Value) (os : List Int) (ab : Bool) (W : World) (hin : NsIn W va xs) (hio : NsIn W vo os) (hE : Env W) :
    Calls Try.prog 4 #[va, vo, .bool ab] W fun e w' => e = .returned (.bool true) ∧ Below W.heap.size W w' := by
  have HE := Lib.hid (fun (w : World) (hb : Below W.heap.size W w) => P.env hE hb)
  have HP := Lib.hid P
  have HA := Lib.hid (fun (w : World) (hb : Below W.heap.size W w) => awake16 P w (P.env hE hb))
  have hww : Below W.heap.size W W := Below.refl _ _
  obtain ⟨aa, ca, rfl, hla, hca, hga⟩ := hin
  obtain ⟨ao, co, rfl, hlo, hco, hgo⟩ := hio
  obtain ⟨L, hL⟩ : ∃ L, L = xs.length := ⟨_, rfl⟩
  obtain ⟨Lo, hLo⟩ : ∃ L, L = os.length := ⟨_, rfl⟩
  have HL := Lib.hid hL
  have HLo := Lib.hid hLo
  have HG := Lib.hid hga
  have HGo := Lib.hid hgo
  rw [← hL] at hla ⊢
  rw [← hLo] at hlo ⊢
  clear hE hL hLo hga hgo P
  have c0 := HA.out W hww
  by_cases h30 : (30 : Int) < L
  · go_enter Try.func4, Try.ntmps4
    go_wp2_with fail
    refine c0.mono ?_
    rintro e w1 ⟨rfl, hb1⟩
    have c1 := HA.out w1 hb1
    have H1 := Lib.hid hb1
    clear c0 hb1
    go_wp2_with fail
    refine c1.mono ?_
    rintro e w2 ⟨rfl, hb2⟩
    have H2 := Lib.hid (bt5 H1.out hb2)
    clear c1 hb2
    go_wp2_with fail
    go_ret
    exact ⟨rfl, H2.out⟩
  · by_cases h60 : (60 : Int) < Lo
    · go_enter Try.func4, Try.ntmps4
      go_wp2_with fail
      refine c0.mono ?_
      rintro e w1 ⟨rfl, hb1⟩
      have c1 := HA.out w1 hb1
      have H1 := Lib.hid hb1
      clear c0 hb1
      go_wp2_with fail
      refine c1.mono ?_
      rintro e w2 ⟨rfl, hb2⟩
      have H2 := Lib.hid (bt5 H1.out hb2)
      clear c1 hb2
      go_wp2_with fail
      go_ret
      exact ⟨rfl, H2.out⟩
    · go_enter Try.func4, Try.ntmps4
      go_wp2_with fail
      refine c0.mono ?_
      rintro e w1 ⟨rfl, hb1⟩
      have H1 := Lib.hid hb1
      have c1 := HP.out.new 500 w1 (by decide) (by decide) (HE.out w1 hb1)
      clear c0 hb1
      go_wp2_with fail
      refine c1.mono ?_
      rintro e w2 ⟨q, F2, rfl, hM2, hb2, hF2⟩
      have S2 := Lib.hid (show Side W w2 (fun w F => MD w q (Sp.new 500) F) F2 from ⟨hM2, fun k hk => Nat.le_trans H1.out.size (hF2 k hk), bt5 H1.out hb2⟩)
      have HLL : Hid (L ≤ 30 ∧ Lo ≤ 60) := Lib.hid (by omega)
      clear c1 hM2 hb2 hF2 hww h30 h60 H1
      go_upto_region 9 with fail
      go_loopw [9, 10, 11] (fun vr vn vi wr => ∃ (k n : Nat) (F : Nat → Prop) (m : Sp.M) (all : List Sp.Run), k ≤ L ∧ vn = .int .i64 n ∧ vi = .int .i64 k ∧ Hid (Side W wr (fun w F => MD w q m F) F) ∧ Hid (Sp.Taken 500 m all) ∧ Hid (ERow W.heap.size F wr vr (all.map Sp.ie)) ∧ Hid (n = Sp.size all)) (fun _ _ vi _ => L - (intOf vi).toNat)
      case atStart => exact ⟨0, 0, F2, _, [], Nat.zero_le _, rfl, rfl, S2, Lib.hid (Sp.Taken.new 500), Lib.hid (ERow.empty _ _ _), Lib.hid rfl⟩
      case round =>
        clear S2
        obtain ⟨k, n, F, m, all, hk, rfl, rfl, S, TK, R, HN⟩ := hrel
        by_cases hlt : k < L
        · have hki : (k : Int) < L := by omega
          obtain ⟨b1, o1, hx1, hl1, hc1⟩ := HG.out.resolve_left (fun x => by have := HL.out; rw [x] at this; simp at this; omega)
          subst hx1
          have f2 : wr.cell? ⟨b1, o1 + k, none⟩ = some (.int .i64 (xs[k]'(by rw [← HL.out]; exact hlt))) := by
            rw [← hc1 k (by rw [← HL.out]; exact hlt)]
            exact World.cell?_of_block (a := ⟨b1, o1 + k, none⟩) (S.out.below.block b1 hl1)
          clear hc1
          generalize xs[k]'_ = x at f2
          obtain ⟨p, n1, e1, e2, e3, e4, e5⟩ : ∃ (q : Int) (k : Nat), x.tmod 40 = q ∧ -40 < q ∧ q < 40 ∧ (q + 40).tmod 40 = (k : Int) ∧ k < 40 := mod_at x 40 (by decide) (by decide)
          have c3 := HP.out.pieces q m F (1 + (n1 : Int)) 99 wr S.out.thing (by rw [TK.out.long]; decide) ⟨by omega, by omega⟩ ⟨by decide, by decide⟩ (HE.out _ S.out.below)
          have htp := TK.out.pieces (1 + (n1 : Int)) 99 (by omega)
          obtain ⟨R9, hR9⟩ : ∃ R, R = Sp.pieces (1 + (n1 : Int)) 99 m := ⟨_, rfl⟩
          rw [← hR9] at c3 htp
          have HTP := Lib.hid htp
          clear hR9 htp
          obtain ⟨m', es, ok⟩ := R9
          simp only at c3 HTP
          go_wp2_with fail
          refine c3.mono ?_
          rintro e w4 ⟨F4, v4, rfl, hM4, ht4, hm4, hE4, hnew⟩
          have S4 := Lib.hid (show Side W w4 (fun w F => MD w q m' F) F4 from S.out.step hM4 ht4 hm4)
          have R4 := Lib.hid (R.out.touch ht4 hm4)
          have HOL : Hid (∀ b, v4.ownBlock = some b → ∀ k, u9.ownBlock = some k → b ≠ k) := Lib.hid (fun b hb k hk e => by have := hnew b hb; have := R.out.lt k hk; omega)
          have HE4 := Lib.hid hE4
          obtain ⟨vo4, vc4, rfl, hv1, hv2, hv3⟩ := hE4
          have HV3 := Lib.hid hv3
          obtain ⟨el, hel⟩ : ∃ el, el = es.length := ⟨_, rfl⟩
          have HEL := Lib.hid hel
          have hel2 : (es.map Sp.ie).length = el := by rw [List.length_map, hel]
          rw [hel2] at hv1 HE4 HOL ⊢
          clear c3 hM4 ht4 hm4 hnew hv3 hel hel2 S R f2
          cases ok with
          | true =>
            obtain ⟨TK9, hsz⟩ := HTP.out.1 rfl
            have TK9 := Lib.hid TK9
            have hel1 : 1 ≤ el := by
              rw [HEL.out]
              cases es with
              | nil => simp [Sp.size] at hsz; omega
              | cons x t => simp
            have hsum : Sp.size (all ++ es) ≤ 500 := by have := TK9.out.room; omega
            have HSB : Hid (∀ j, n + Sp.size (es.take j) ≤ 500) := Lib.hid (fun j => by have := size_take_le es j; rw [Sp.size_append] at hsum; rw [HN.out]; omega)
            have hll := len_le_size (all ++ es) (fun x hx => (TK9.out.right x hx).1)
            rw [List.length_append] at hll
            have HLN : Hid ((all.map Sp.ie).length + (es.map Sp.ie).length ≤ 1000000) := Lib.hid (by rw [List.length_map, List.length_map]; omega)
            obtain ⟨b4, o4, hx4, -⟩ := HV3.out.resolve_left (fun x => by have := congrArg List.length x; rw [List.length_map, ← HEL.out] at this; simp at this; omega)
            subst hx4
            have hl4 := Lib.hid (HP.out.lt S4.out.thing)
            clear hsz hsum hll HTP HV3
            go_upto_region 14 with (at_builtin; refine appEs R4.out HE4.out (by rw [List.length_map, ← HEL.out]) HLN.out S4.out.below.size hl4.out rfl _ _ rfl rfl rfl ?_; intro v9 w9 hE9 ht9)
            have R9 : Hid (ERow W.heap.size F4 w9 v9 ((all ++ es).map Sp.ie)) := Lib.hid (by rw [List.map_append]; exact hE9)
            have S9 := Lib.hid (S4.out.touchG (fun h hs hk => HP.out.keep h hs hk) hl4.out ht9 (fun k h => R4.out.own k h))
            have VE9 := Lib.hid (HE4.out.other ht9 (fun b hb hg => HOL.out b hb b hg rfl))
            clear hE9 ht9 S4 R4 HE4 HOL hl4
            go_upto_region 15 with fail
            go_loopw [10, 14] (fun vn vj wq => ∃ j t : Nat, j ≤ el ∧ vn = .int .i64 t ∧ vj = .int .i64 j ∧ Hid (t = n + Sp.size (es.take j)) ∧ Hid (Below w9.heap.size w9 wq)) (fun _ vj _ => el - (intOf vj).toNat)
            case atStart => exact ⟨0, n, Nat.zero_le _, rfl, rfl, Lib.hid rfl, Lib.hid (Below.refl _ _)⟩
            case round =>
              obtain ⟨j, t, hj, rfl, rfl, HT, HB⟩ := hrel
              have ht9 := HSB.out j
              rw [← HT.out] at ht9
              by_cases hjl : j < el
              · have hji : (j : Int) < el := by omega
                have hjm : j < (es.map Sp.ie).length := by rw [List.length_map, ← HEL.out]; exact hjl
                obtain ⟨ao2, cap2, hvv, _, _, hg⟩ := VE9.out
                injection hvv with ea eb ec
                subst ea ec
                clear eb
                obtain ⟨b2, o2, hx2, hl2, _, hcc⟩ := hg.resolve_left (fun x => by rw [x] at hjm; simp at hjm)
                cases hx2
                have f3 := cell_later HB.out (hcc j hjm).2
                have hjm2 : j < es.length := by rw [← HEL.out]; exact hjl
                have HSZ : Hid (Sp.size (es.take (j + 1)) = Sp.size (es.take j) + es[j].2) := Lib.hid (by rw [List.take_add_one, List.getElem?_eq_getElem hjm2, Sp.size_append]; simp [Sp.size])
                have ht8 := HSB.out (j + 1)
                rw [HSZ.out] at ht8
                rw [List.getElem_map] at f3
                obtain ⟨z, hz⟩ : ∃ z, z = es[j].2 := ⟨_, rfl⟩
                have f4 := f3.trans (show some (Value.int .i64 (Sp.ie es[j]).2) = some (Value.int .i64 (z : Int)) from by rw [hz]; rfl)
                rw [← hz] at HSZ ht8
                have HT2 : Hid (t + z = n + Sp.size (es.take (j + 1))) := Lib.hid (by rw [HSZ.out, HT.out]; omega)
                have htz : t + z ≤ 500 := by rw [HT2.out, HSZ.out]; omega
                clear hcc hg f3 hz hjm hjm2 ht8 ht9
                go_wp2_with fail
                go_roundw
                case rel => exact ⟨j + 1, t + z, by omega, by go_num, by go_num, HT2, HB⟩
                case measure => simp [intOf]; omega
              · have hji : ¬ (j : Int) < el := by omega
                have HNX : Hid (t = Sp.size (all ++ es)) := Lib.hid (by rw [HT.out, List.take_of_length_le (by rw [← HEL.out]; omega)]; rw [Sp.size_append, ← HN.out])
                have SX := Lib.hid (S9.out.later (fun h hs hk => HP.out.keep h hs hk) (HP.out.lt S9.out.thing) HB.out)
                have RX := Lib.hid (R9.out.later HB.out)
                clear S9 R9 VE9 HB HT ht9
                go_wp2_with fail
                go_roundw
                case rel => exact ⟨k + 1, t, F4, m', (all ++ es), by omega, rfl, by go_num, SX, TK9, RX, HNX⟩
                case measure => simp [intOf]; omega
          | false =>
            have hes := HTP.out.2 rfl
            injection hes with q1 q2
            injection q2 with q2 q3
            subst q1
            have HES : Hid (es = []) := Lib.hid q2
            have TK9 := TK
            have S9 := S4
            have R9 := R4
            have VE9 := HE4
            have HSB : Hid (∀ j, n + Sp.size (es.take j) ≤ 500) := Lib.hid (fun j => by rw [HES.out, HN.out, List.take_nil]; have := TK.out.room; have h0 : Sp.size ([] : List Sp.Run) = 0 := rfl; omega)
            obtain ⟨w9, hw9⟩ : ∃ w9, w9 = w4 := ⟨_, rfl⟩
            clear q2 q3 HTP HV3 HOL S4 R4 HE4
            subst hw9
            go_upto_region 15 with fail
            go_loopw [10, 14] (fun vn vj wq => ∃ j t : Nat, j ≤ el ∧ vn = .int .i64 t ∧ vj = .int .i64 j ∧ Hid (t = n + Sp.size (es.take j)) ∧ Hid (Below w9.heap.size w9 wq)) (fun _ vj _ => el - (intOf vj).toNat)
            case atStart => exact ⟨0, n, Nat.zero_le _, rfl, rfl, Lib.hid rfl, Lib.hid (Below.refl _ _)⟩
            case round =>
              obtain ⟨j, t, hj, rfl, rfl, HT, HB⟩ := hrel
              have ht9 := HSB.out j
              rw [← HT.out] at ht9
              by_cases hjl : j < el
              · have hji : (j : Int) < el := by omega
                have hjm : j < (es.map Sp.ie).length := by rw [List.length_map, ← HEL.out]; exact hjl
                obtain ⟨ao2, cap2, hvv, _, _, hg⟩ := VE9.out
                injection hvv with ea eb ec
                subst ea ec
                clear eb
                obtain ⟨b2, o2, hx2, hl2, _, hcc⟩ := hg.resolve_left (fun x => by rw [x] at hjm; simp at hjm)
                cases hx2
                have f3 := cell_later HB.out (hcc j hjm).2
                have hjm2 : j < es.length := by rw [← HEL.out]; exact hjl
                have HSZ : Hid (Sp.size (es.take (j + 1)) = Sp.size (es.take j) + es[j].2) := Lib.hid (by rw [List.take_add_one, List.getElem?_eq_getElem hjm2, Sp.size_append]; simp [Sp.size])
                have ht8 := HSB.out (j + 1)
                rw [HSZ.out] at ht8
                rw [List.getElem_map] at f3
                obtain ⟨z, hz⟩ : ∃ z, z = es[j].2 := ⟨_, rfl⟩
                have f4 := f3.trans (show some (Value.int .i64 (Sp.ie es[j]).2) = some (Value.int .i64 (z : Int)) from by rw [hz]; rfl)
                rw [← hz] at HSZ ht8
                have HT2 : Hid (t + z = n + Sp.size (es.take (j + 1))) := Lib.hid (by rw [HSZ.out, HT.out]; omega)
                have htz : t + z ≤ 500 := by rw [HT2.out, HSZ.out]; omega
                clear hcc hg f3 hz hjm hjm2 ht8 ht9
                go_wp2_with fail
                go_roundw
                case rel => exact ⟨j + 1, t + z, by omega, by go_num, by go_num, HT2, HB⟩
                case measure => simp [intOf]; omega
              · have hji : ¬ (j : Int) < el := by omega
                have HNX : Hid (t = Sp.size all) := Lib.hid (by rw [HT.out, List.take_of_length_le (by rw [← HEL.out]; omega)]; rw [HES.out, ← HN.out]; rfl)
                have SX := Lib.hid (S9.out.later (fun h hs hk => HP.out.keep h hs hk) (HP.out.lt S9.out.thing) HB.out)
                have RX := Lib.hid (R9.out.later HB.out)
                clear S9 R9 VE9 HB HT ht9
                go_wp2_with fail
                go_roundw
                case rel => exact ⟨k + 1, t, F4, m', all, by omega, rfl, by go_num, SX, TK9, RX, HNX⟩
                case measure => simp [intOf]; omega
        · have hki : ¬ (k : Int) < L := by omega
          have hlm : m.length ≤ 65536 := by rw [TK.out.long]; decide
          have cF := HP.out.free q m F wr S.out.thing hlm (HE.out _ S.out.below)
          have hroom := TK.out.room
          rw [← HN.out] at hroom
          obtain ⟨fr, hfr⟩ : ∃ fr, fr = Sp.free m := ⟨_, rfl⟩
          rw [← hfr] at cF hroom
          have hfri : (fr : Int) = 500 - n := by omega
          have hn5 : n ≤ 500 := by omega
          clear hfr hroom
          go_wp2_with fail
          refine cF.mono ?_
          rintro e w4 ⟨F4, rfl, hM4, ht4, hm4⟩
          have S4 := Lib.hid (show Side W w4 (fun w F => MD w q m F) F4 from S.out.step hM4 ht4 hm4)
          have R4 := Lib.hid (R.out.touch ht4 hm4)
          clear cF hM4 ht4 hm4 S R
          cases ab with
          | true =>
            have cA := HP.out.abort q m F4 w4 S4.out.thing hlm (HE.out _ S4.out.below)
            rw [TK.out.abort] at cA
            clear hlm R4
            go_wp2_with fail
            refine cA.mono ?_
            rintro e w5 ⟨F5, x5, rfl, hM5, ht5, hm5⟩
            have S5 := Lib.hid (show Side W w5 (fun w F => MD w q (Sp.new 500) F) F5 from S4.out.step hM5 ht5 hm5)
            have cB := HP.out.free q (Sp.new 500) F5 w5 S5.out.thing (by decide) (HE.out _ S5.out.below)
            rw [Sp.new_free] at cB
            clear cA hM5 ht5 hm5 S4 hfri hn5
            go_wp2_with fail
            refine cB.mono ?_
            rintro e w6 ⟨F6, rfl, hM6, ht6, hm6⟩
            have S6 := Lib.hid (show Side W w6 (fun w F => MD w q (Sp.new 500) F) F6 from S5.out.step hM6 ht6 hm6)
            have cC := HP.out.runs q (Sp.new 500) F6 w6 S6.out.thing (by decide) (HE.out _ S6.out.below)
            rw [Sp.new_runs 500 (by decide)] at cC
            clear cB hM6 ht6 hm6 S5
            go_wp2_with fail
            refine cC.mono ?_
            rintro e w7 ⟨F7, v7, rfl, hM7, ht7, hm7, hE7⟩
            have S7 := Lib.hid (show Side W w7 (fun w F => MD w q (Sp.new 500) F) F7 from S6.out.step hM7 ht7 hm7)
            have hb8 : Below w7.heap.size w7 (w7.alloc (.cells #[.int .i64 0, .int .i64 500] 35)) := (Below.refl _ w7).alloc (Nat.le_refl _) _
            have cS := Same_w _ _ _ _ _ (hE7.later hb8) (es_one (F := F7) w7 0 500 (HP.out.lt S7.out.thing))
            rw [decide_eq_true (by decide)] at cS
            have HB8 := Lib.hid (bt5 S7.out.below hb8)
            clear cC hM7 ht7 hm7 hE7 hb8 S6
            go_wp2_with fail
            refine cS.mono ?_
            rintro e w9 ⟨rfl, hb9⟩
            have HB9 := Lib.hid (bt5 HB8.out hb9)
            clear cS hb9
            go_wp2_with fail
            go_ret
            exact ⟨rfl, HB9.out⟩
          | false =>
            have cA := HP.out.commit q m F4 w4 S4.out.thing hlm (HE.out _ S4.out.below)
            have hall := len_le_size all (fun x hx => (TK.out.right x hx).1)
            have HAL0 : Hid (all.length ≤ 500) := Lib.hid (by rw [← HN.out] at hall; omega)
            clear hlm hall
            go_wp2_with fail
            refine cA.mono ?_
            rintro e w5 ⟨F5, x5, rfl, hM5, ht5, hm5⟩
            have S5 := Lib.hid (show Side W w5 (fun w F => MD w q (Sp.commit m) F) F5 from S4.out.step hM5 ht5 hm5)
            have R5 := Lib.hid (R4.out.touch ht5 hm5)
            have BK5 := Lib.hid TK.out.commit
            clear cA hM5 ht5 hm5 S4 R4 hfri hn5 TK HN
            go_upto_region 25 with fail
            go_loopw [9, 15] (fun vr vi wr => ∃ (i : Nat) (F : Nat → Prop) (m : Sp.M) (all ws : List Sp.Run), vi = .int .i64 i ∧ Hid (i + all.length ≤ 1000) ∧ Hid (Side W wr (fun w F => MD w q m F) F) ∧ Hid (Sp.Backs 500 m all ws) ∧ Hid (ERow W.heap.size F wr vr (all.map Sp.ie))) (fun vr _ _ => lenV vr)
            case atStart => exact ⟨0, F5, _, all, [], rfl, Lib.hid (by have := HAL0.out; omega), S5, BK5, R5⟩
            case round =>
              clear S5 R5 BK5 HAL0
              obtain ⟨i, F, m, all, ws, rfl, HIA, S, HBK, R⟩ := hrel
              obtain ⟨a9, ca9, rfl, hcl, hcm⟩ := own_shape R.out.row
              obtain ⟨A, hA⟩ : ∃ A, A = all.length := ⟨_, rfl⟩
              have HAL := Lib.hid hA
              have hA2 : (all.map Sp.ie).length = A := by rw [List.length_map, hA]
              have hA9 : i + A ≤ 1000 := by rw [hA]; exact HIA.out
              rw [hA2] at hcl R ⊢
              clear hA hA2
              by_cases hA0 : 0 < A
              · have hAi : (0 : Int) < A := by omega
                have hAne : ¬ (A : Int) = 0 := by omega
                obtain ⟨g, hg⟩ : ∃ g, a9 = some ⟨g, 0, none⟩ := by
                  rcases R.out.row.2 with ⟨hv, hn⟩ | ⟨g, cap, cur, hv, _⟩
                  · rw [List.length_map, ← HAL.out] at hn; omega
                  · injection hv with e1 e2 e3
                    exact ⟨g, e1⟩
                subst hg
                go_upto_region 28 with fail
                obtain ⟨tb, htb⟩ : ∃ tb, decide (i < Lo) = tb := ⟨_, rfl⟩
                go_cut [101] (fun u wx => u = .bool tb ∧ wr = wx)
                case first =>
                  by_cases hiL : i < Lo
                  · have hii : (i : Int) < Lo := by omega
                    have htb2 : tb = true := by rw [← htb]; exact decide_eq_true hiL
                    subst htb2
                    clear htb hiL
                    go_wp2_with fail
                    go_meet
                    case rel => exact ⟨rfl, rfl⟩
                  · have hii : ¬ (i : Int) < Lo := by omega
                    have htb2 : tb = false := by rw [← htb]; exact decide_eq_false hiL
                    subst htb2
                    clear htb hiL
                    go_wp2_with fail
                    go_meet
                    case rel => exact ⟨rfl, rfl⟩
                case rest =>
                obtain ⟨rfl, rfl⟩ := hcut
                go_upto_if 101 with fail
                go_cut [16] (fun u wx => ∃ k : Nat, k < A ∧ u = .int .i64 (k : Int) ∧ wr = wx)
                case first =>
                  cases tb with
                  | true =>
                    have hiL : i < Lo := of_decide_eq_true htb
                    obtain ⟨b1, o1, hx1, hl1, hc1⟩ := HGo.out.resolve_left (fun x => by have := HLo.out; rw [x] at this; simp at this; omega)
                    subst hx1
                    have f2 : wr.cell? ⟨b1, o1 + i, none⟩ = some (.int .i64 (os[i]'(by rw [← HLo.out]; exact hiL))) := by
                      rw [← hc1 i (by rw [← HLo.out]; exact hiL)]
                      exact World.cell?_of_block (a := ⟨b1, o1 + i, none⟩) (S.out.below.block b1 hl1)
                    clear hc1 htb
                    generalize os[i]'_ = x at f2
                    obtain ⟨p, n1, e1, e2, e3, e4, e5⟩ := mod_at x A hA0 (by omega)
                    go_wp2_with fail
                    go_meet
                    case rel => exact ⟨n1, e5, rfl, rfl⟩
                  | false =>
                    clear htb
                    go_wp2_with fail
                    go_meet
                    case rel => exact ⟨0, hA0, rfl, rfl⟩
                case rest =>
                  clear htb
                  obtain ⟨k, hkA, rfl, rfl⟩ := hcut
                  have hkAi : (k : Int) < A := by omega
                  obtain ⟨pa, pb, e, hpe, hpl, hek⟩ : ∃ pa pb e, all = pa ++ e :: pb ∧ pa.length = k ∧ all[k]? = some e := by
                    have hkk : k < all.length := by rw [← HAL.out]; exact hkA
                    refine ⟨all.take k, all.drop (k + 1), all[k], ?_, by rw [List.length_take]; omega, List.getElem?_eq_getElem hkk⟩
                    rw [← List.drop_eq_getElem_cons hkk, List.take_append_drop]
                  have HPA : Hid (all.take k = pa ∧ all.drop (k + 1) = pb) := Lib.hid (by
                    rw [hpe, ← hpl]
                    exact ⟨List.take_left' rfl, by rw [show pa ++ e :: pb = (pa ++ [e]) ++ pb by simp]; exact List.drop_left' (by simp)⟩)
                  have HEK : Hid (∀ h, all[k]'h = e) := Lib.hid (fun h => by rw [List.getElem?_eq_getElem h] at hek; exact Option.some.inj hek)
                  have hbk := HBK.out
                  rw [hpe] at hbk
                  obtain ⟨m2, hg1, hg2, hbk2⟩ := hbk.give
                  have HG1 := Lib.hid hg1
                  have HG2 := Lib.hid hg2
                  have HBK2 := Lib.hid hbk2
                  have HLN : Hid ((pa ++ pb).length + 1 = A) := Lib.hid (by rw [HAL.out, hpe]; simp; omega)
                  have HAB : Hid ((pa ++ pb).map Sp.ie = (all.map Sp.ie).take k ++ (all.map Sp.ie).drop (k + 1)) := Lib.hid (by rw [List.map_append, ← HPA.out.1, ← HPA.out.2, List.map_take, List.map_drop])
                  have hre := HBK.out.right e (by rw [hpe]; simp)
                  have HI64 : Hid (I64 (Sp.ie e).1 ∧ I64 (Sp.ie e).2) := Lib.hid (by unfold Sp.ie I64; simp only; omega)
                  obtain ⟨gq, hgq, f1, f2⟩ := R.out.cell k (by rw [List.length_map, ← HAL.out]; exact hkA)
                  cases hgq
                  rw [List.getElem_map, HEK.out] at f1 f2
                  have f1 : wr.cell? ⟨g, k * 2, none⟩ = some (.int .i64 (e.1 : Int)) := f1
                  have f2 : wr.cell? ⟨g, k * 2 + 1, none⟩ = some (.int .i64 (e.2 : Int)) := f2
                  have hlr := HP.out.lt S.out.thing
                  have hb6 : Below wr.heap.size wr (wr.alloc (.cells #[.int .i64 (e.1 : Int), .int .i64 (e.2 : Int)] 35)) := (Below.refl _ wr).alloc (Nat.le_refl _) _
                  have S6 := Lib.hid (S.out.later (fun h hs hk => HP.out.keep h hs hk) hlr hb6)
                  have R6 := Lib.hid (R.out.later hb6)
                  clear hpe hpl hek hbk hg1 hg2 hbk2 hre hb6 S R
                  have cG1 := HP.out.give q m F _ [Sp.ie e] _ S6.out.thing (by rw [HBK.out.long]; decide) (es_one wr (e.1 : Int) (e.2 : Int) hlr) (fun x hx => by rw [List.mem_singleton.1 hx]; exact HI64.out) (by simp) (HE.out _ S6.out.below)
                  rw [HG1.out] at cG1
                  go_wp2_with fail
                  refine cG1.mono ?_
                  rintro e5 w7 ⟨F7, rfl, hM7, ht7, hm7⟩
                  have S7 := Lib.hid (show Side W w7 (fun w F => MD w q m2 F) F7 from S6.out.step hM7 ht7 hm7)
                  have R7 := Lib.hid (R6.out.touch ht7 hm7)
                  have hl7 := HP.out.lt S7.out.thing
                  obtain ⟨gq, hgq, c1, c2⟩ := R7.out.cell k (by rw [List.length_map, ← HAL.out]; exact hkA)
                  cases hgq
                  rw [List.getElem_map, HEK.out] at c1 c2
                  have c1 : w7.cell? ⟨g, k * 2, none⟩ = some (.int .i64 (e.1 : Int)) := c1
                  have c2 : w7.cell? ⟨g, k * 2 + 1, none⟩ = some (.int .i64 (e.2 : Int)) := c2
                  have hb8 : Below w7.heap.size w7 (w7.alloc (.cells #[.int .i64 (e.1 : Int), .int .i64 (e.2 : Int)] 35)) := (Below.refl _ w7).alloc (Nat.le_refl _) _
                  have S8 := Lib.hid (S7.out.later (fun h hs hk => HP.out.keep h hs hk) hl7 hb8)
                  have R8 := Lib.hid (R7.out.later hb8)
                  have cG2 := HP.out.give q m2 F7 _ [Sp.ie e] _ S8.out.thing (by rw [HBK2.out.long]; decide) (es_one w7 (e.1 : Int) (e.2 : Int) hl7) (fun x hx => by rw [List.mem_singleton.1 hx]; exact HI64.out) (by simp) (HE.out _ S8.out.below)
                  rw [HG2.out] at cG2
                  clear cG1 hM7 ht7 hm7 S6 R6 S7 R7 hb8 f1 f2
                  go_wp2_with fail
                  refine cG2.mono ?_
                  rintro e5 w9 ⟨F9, rfl, hM9, ht9, hm9⟩
                  have S9 := Lib.hid (show Side W w9 (fun w F => MD w q m2 F) F9 from S8.out.step hM9 ht9 hm9)
                  have R9 := Lib.hid (R8.out.touch ht9 hm9)
                  clear cG2 hM9 ht9 hm9 S8 R8 c1 c2
                  have hsl1 := Lib.hid (R9.out.part1 (k := k) (by rw [List.length_map, ← HAL.out]; omega))
                  have hE0 := Lib.hid (ERow.empty W.heap.size F9 w9)
                  have hl9 := Lib.hid (HP.out.lt S9.out.thing)
                  go_upto_region 34 with (at_builtin; refine appEs hE0.out hsl1.out (by rw [List.length_take, List.length_map, ← HAL.out]; omega) (by rw [List.length_take, List.length_map, ← HAL.out]; simp; omega) S9.out.below.size hl9.out rfl _ _ rfl rfl rfl ?_; intro v10 w10 hE10 ht10)
                  have R10 := Lib.hid (R9.out.touchG ht10 (fun _ _ h => (by cases h)))
                  have S10 := Lib.hid (S9.out.touchG (fun h hs hk => HP.out.keep h hs hk) (HP.out.lt S9.out.thing) ht10 (fun _ h => (by cases h)))
                  have hE10 := Lib.hid hE10
                  have hl10 := Lib.hid (HP.out.lt S10.out.thing)
                  clear ht10 hsl1 hE0 R9 S9 hl9
                  have hsl2 := R10.out.part2 (k := k) (by rw [List.length_map, ← HAL.out]; omega)
                  by_cases hcap : ca9 = k + 1
                  · have hsl2 := (hsl2.1 hcap)
                    have hsl2 := Lib.hid hsl2
                    go_upto_region 35 with (at_builtin; go_loud (refine appEs hE10.out hsl2.out (by rw [List.length_drop, List.length_map, ← HAL.out]) (by rw [List.nil_append, List.length_take, List.length_drop, List.length_map, ← HAL.out]; omega) S10.out.below.size hl10.out rfl _ _ rfl rfl rfl ?_; intro v12 w12 hE12 ht12))
                    have S12 := Lib.hid (S10.out.touchG (fun h hs hk => HP.out.keep h hs hk) (HP.out.lt S10.out.thing) ht12 (fun k h => (hE10.out.own k h)))
                    have R12 : Hid (ERow W.heap.size F9 w12 v12 ((pa ++ pb).map Sp.ie)) := Lib.hid (by rw [List.nil_append] at hE12; rw [HAB.out]; exact hE12)
                    clear hE12 ht12 hsl2 R10 S10 hE10 hl10
                    have HIA2 : Hid (i + 1 + (pa ++ pb).length ≤ 1000) := Lib.hid (by have h1 := HIA.out; have h2 := HLN.out; have h3 := HAL.out; omega)
                    by_cases h3 : i % 3 = 2
                    · have h3i : (i : Int).tmod 3 = 2 := by rw [Int.tmod_eq_emod_of_nonneg (by omega)]; omega
                      have cC := HP.out.commit q m2 F9 w12 S12.out.thing (by rw [HBK2.out.long]; decide) (HE.out _ S12.out.below)
                      go_wp2_with fail
                      refine cC.mono ?_
                      rintro e5 w13 ⟨F13, x13, rfl, hM13, ht13, hm13⟩
                      have S13 := Lib.hid (show Side W w13 (fun w F => MD w q (Sp.commit m2) F) F13 from S12.out.step hM13 ht13 hm13)
                      have R13 := Lib.hid (R12.out.touch ht13 hm13)
                      clear cC hM13 ht13 hm13 S12 R12
                      go_wp2_with fail
                      go_roundw
                      case rel => exact ⟨i + 1, F13, Sp.commit m2, pa ++ pb, [], by go_num, HIA2, S13, Lib.hid HBK2.out.commit, R13⟩
                      case measure =>
                        obtain ⟨a9, c9, hv9, -⟩ := own_shape R13.out.row
                        rw [hv9]
                        have := HLN.out
                        show ((pa ++ pb).map Sp.ie).length < A
                        rw [List.length_map]; omega
                    · have h3i : ¬ (i : Int).tmod 3 = 2 := by rw [Int.tmod_eq_emod_of_nonneg (by omega)]; omega
                      go_wp2_with fail
                      go_roundw
                      case rel => exact ⟨i + 1, F9, m2, pa ++ pb, e :: ws, by go_num, HIA2, S12, HBK2, R12⟩
                      case measure =>
                        obtain ⟨a9, c9, hv9, -⟩ := own_shape R12.out.row
                        rw [hv9]
                        have := HLN.out
                        show ((pa ++ pb).map Sp.ie).length < A
                        rw [List.length_map]; omega
                  · have hsl2 := (hsl2.2 hcap)
                    have hsl2 := Lib.hid hsl2
                    go_upto_region 35 with (at_builtin; go_loud (refine appEs hE10.out hsl2.out (by rw [List.length_drop, List.length_map, ← HAL.out]) (by rw [List.nil_append, List.length_take, List.length_drop, List.length_map, ← HAL.out]; omega) S10.out.below.size hl10.out rfl _ _ rfl rfl rfl ?_; intro v12 w12 hE12 ht12))
                    have S12 := Lib.hid (S10.out.touchG (fun h hs hk => HP.out.keep h hs hk) (HP.out.lt S10.out.thing) ht12 (fun k h => (hE10.out.own k h)))
                    have R12 : Hid (ERow W.heap.size F9 w12 v12 ((pa ++ pb).map Sp.ie)) := Lib.hid (by rw [List.nil_append] at hE12; rw [HAB.out]; exact hE12)
                    clear hE12 ht12 hsl2 R10 S10 hE10 hl10
                    have HIA2 : Hid (i + 1 + (pa ++ pb).length ≤ 1000) := Lib.hid (by have h1 := HIA.out; have h2 := HLN.out; have h3 := HAL.out; omega)
                    by_cases h3 : i % 3 = 2
                    · have h3i : (i : Int).tmod 3 = 2 := by rw [Int.tmod_eq_emod_of_nonneg (by omega)]; omega
                      have cC := HP.out.commit q m2 F9 w12 S12.out.thing (by rw [HBK2.out.long]; decide) (HE.out _ S12.out.below)
                      go_wp2_with fail
                      refine cC.mono ?_
                      rintro e5 w13 ⟨F13, x13, rfl, hM13, ht13, hm13⟩
                      have S13 := Lib.hid (show Side W w13 (fun w F => MD w q (Sp.commit m2) F) F13 from S12.out.step hM13 ht13 hm13)
                      have R13 := Lib.hid (R12.out.touch ht13 hm13)
                      clear cC hM13 ht13 hm13 S12 R12
                      go_wp2_with fail
                      go_roundw
                      case rel => exact ⟨i + 1, F13, Sp.commit m2, pa ++ pb, [], by go_num, HIA2, S13, Lib.hid HBK2.out.commit, R13⟩
                      case measure =>
                        obtain ⟨a9, c9, hv9, -⟩ := own_shape R13.out.row
                        rw [hv9]
                        have := HLN.out
                        show ((pa ++ pb).map Sp.ie).length < A
                        rw [List.length_map]; omega
                    · have h3i : ¬ (i : Int).tmod 3 = 2 := by rw [Int.tmod_eq_emod_of_nonneg (by omega)]; omega
                      go_wp2_with fail
                      go_roundw
                      case rel => exact ⟨i + 1, F9, m2, pa ++ pb, e :: ws, by go_num, HIA2, S12, HBK2, R12⟩
                      case measure =>
                        obtain ⟨a9, c9, hv9, -⟩ := own_shape R12.out.row
                        rw [hv9]
                        have := HLN.out
                        show ((pa ++ pb).map Sp.ie).length < A
                        rw [List.length_map]; omega
              · have hAi : ¬ (0 : Int) < A := by omega
                obtain rfl : all = [] := List.length_eq_zero_iff.1 (by have := HAL.out; omega)
                have cA := HP.out.commit q m F wr S.out.thing (by rw [HBK.out.long]; decide) (HE.out _ S.out.below)
                rw [HBK.out.commit.none] at cA
                clear R
                go_wp2_with fail
                refine cA.mono ?_
                rintro e w5 ⟨F5, x5, rfl, hM5, ht5, hm5⟩
                have S5 := Lib.hid (show Side W w5 (fun w F => MD w q (Sp.new 500) F) F5 from S.out.step hM5 ht5 hm5)
                have cB := HP.out.free q (Sp.new 500) F5 w5 S5.out.thing (by decide) (HE.out _ S5.out.below)
                rw [Sp.new_free] at cB
                clear cA hM5 ht5 hm5 S
                go_wp2_with fail
                refine cB.mono ?_
                rintro e w6 ⟨F6, rfl, hM6, ht6, hm6⟩
                have S6 := Lib.hid (show Side W w6 (fun w F => MD w q (Sp.new 500) F) F6 from S5.out.step hM6 ht6 hm6)
                have cW := HP.out.waiting q (Sp.new 500) F6 w6 S6.out.thing (by decide) (HE.out _ S6.out.below)
                rw [Sp.new_waiting] at cW
                clear cB hM6 ht6 hm6 S5
                go_wp2_with fail
                refine cW.mono ?_
                rintro e w6b ⟨F6b, rfl, hM6b, ht6b, hm6b⟩
                have S6b := Lib.hid (show Side W w6b (fun w F => MD w q (Sp.new 500) F) F6b from S6.out.step hM6b ht6b hm6b)
                have cC := HP.out.runs q (Sp.new 500) F6b w6b S6b.out.thing (by decide) (HE.out _ S6b.out.below)
                rw [Sp.new_runs 500 (by decide)] at cC
                clear cW hM6b ht6b hm6b S6
                go_wp2_with fail
                refine cC.mono ?_
                rintro e w7 ⟨F7, v7, rfl, hM7, ht7, hm7, hE7⟩
                have S7 := Lib.hid (show Side W w7 (fun w F => MD w q (Sp.new 500) F) F7 from S6b.out.step hM7 ht7 hm7)
                have hb8 : Below w7.heap.size w7 (w7.alloc (.cells #[.int .i64 0, .int .i64 500] 35)) := (Below.refl _ w7).alloc (Nat.le_refl _) _
                have cS := Same_w _ _ _ _ _ (hE7.later hb8) (es_one (F := F7) w7 0 500 (HP.out.lt S7.out.thing))
                rw [decide_eq_true (by decide)] at cS
                have HB8 := Lib.hid (bt5 S7.out.below hb8)
                clear cC hM7 ht7 hm7 hE7 hb8 S6b
                go_wp2_with fail
                refine cS.mono ?_
                rintro e w9 ⟨rfl, hb9⟩
                have HB9 := Lib.hid (bt5 HB8.out hb9)
                clear cS hb9
                go_wp2_with fail
                go_ret
                exact ⟨rfl, HB9.out⟩
end
end Go.Proofs.Ytgfgafondiipoaa
