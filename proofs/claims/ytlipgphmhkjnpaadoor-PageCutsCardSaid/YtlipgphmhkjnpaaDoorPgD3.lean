/- The document's own device (layer 13): Read, Flush. -/
import Derived.Test.YtlipgphmhkjnpaaDoorPgD2
import Derived.Test.YtlipgphmhkjnpaaDoorDvP5
import Derived.Test.YtlipgphmhkjnpaaDoorDvP
namespace Go.Proofs.YtlipgphmhkjnpaaDoor
open Go.RowKit

/-- A row of octets' slices of the call's own, with one more. -/
theorem outs_next {w w2 : World} {F : Nat → Prop} {base : Nat} {v0 : Value} {xs : List Value} {X : Nat → List UInt8} {y : Value} (h : w.ownsRow base 23 1 v0 xs.length xs) (hx : ∀ t (ht : t < xs.length), OIn F w xs[t] (X t)) (hy : OIn F w y (X xs.length)) (hg : w.grownBy w2 v0.ownBlock) : ∀ t (ht : t < (xs ++ [y]).length), OIn F w2 (xs ++ [y])[t] (X t) := by
  have hk : ∀ k C fr, F k → w.heap[k]? = some (.cells C 5 fr) → w2.heap[k]? = w.heap[k]? := fun k C fr _ hb => hg.block k (lt_of_block hb) (fun e => by
    obtain ⟨C9, hC9⟩ := row_type h e.symm
    exact ne_block hb hC9 (by decide) rfl)
  intro t ht
  rw [List.getElem_append]
  split
  · rename_i h1
    exact (hx t h1).keep (fun _ hf => hf) hk
  · rename_i h1
    have e : t = xs.length := by simp at ht; omega
    subst e
    simp only [Nat.sub_self, List.getElem_singleton]
    exact hy.keep (fun _ hf => hf) hk
theorem outs_in {w : World} {F : Nat → Prop} {base : Nat} {v : Value} {xs : List Value} {X : Nat → List UInt8} {n : Nat} (hn : xs.length = n) (h : w.ownsRow base 23 1 v xs.length xs) (hx : ∀ t (ht : t < xs.length), OIn F w xs[t] (X t)) : BsIn w v ((List.range n).map X) := by
  have hl : ((List.range n).map X).length = n := by simp
  rcases h.2 with ⟨hv, h0⟩ | ⟨g, cap, cur, hv, hb, hh, h1, h2, h3, h4⟩
  · have hn0 : n = 0 := by omega
    subst hn0
    exact ⟨none, 0, by rw [hv]; rfl, Nat.le_refl _, by decide, .inl rfl⟩
  · refine ⟨_, cap, by rw [hv, hl, hn], by rw [hl]; omega, by unfold maxLen at h2; omega, .inr ⟨g, 0, rfl, lt_of_block hh, fun j hj => ?_⟩⟩
    rw [hl] at hj
    have hjx : j < xs.length := by omega
    refine ⟨xs[j], ?_, ?_⟩
    · have e : (cur.toList.take (xs.length * 1))[j]? = xs[j]? := by rw [h4]
      rw [List.getElem?_take_of_lt (by omega), List.getElem?_eq_getElem hjx] at e
      rw [Nat.zero_add]
      simp only [World.cell?, hh]
      simpa using e
    · have e : ((List.range n).map X)[j]'(by rw [hl]; exact hj) = X j := by simp
      rw [e]
      exact (hx j hjx).bin
theorem RMed.call_facts {d : Dv.S} : Dv.sees (Dv.call d).1 = Dv.sees d ∧ (Dv.call d).1.safe.length = d.safe.length ∧ ∀ i, Dv.see (Dv.call d).1 i = Dv.see d i := by
  obtain ⟨e1, e2, e3⟩ := Dv.call_same d
  exact ⟨Dv.sees_congr e1 e2, by rw [e1], fun i => by unfold Dv.see; rw [e1, e2]⟩

set_option maxHeartbeats 1600000 in
set_option maxRecDepth 100000 in
theorem rread_w (w : World) (g B : Nat) (F : Nat → Prop) (vs vw vb : Value) (us : List Value) (ws : List (Nat × Value)) (d : Dv.S) (h : RMed w g F B vs vw vb us ws d) (hn : d.n ≤ 1000000) (hw : d.wait.length ≤ 100000) (at_ k : Int) (ha : -9223372036854775808 ≤ at_ ∧ at_ ≤ 9223372036854775807) (hk : -9223372036854775808 ≤ k ∧ k ≤ 9223372036854775807) :
    Calls Tryd.prog 19 #[.pointer (some ⟨g, 0, none⟩), .int .i64 at_, .int .i64 k] w fun e w' => ∃ v, e = .returned (.tuple #[v, .int .i64 (Dv.read d at_ k).2.2]) ∧ BsIn w' v (Dv.read d at_ k).2.1 ∧ Touch (fun k => k = g) w w' ∧ RMed w' g F B vs vw vb us ws (Dv.read d at_ k).1 := by
  have HH := Lib.hid h
  have cC := rcall_w w g B F vs vw vb us ws d h hn
  have cT : Calls Tryd.prog 36 #[.pointer (some ⟨g, 0, none⟩), .int .i64 at_, .int .i64 k] w fun e w' => e = .returned (.bool (Dv.there d at_ k)) ∧ w = w' := by
    have c0 := h.c0
    have hl := h.le
    obtain ⟨⟨a0, z0, hv, hz0, hz09⟩, _⟩ := h.shapes
    rw [hv] at c0
    exact rthere_w w g d a0 _ z0 rfl hl hz0 hz09 c0 at_ k ha hk
  have hle := h.le
  clear h
  obtain ⟨er, her⟩ : ∃ er, er = (Dv.call d).2 := ⟨_, rfl⟩
  have HER := Lib.hid her
  rw [← her] at cC
  clear her
  have HNIL : Hid (∀ (W : World), BsIn W (.slice none 0 0) []) := Lib.hid (fun W => ⟨none, 0, rfl, Nat.le_refl _, by decide, .inl rfl⟩)
  cases ht : Dv.there d at_ k with
  | false =>
    have HE : Hid (Dv.read d at_ k = (d, [], 2)) := Lib.hid (by unfold Dv.read; rw [if_pos ht])
    rw [ht] at cT
    clear ht cC
    go_enter Tryd.func19, Tryd.ntmps19
    go_wp2_with fail
    refine cT.mono ?_
    rintro e w1 ⟨rfl, rfl⟩
    clear cT
    go_wp2_with fail
    go_ret2
    exact ⟨.slice none 0 0, by rw [HE.out]; rfl, by rw [HE.out]; exact HNIL.out _, Touch.refl _ _, by rw [HE.out]; exact HH.out⟩
  | true =>
    rw [ht] at cT
    by_cases h0 : er = 0
    · have HE : Hid (Dv.read d at_ k = ((Dv.call d).1, (List.range k.toNat).map (fun j => Dv.see d (at_.toNat + j)), 0)) := Lib.hid (by unfold Dv.read; rw [if_neg (by rw [ht]; decide), if_neg (by rw [← HER.out]; exact fun h => h h0)])
      subst h0
      have hth : 0 ≤ at_ ∧ 0 ≤ k ∧ at_ ≤ d.safe.length ∧ k ≤ d.safe.length - at_ := by unfold Dv.there at ht; exact of_decide_eq_true ht
      obtain ⟨a', ha'⟩ : ∃ a' : Nat, at_ = (a' : Int) := ⟨at_.toNat, by omega⟩
      obtain ⟨k', hk'⟩ : ∃ k' : Nat, k = (k' : Int) := ⟨k.toNat, by omega⟩
      subst ha' hk'
      obtain ⟨n, hnn⟩ : ∃ n, n = d.safe.length := ⟨_, rfl⟩
      have HN := Lib.hid hnn
      rw [← hnn] at hle
      have hak : a' + k' ≤ n := by omega
      have hws : IntKind.i64.wrap ((a' : Int) + k') = (a' : Int) + k' := by rw [IntKind.wrap_i64]; omega
      clear ht hth hnn
      go_enter Tryd.func19, Tryd.ntmps19
      go_wp2_with fail
      refine cT.mono ?_
      rintro e w1 ⟨rfl, rfl⟩
      clear cT
      go_wp2_with fail
      refine cC.mono ?_
      rintro e w1 ⟨rfl, ht1, hM1⟩
      have HT1 := Lib.hid ht1
      have HM1 := Lib.hid hM1
      have HS := Lib.hid (RMed.call_facts (d := d))
      have HWL : Hid ((Dv.call d).1.wait.length ≤ 100000) := Lib.hid (by rw [(Dv.call_same d).2.1]; exact hw)
      clear ht1 hM1 cC hw
      go_wp2_with fail
      go_loopw [9, 10] (fun v i wr => ∃ j : Nat, j ≤ k' ∧ i = .int .i64 ((a' : Int) + j) ∧ ∃ xs : List Value, Hid (xs.length = j) ∧ Hid (wr.ownsRow w1.heap.size 23 1 v xs.length xs ∧ (∀ t (ht : t < xs.length), OIn F wr xs[t] (Dv.see d (a' + t))) ∧ Below w1.heap.size w1 wr)) (fun _ i _ => (a' + k') - (intOf i).toNat)
      case atStart => exact ⟨0, Nat.zero_le _, by simp, [], Lib.hid rfl, Lib.hid ⟨World.ownsRow_nil _ _ _ _, fun t ht => absurd ht (Nat.not_lt_zero t), Below.refl _ _⟩⟩
      case round =>
        obtain ⟨j, hj, rfl, xs, HXL, HX⟩ := hrel
        by_cases hlt : j < k'
        · have hji : (a' : Int) + j < (a' : Int) + k' := by omega
          obtain ⟨p, hp⟩ : ∃ p : Nat, p = a' + j := ⟨_, rfl⟩
          have hpe : (a' : Int) + j = (p : Int) := by omega
          have hpn : p < n := by omega
          have HP := Lib.hid hp
          rw [hpe] at hji ⊢
          have cS := rsee_w wr g B F vs vw vb us ws _ (HM1.out.later HX.out.2.2) p (by rw [HS.out.2.1, ← HN.out]; exact hpn) HWL.out
          rw [HS.out.2.2 p] at cS
          have CS := Lib.hid cS
          have hwp : IntKind.i64.wrap ((p : Int) + 1) = (p : Int) + 1 := by rw [IntKind.wrap_i64]; omega
          clear hp hpe cS
          go_wp2_with fail
          refine CS.out.mono ?_
          rintro e w2 ⟨y, rfl, hy, rfl⟩
          have HY := Lib.hid hy
          clear hy
          obtain ⟨i0, hi0, hz0, hz1, hz2⟩ := info_parts slices_info
          obtain ⟨yb, yo, yc, yC, yf, hye, _⟩ := id HY.out
          obtain ⟨yl, hyl⟩ : ∃ yl, yl = (Dv.see d p).length := ⟨_, rfl⟩
          rw [← hyl] at hye
          clear hyl
          subst hye
          have hal : Below wr.heap.size wr (wr.alloc (.cells #[.slice (some ⟨yb, yo, none⟩) yl yc] 23)) := (Below.refl _ wr).alloc (Nat.le_refl _) _
          have ho2 := HX.out.1.alloc (.cells #[.slice (some ⟨yb, yo, none⟩) yl yc] 23)
          have hx2 : ∀ t (ht : t < xs.length), OIn F (wr.alloc (.cells #[.slice (some ⟨yb, yo, none⟩) yl yc] 23)) xs[t] (Dv.see d (a' + t)) := fun t ht => (HX.out.2.1 t ht).keep (fun _ hf => hf) (fun k9 _ _ _ hb => hal.block k9 (lt_of_block hb))
          have hy2 : OIn F (wr.alloc (.cells #[.slice (some ⟨yb, yo, none⟩) yl yc] 23)) (.slice (some ⟨yb, yo, none⟩) yl yc) (Dv.see d (a' + xs.length)) := by
            rw [HXL.out, ← HP.out]
            exact HY.out.keep (fun _ hf => hf) (fun k9 _ _ _ hb => hal.block k9 (lt_of_block hb))
          have hb2 : Below w1.heap.size w1 (wr.alloc (.cells #[.slice (some ⟨yb, yo, none⟩) yl yc] 23)) := HX.out.2.2.alloc HX.out.2.2.size _
          have hnew := heap_alloc_new wr (.cells #[.slice (some ⟨yb, yo, none⟩) yl yc] 23)
          have hxl9 : xs.length ≤ 65536 := by rw [HXL.out]; omega
          have HX2 := Lib.hid hx2
          have HY2 := Lib.hid hy2
          have HB2 := Lib.hid hb2
          clear hal hx2 hy2 hb2
          go_wp2_with (refine wpList_append_own _ rfl (.tmp 29) (.tmp 33) 22 rfl w1.heap.size 23 i0 (.slice none 0 0) 1 24 Tryd.underlying22 hi0 hz0 hz1 hz2 rfl (by decide) u9 xs.length xs rfl ho2 ⟨wr.heap.size, 0, none⟩ 1 1 [.slice (some ⟨yb, yo, none⟩) yl yc] rfl rfl (fun j9 u9 hj9 => by
            match j9, hj9 with
            | 0, hj9 => cases hj9; rw [Addr.add_lit]; simp only [World.cell?, hnew]; simp) (fun u9 hu9 => by rw [List.mem_singleton.1 hu9]; rfl) (by unfold maxLen; omega) (by omega) HB2.out.size ?_; intro v9 w9 ho9 hg9 _; have HO9 := Lib.hid ho9; have HX9 := Lib.hid (outs_next (X := fun t => Dv.see d (a' + t)) ho2 HX2.out HY2.out hg9); have HB9 := Lib.hid (HB2.out.grown hg9 HB2.out.size (fun k9 hk9 => (World.ownsRow.lt ho2 k9 hk9).1)); clear ho9 hg9)
          go_roundw
          case rel => exact ⟨j + 1, by omega, by have := HP.out; go_num, xs ++ [.slice (some ⟨yb, yo, none⟩) yl yc], Lib.hid (by rw [List.length_append, HXL.out]; rfl), Lib.hid ⟨by rw [List.length_append]; exact HO9.out, HX9.out, HB9.out⟩⟩
          case measure => simp [intOf]; omega
        · have hji : ¬ (a' : Int) + j < (a' : Int) + k' := by omega
          obtain rfl : j = k' := by omega
          have HB := Lib.hid (outs_in (X := fun t => Dv.see d (a' + t)) HXL.out HX.out.1 HX.out.2.1)
          have hsh : ∃ a c, u9 = .slice a xs.length c := by
            obtain ⟨a9, c9, h9, _⟩ := own_shape HX.out.1
            exact ⟨a9, c9, h9⟩
          obtain ⟨a9, c9, rfl⟩ := hsh
          clear hlt hj
          go_wp2_with fail
          go_ret2
          refine ⟨_, by rw [HE.out]; rfl, by rw [HE.out]; exact HB.out, HT1.out.trans ((Touch.of HX.out.2.2).mono (fun _ _ hf => hf)), by rw [HE.out]; exact HM1.out.later HX.out.2.2⟩
    · have hb : (er != 0) = true := bne_iff_ne.2 h0
      have HE : Hid (Dv.read d at_ k = ((Dv.call d).1, [], (Dv.call d).2)) := Lib.hid (by unfold Dv.read; rw [if_neg (by rw [ht]; decide), if_pos (by rw [← HER.out]; exact h0)])
      clear ht
      go_enter Tryd.func19, Tryd.ntmps19
      go_wp2_with fail
      refine cT.mono ?_
      rintro e w1 ⟨rfl, rfl⟩
      clear cT
      go_wp2_with fail
      refine cC.mono ?_
      rintro e w1 ⟨rfl, ht1, hM1⟩
      have HT1 := Lib.hid ht1
      have HM1 := Lib.hid hM1
      clear ht1 hM1 cC
      go_wp2_with fail
      go_ret2
      exact ⟨.slice none 0 0, by rw [HE.out, ← HER.out]; rfl, by rw [HE.out]; exact HNIL.out _, HT1.out, by rw [HE.out]; exact HM1.out⟩
end Go.Proofs.YtlipgphmhkjnpaaDoor
