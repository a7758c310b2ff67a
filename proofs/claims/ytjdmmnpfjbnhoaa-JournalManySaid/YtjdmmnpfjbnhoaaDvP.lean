/- Package device: Flush, Read, Write; all its contracts in one pack. -/
import Derived.Test.YtjdmmnpfjbnhoaaDvP8
namespace Dv
theorem call_same (d : S) : (call d).1.safe = d.safe ∧ (call d).1.wait = d.wait ∧ (call d).1.bad = d.bad := by
  unfold call; split <;> exact ⟨rfl, rfl, rfl⟩
theorem sees_congr {d d' : S} (h1 : d'.safe = d.safe) (h2 : d'.wait = d.wait) : sees d' = sees d := by
  unfold sees see; rw [h1, h2]
end Dv
namespace Go.Proofs.Ytjdmmnpfjbnhoaa
open Go.RowKit

/-- A call that is counted, and what it answers. -/
theorem call_dev (g : Nat) (d : Dv.S) (F : Nat → Prop) (w : World) (h : Dev13 w g d F) (hn : d.n ≤ 1000000) :
    Calls Try.prog 41 #[.pointer (some ⟨g, 3, none⟩)] w fun e w' => e = .returned (.int .i64 (Dv.call d).2) ∧ Touch (fun k => k = g) w w' ∧ Dev13 w' g (Dv.call d).1 F := by
  obtain ⟨⟨n, bs, bv, wv, fv, L, hM, hL, hf⟩, hlt⟩ := h
  refine (call_w w g _ _ _ fv L d F hM.blk hf hL hn).mono ?_
  rintro e w' ⟨rfl, ht, L', hL', hb⟩
  obtain ⟨e1, e2, e3⟩ := Dv.call_same d
  have hM2 := hM.block (cn' := .int .i64 ((Dv.call d).1.n : Int)) (cl' := .int .i64 L') hb (fun k hk _ hn => ht.block k hk hn)
  refine ⟨rfl, ht, ⟨n, bs, bv, wv, fv, L', ?_, hL', ?_⟩, fun k hk => Nat.lt_of_lt_of_le (hlt k hk) ht.size⟩
  · rw [e1, e2, Dv.sees_congr e1 e2]; exact hM2
  · rw [e3]; exact hf.off hM (ht.mono (fun k _ hk => .inl hk))

set_option maxHeartbeats 1600000 in
set_option maxRecDepth 100000 in
theorem flush_w (g : Nat) (d : Dv.S) (F : Nat → Prop) (w : World) (h : Dev13 w g d F) (hn : d.n ≤ 1000000) (hw : d.wait.length ≤ 100000) :
    Calls Try.prog 21 #[.pointer (some ⟨g, 0, none⟩)] w fun e w' => ∃ F', e = .returned (.int .i64 (Dv.flush d).2) ∧ Dev13 w' g (Dv.flush d).1 F' ∧ Touch F w w' ∧ More F F' w := by
  have cC := call_dev g d F w h hn
  have hg : F g := by obtain ⟨⟨n, bs, bv, wv, fv, L, hM, _⟩, _⟩ := h; exact hM.hg
  obtain ⟨er, her⟩ : ∃ er, er = (Dv.call d).2 := ⟨_, rfl⟩
  have HER := Lib.hid her
  rw [← her] at cC
  clear h her
  by_cases h0 : er = 0
  · have HE : Hid (Dv.flush d = ({ (Dv.call d).1 with safe := d.wait.foldl Dv.done d.safe, wait := [] }, 0)) := Lib.hid (by unfold Dv.flush; rw [if_neg (by rw [← HER.out]; exact fun h => h h0)])
    subst h0
    go_enter Try.func21, Try.ntmps21
    go_wp2_with fail
    refine cC.mono ?_
    rintro e w1 ⟨rfl, ht1, hD1⟩
    obtain ⟨⟨n, bs, bv, wv, fv, L, hM1, hL1, hf1⟩, hlt1⟩ := hD1
    obtain ⟨e1, e2, e3⟩ := Dv.call_same d
    have hS := settleF_w w1 g (Own0 g bs bv wv) n bs bv wv fv _ _ _ _ _ (fun _ => 64) hM1.own (fun _ => Nat.le_refl _) (by rw [e2]; omega) (fun W' _ k _ => all64_w W' k)
    rw [Dv.settled, Dv.settle_all _ 0 _ hM1.gS (fun x hx => by rw [hM1.lS]; exact hM1.gW x hx), e1, e2] at hS
    have HS := Lib.hid hS
    have HM1 := Lib.hid hM1
    have HL1 := Lib.hid hL1
    have HF1 := Lib.hid hf1
    have HT1 := Lib.hid ht1
    have HLT1 := Lib.hid hlt1
    have HE3 := Lib.hid e3
    clear cC hS hM1 hL1 hf1 ht1 hlt1 e1 e2 e3
    go_wp2_with fail
    refine HS.out.mono ?_
    rintro e w2 ⟨rfl, ht2, hM2⟩
    have HT2 := Lib.hid ht2
    have HM2 := Lib.hid hM2
    clear ht2 hM2
    go_wp2_with fail
    go_ret
    have hT : Touch F w w2 := (HT1.out.mono (fun k _ hk => by rw [hk]; exact hg)).trans (HT2.out.mono (fun k _ hk => HM1.out.own_le k hk))
    refine ⟨F, by rw [HE.out]; rfl, ⟨⟨n, bs, bv, .slice none 0 0, fv, L, ?_, ?_, ?_⟩, fun k hk => Nat.lt_of_lt_of_le (HLT1.out k hk) HT2.out.size⟩, hT, fun k hk => .inl hk⟩
    · rw [HE.out]
      show Med w2 g F n bs bv _ fv _ _ (d.wait.foldl Dv.done d.safe) (Dv.sees { (Dv.call d).1 with safe := d.wait.foldl Dv.done d.safe, wait := [] }) []
      rw [Dv.sees_none (d := { (Dv.call d).1 with safe := d.wait.foldl Dv.done d.safe, wait := [] }) rfl]
      exact HM2.out.mono (fun k hk => HM1.out.own_le k hk)
    · rw [HE.out]; exact HL1.out
    · rw [HE.out]; exact HF1.out.off HM1.out HT2.out
  · have hb : (er != 0) = true := bne_iff_ne.2 h0
    have HE : Hid (Dv.flush d = Dv.call d) := Lib.hid (by unfold Dv.flush; rw [if_pos (by rw [← HER.out]; exact h0)])
    go_enter Try.func21, Try.ntmps21
    go_wp2_with fail
    refine cC.mono ?_
    rintro e w1 ⟨rfl, ht1, hD1⟩
    have HT1 := Lib.hid ht1
    have HD1 := Lib.hid hD1
    clear ht1 hD1 cC
    go_wp2_with fail
    go_ret
    exact ⟨F, by rw [HE.out, ← HER.out]; rfl, by rw [HE.out]; exact HD1.out, HT1.out.mono (fun k _ hk => by rw [hk]; exact hg), fun k hk => .inl hk⟩

set_option maxHeartbeats 1600000 in
set_option maxRecDepth 100000 in
theorem read_w (g : Nat) (d : Dv.S) (F : Nat → Prop) (at_ k : Int) (w : World) (h : Dev13 w g d F) (hn : d.n ≤ 1000000) (ha : -9223372036854775808 ≤ at_ ∧ at_ ≤ 9223372036854775807) (hk : -9223372036854775808 ≤ k ∧ k ≤ 9223372036854775807) :
    Calls Try.prog 12 #[.pointer (some ⟨g, 0, none⟩), .int .i64 at_, .int .i64 k] w fun e w' => ∃ F' v, e = .returned (.tuple #[v, .int .i64 (Dv.read d at_ k).2.2]) ∧ Dev13 w' g (Dv.read d at_ k).1 F' ∧ Touch F w w' ∧ More F F' w ∧ BsOut F' w' v (Dv.read d at_ k).2.1 := by
  have cC := call_dev g d F w h hn
  have HH := Lib.hid h
  obtain ⟨⟨n, bs, bv, wv, fv, L, hM, _⟩, _⟩ := h
  have cH := holds_w w g bv n d hM.lS hM.c1 hM.le at_ k ha hk
  have hg := hM.hg
  have HN := Lib.hid hM.lS
  have hn9 := hM.le
  clear hM
  obtain ⟨er, her⟩ : ∃ er, er = (Dv.call d).2 := ⟨_, rfl⟩
  have HER := Lib.hid her
  rw [← her] at cC
  clear her
  have HNIL : Hid (∀ (W : World), BsOut F W (.slice none 0 0) []) := Lib.hid (fun W => ⟨none, 0, rfl, Nat.le_refl _, by decide, .inl rfl⟩)
  cases ht : Dv.there d at_ k with
  | false =>
    have HE : Hid (Dv.read d at_ k = (d, [], 2)) := Lib.hid (by unfold Dv.read; rw [if_pos ht])
    rw [ht] at cH
    clear ht cC
    go_enter Try.func12, Try.ntmps12
    go_wp2_with fail
    refine cH.mono ?_
    rintro e w1 ⟨rfl, rfl⟩
    clear cH
    go_wp2_with fail
    go_ret2
    exact ⟨F, .slice none 0 0, by rw [HE.out]; rfl, by rw [HE.out]; exact HH.out, Touch.refl _ _, fun k hk => .inl hk, by rw [HE.out]; exact HNIL.out _⟩
  | true =>
    rw [ht] at cH
    by_cases h0 : er = 0
    · have HE : Hid (Dv.read d at_ k = ((Dv.call d).1, (List.range k.toNat).map (fun j => Dv.see d (at_.toNat + j)), 0)) := Lib.hid (by unfold Dv.read; rw [if_neg (by rw [ht]; decide), if_neg (by rw [← HER.out]; exact fun h => h h0)])
      subst h0
      have hth : 0 ≤ at_ ∧ 0 ≤ k ∧ at_ ≤ d.safe.length ∧ k ≤ d.safe.length - at_ := by unfold Dv.there at ht; exact of_decide_eq_true ht
      obtain ⟨a', ha'⟩ : ∃ a' : Nat, at_ = (a' : Int) := ⟨at_.toNat, by omega⟩
      obtain ⟨k', hk'⟩ : ∃ k' : Nat, k = (k' : Int) := ⟨k.toNat, by omega⟩
      subst ha' hk'
      have hak : a' + k' ≤ n := by have := HN.out; omega
      clear ht hth
      go_enter Try.func12, Try.ntmps12
      go_wp2_with fail
      refine cH.mono ?_
      rintro e w1 ⟨rfl, rfl⟩
      clear cH
      go_wp2_with fail
      refine cC.mono ?_
      rintro e w1 ⟨rfl, ht1, hD1⟩
      have HT1 := Lib.hid ht1
      have HD1 := Lib.hid hD1
      obtain ⟨⟨n2, bs2, bv2, wv2, fv2, L2, hM1, _⟩, hlt1⟩ := hD1
      obtain ⟨e1, e2, e3⟩ := Dv.call_same d
      have hn2 : n2 = n := by rw [← hM1.lS, e1]; exact HN.out
      subst hn2
      have cS := see_w w1 g F n2 bs2 bv2 wv2 fv2 _ _ _ _ _ hM1 hlt1 a' k' hak
      have hX : (List.range k').map (fun j => (Dv.sees (Dv.call d).1).getD (a' + j) []) = (List.range k').map (fun j => Dv.see d (a' + j)) := by
        apply List.map_congr_left
        intro j hj
        have hj9 := List.mem_range.1 hj
        rw [Dv.sees_congr e1 e2, List.getD_eq_getElem?_getD, List.getElem?_eq_getElem (by rw [Dv.sees_length, HN.out]; omega), Dv.sees_at]
        rfl
      rw [hX] at cS
      have CS := Lib.hid cS
      clear cC cS hX hM1 hlt1 e1 e2 e3 ht1
      go_wp2_with fail
      refine CS.out.mono ?_
      rintro e w2 ⟨v, rfl, hB, hb2⟩
      have HB := Lib.hid hB
      have HB2 := Lib.hid hb2
      clear hB hb2
      go_wp2_with fail
      go_ret2
      refine ⟨F, v, by rw [HE.out]; rfl, by rw [HE.out]; exact HD1.out.keep HB2.out.size (fun k hk => HB2.out.block k (HD1.out.lt k hk)), (HT1.out.mono (fun k _ hk => by rw [hk]; exact hg)).trans (Touch.of HB2.out), fun k hk => .inl hk, ?_⟩
      rw [HE.out]
      exact HB.out
    · have hb : (er != 0) = true := bne_iff_ne.2 h0
      have HE : Hid (Dv.read d at_ k = ((Dv.call d).1, [], (Dv.call d).2)) := Lib.hid (by unfold Dv.read; rw [if_neg (by rw [ht]; decide), if_pos (by rw [← HER.out]; exact h0)])
      clear ht
      go_enter Try.func12, Try.ntmps12
      go_wp2_with fail
      refine cH.mono ?_
      rintro e w1 ⟨rfl, rfl⟩
      clear cH
      go_wp2_with fail
      refine cC.mono ?_
      rintro e w1 ⟨rfl, ht1, hD1⟩
      have HT1 := Lib.hid ht1
      have HD1 := Lib.hid hD1
      clear ht1 hD1 cC
      go_wp2_with fail
      go_ret2
      exact ⟨F, .slice none 0 0, by rw [HE.out, ← HER.out]; rfl, by rw [HE.out]; exact HD1.out, HT1.out.mono (fun k _ hk => by rw [hk]; exact hg), fun k hk => .inl hk, by rw [HE.out]; exact HNIL.out _⟩

theorem write_head (d : Dv.S) (at_ : Int) (ls : List Dv.Sec) (h1 : Dv.there d at_ ls.length = true) (h2 : (ls.all fun x => decide (x.length = 64)) = true) : Dv.write d at_ ls = if (Dv.call d).2 ≠ 0 then Dv.call d else ({ (Dv.call d).1 with wait := d.wait ++ Dv.lay at_.toNat ls }, 0) := by
  unfold Dv.write
  rw [if_neg]
  rintro (h | h)
  · rw [h1] at h; cases h
  · rw [h2] at h; cases h

set_option maxHeartbeats 1600000 in
set_option maxRecDepth 100000 in
theorem write_w (g : Nat) (d : Dv.S) (F : Nat → Prop) (at_ : Int) (v : Value) (ls : List (List UInt8)) (w : World) (h : Dev13 w g d F) (hn : d.n ≤ 1000000) (hw : d.wait.length ≤ 100000) (hv : BsOut F w v ls) (hl : ls.length ≤ 1000) (ha : -9223372036854775808 ≤ at_ ∧ at_ ≤ 9223372036854775807) :
    Calls Try.prog 56 #[.pointer (some ⟨g, 0, none⟩), .int .i64 at_, v] w fun e w' => ∃ F', e = .returned (.int .i64 (Dv.write d at_ ls).2) ∧ Dev13 w' g (Dv.write d at_ ls).1 F' ∧ Touch F w w' ∧ More F F' w := by
  have cC := call_dev g d F w h hn
  have HH := Lib.hid h
  obtain ⟨⟨n, bs, bv, wv, fv, L, hM, _⟩, _⟩ := h
  have cH := holds_w w g bv n d hM.lS hM.c1 hM.le at_ ls.length ha (by omega)
  have cW := whole_w w v ls hv.in_
  have hg := hM.hg
  have HN := Lib.hid hM.lS
  have hn9 := hM.le
  have HV := Lib.hid hv
  clear hM
  obtain ⟨er, her⟩ : ∃ er, er = (Dv.call d).2 := ⟨_, rfl⟩
  have HER := Lib.hid her
  rw [← her] at cC
  clear her
  obtain ⟨av, cv, rfl, hcv, hcv9, hx9⟩ := hv
  clear hx9
  obtain ⟨m, hm⟩ : ∃ m, m = ls.length := ⟨_, rfl⟩
  have HM := Lib.hid hm
  rw [← hm] at cH cW hl hcv
  rw [← hm]
  cases ht : Dv.there d at_ m with
  | false =>
    have HE : Hid (Dv.write d at_ ls = (d, 2)) := Lib.hid (by unfold Dv.write; rw [if_pos (.inl (by rw [← hm]; exact ht))])
    rw [ht] at cH
    clear ht cC cW hm
    go_enter Try.func56, Try.ntmps56
    go_wp2_with fail
    refine cH.mono ?_
    rintro e w1 ⟨rfl, rfl⟩
    clear cH
    go_wp2_with fail
    go_ret
    exact ⟨F, by rw [HE.out]; rfl, by rw [HE.out]; exact HH.out, Touch.refl _ _, fun k hk => .inl hk⟩
  | true =>
    rw [ht] at cH
    cases h64 : (ls.all fun x => decide (x.length = 64)) with
    | false =>
      have HE : Hid (Dv.write d at_ ls = (d, 2)) := Lib.hid (by unfold Dv.write; rw [if_pos (.inr h64)])
      rw [h64] at cW
      clear ht cC hm h64
      go_enter Try.func56, Try.ntmps56
      go_wp2_with fail
      refine cH.mono ?_
      rintro e w1 ⟨rfl, rfl⟩
      clear cH
      go_wp2_with fail
      refine cW.mono ?_
      rintro e w1 ⟨rfl, rfl⟩
      clear cW
      go_wp2_with fail
      go_ret
      exact ⟨F, by rw [HE.out]; rfl, by rw [HE.out]; exact HH.out, Touch.refl _ _, fun k hk => .inl hk⟩
    | true =>
      rw [h64] at cW
      have HW := Lib.hid (write_head d at_ ls (by rw [← hm]; exact ht) h64)
      by_cases h0 : er = 0
      · have HE : Hid (Dv.write d at_ ls = ({ (Dv.call d).1 with wait := d.wait ++ Dv.lay at_.toNat ls }, 0)) := Lib.hid (by rw [HW.out, if_neg (by rw [← HER.out]; exact fun h => h h0)])
        subst h0
        have hth : 0 ≤ at_ ∧ 0 ≤ (m : Int) ∧ at_ ≤ d.safe.length ∧ (m : Int) ≤ d.safe.length - at_ := by unfold Dv.there at ht; exact of_decide_eq_true ht
        obtain ⟨a', ha'⟩ : ∃ a' : Nat, at_ = (a' : Int) := ⟨at_.toNat, by omega⟩
        subst ha'
        have hak : a' + m ≤ n := by have := HN.out; omega
        have H64 : Hid (∀ x ∈ ls, x.length = 64) := Lib.hid (fun x hx => of_decide_eq_true (List.all_eq_true.1 h64 x hx))
        clear ht hth hm h64 HW
        go_enter Try.func56, Try.ntmps56
        go_wp2_with fail
        refine cH.mono ?_
        rintro e w1 ⟨rfl, rfl⟩
        clear cH
        go_wp2_with fail
        refine cW.mono ?_
        rintro e w1 ⟨rfl, rfl⟩
        clear cW
        go_wp2_with fail
        refine cC.mono ?_
        rintro e w1 ⟨rfl, ht1, hD1⟩
        have HT1 := Lib.hid ht1
        obtain ⟨⟨n2, bs2, bv2, wv2, fv2, L2, hM1, hL1, hf1⟩, hlt1⟩ := hD1
        obtain ⟨e1, e2, e3⟩ := Dv.call_same d
        have hn2 : n2 = n := by rw [← hM1.lS, e1]; exact HN.out
        subst hn2
        have hv1 := (HV.out.touch (ht1.mono (F' := F) (fun k _ hk => by rw [hk]; exact hg)) (fun k hk => .inl hk)).anti (F' := Own0 g bs2 bv2 wv2) hM1.own_le
        have cP := put_w w1 g (Own0 g bs2 bv2 wv2) n2 bs2 bv2 wv2 fv2 _ _ (Dv.call d).1 a' ls _ hM1.own hv1 H64.out (by rw [← HM.out]; exact hak) (by rw [e2]; exact hw) (by rw [← HM.out]; exact hl)
        rw [← HM.out] at cP
        have CP := Lib.hid cP
        have HM1 := Lib.hid hM1
        have HL1 := Lib.hid hL1
        have HF1 := Lib.hid hf1
        have HLT1 := Lib.hid hlt1
        have HE2 := Lib.hid (And.intro e1 (And.intro e2 e3))
        clear cC cP hM1 hL1 hf1 hlt1 e1 e2 e3 ht1 hv1
        go_wp2_with fail
        refine CP.out.mono ?_
        rintro e w2 ⟨rfl, ht2, wv3, hM2⟩
        have HT2 := Lib.hid ht2
        have HM2 := Lib.hid hM2
        clear ht2 hM2
        go_wp2_with fail
        go_ret
        obtain ⟨e1, e2, e3⟩ := HE2.out
        have hT2 : Touch (Own0 g bs2 bv2 wv2) w1 w2 := HT2.out.mono (fun k hk hf => by
          rcases hf with h | h
          · exact h
          · omega)
        have hT : Touch F w w2 := (HT1.out.mono (fun k _ hk => by rw [hk]; exact hg)).trans (hT2.mono (fun k _ hk => HM1.out.own_le k hk))
        have hown : ∀ k, wv3.ownBlock = some k → F k ∨ w1.heap.size ≤ k := fun k hk => by
          rcases HM2.out.hw k hk with h | h
          · exact .inl (HM1.out.own_le k h)
          · exact .inr h
        refine ⟨fun k => F k ∨ wv3.ownBlock = some k, by rw [HE.out]; rfl, ⟨⟨n2, bs2, bv2, wv3, fv2, L2, ?_, ?_, ?_⟩, ?_⟩, hT, ?_⟩
        · rw [HE.out]
          have h9 := HM2.out.foot (F' := fun k => F k ∨ wv3.ownBlock = some k) (by
            rintro k (rfl | rfl | rfl | hk)
            · exact .inl HM1.out.hg
            · exact .inl HM1.out.hs
            · exact .inl HM1.out.hv
            · exact .inr hk)
          rw [e2] at h9
          exact h9
        · rw [HE.out]; exact HL1.out
        · rw [HE.out]; exact (HF1.out.off HM1.out hT2).mono (fun k hk => .inl hk)
        · rintro k (hk | hk)
          · exact Nat.lt_of_lt_of_le (HLT1.out k hk) HT2.out.size
          · exact HM2.out.wait.lt k hk
        · rintro k (hk | hk)
          · exact .inl hk
          · rcases hown k hk with h | h
            · exact .inl h
            · exact .inr (Nat.le_trans HT1.out.size h)
      · have hb : (er != 0) = true := bne_iff_ne.2 h0
        have HE : Hid (Dv.write d at_ ls = Dv.call d) := Lib.hid (by rw [HW.out, if_pos (by rw [← HER.out]; exact h0)])
        clear ht hm h64 HW
        go_enter Try.func56, Try.ntmps56
        go_wp2_with fail
        refine cH.mono ?_
        rintro e w1 ⟨rfl, rfl⟩
        clear cH
        go_wp2_with fail
        refine cW.mono ?_
        rintro e w1 ⟨rfl, rfl⟩
        clear cW
        go_wp2_with fail
        refine cC.mono ?_
        rintro e w1 ⟨rfl, ht1, hD1⟩
        have HT1 := Lib.hid ht1
        have HD1 := Lib.hid hD1
        clear ht1 hD1 cC
        go_wp2_with fail
        go_ret
        exact ⟨F, by rw [HE.out, ← HER.out]; rfl, by rw [HE.out]; exact HD1.out, HT1.out.mono (fun k _ hk => by rw [hk]; exact hg), fun k hk => .inl hk⟩

/-- Nothing is asked of the world. -/
def Env13 : World → Prop := fun _ => True
theorem prog13 : Prog13 Env13 Dev13 where
  env := fun _ _ => trivial
  lt := fun h => h.lt
  keep := fun h hs hk => h.keep hs hk
  new := fun k w h1 h2 _ => new_w k w h1 h2
  write := fun g d F a v ls w h hf hv hl ha _ => write_w g d F a v ls w h hf.1 hf.2.1 hv hl ha
  flush := fun g d F w h hf _ => flush_w g d F w h hf.1 hf.2.1
  read := fun g d F a k w h hf ha hk _ => read_w g d F a k w h hf.1 ha hk
  crash := fun g d F v keep torn p w h hf hv _ _ _ => crash_w g d F v keep torn p w h hf.2.1 hv
end Go.Proofs.Ytjdmmnpfjbnhoaa
