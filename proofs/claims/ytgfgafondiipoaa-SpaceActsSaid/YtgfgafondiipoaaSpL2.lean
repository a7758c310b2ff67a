/- The law SpaceFirst over the pack. -/
import Derived.Test.YtgfgafondiipoaaSpL1
namespace Go.Proofs.Ytgfgafondiipoaa
open Go.RowKit

/-- v reads as numbers. -/
def NsIn (w : World) (v : Value) (l : List Int) : Prop := ∃ ao cap, v = .slice ao l.length cap ∧ l.length ≤ cap ∧ cap ≤ 9223372036854775807 ∧ (l = [] ∨ ∃ b o, ao = some ⟨b, o, none⟩ ∧ b < w.heap.size ∧ ∀ j (hj : j < l.length), w.cell? ⟨b, o + j, none⟩ = some (.int .i64 l[j]))
/-- ((x % n) + n) % n as Go reckons it. -/
theorem mod_at (x : Int) (n : Nat) (hn : 1 ≤ n) (hn2 : n ≤ 1000000) : ∃ (q : Int) (k : Nat), x.tmod n = q ∧ -(n : Int) < q ∧ q < n ∧ (q + (n : Int)).tmod n = k ∧ k < n := by
  have h1 : -(n : Int) < x.tmod n := Int.lt_tmod_of_pos x (by omega)
  have h2 : x.tmod n < n := Int.tmod_lt_of_pos x (by omega)
  have h3 : 0 ≤ (x.tmod n + n).tmod n := Int.tmod_nonneg _ (by omega)
  have h4 := Int.tmod_lt_of_pos (x.tmod n + n) (b := n) (by omega)
  exact ⟨_, ((x.tmod n + n).tmod n).toNat, rfl, h1, h2, by omega, by omega⟩
section
variable {Env : World → Prop} {MD : World → Nat → Sp.M → (Nat → Prop) → Prop}
set_option maxHeartbeats 6400000 in
set_option maxRecDepth 100000 in
theorem first16 (P : Prog16 Env MD) (va : Value) (xs : List Int) (W : World) (hin : NsIn W va xs) (hE : Env W) :
    Calls Try.prog 6 #[va] W fun e w' => e = .returned (.bool true) ∧ Below W.heap.size W w' := by
  have HE := Lib.hid (fun (w : World) (hb : Below W.heap.size W w) => P.env hE hb)
  have HP := Lib.hid P
  have HA := Lib.hid (fun (w : World) (hb : Below W.heap.size W w) => awake16 P w (P.env hE hb))
  have hww : Below W.heap.size W W := Below.refl _ _
  obtain ⟨aa, ca, rfl, hla, hca, hga⟩ := hin
  obtain ⟨L, hL⟩ : ∃ L, L = xs.length := ⟨_, rfl⟩
  have HL := Lib.hid hL
  have HG := Lib.hid hga
  rw [← hL] at hla ⊢
  clear hE hL hga P
  by_cases h40 : (40 : Int) < L
  · have c0 := HA.out W hww
    go_enter Try.func6, Try.ntmps6
    go_wp2_with fail
    refine c0.mono ?_
    rintro e w1 ⟨rfl, hb1⟩
    have c1 := HA.out w1 hb1
    have H1 := Lib.hid hb1
    clear c0 hb1
    go_wp2_with fail
    refine c1.mono ?_
    rintro e w2 ⟨rfl, hb2⟩
    have H2 := Lib.hid (bt5 H1.out hb2)
    clear c1 hb2
    go_wp2_with fail
    go_ret
    exact ⟨rfl, H2.out⟩
  · have c0 := HA.out W hww
    go_enter Try.func6, Try.ntmps6
    go_wp2_with fail
    refine c0.mono ?_
    rintro e w1 ⟨rfl, hb1⟩
    have H1 := Lib.hid hb1
    have c1 := HP.out.new 200 w1 (by decide) (by decide) (HE.out w1 hb1)
    clear c0 hb1
    go_wp2_with fail
    refine c1.mono ?_
    rintro e w2 ⟨q, F2, rfl, hM2, hb2, hF2⟩
    have S2 := Lib.hid (show Side W w2 (fun w F => MD w q (Sp.firsts 200 0) F) F2 from ⟨hM2, fun k hk => Nat.le_trans H1.out.size (hF2 k hk), bt5 H1.out hb2⟩)
    clear c1 hM2 hb2 hF2 hww
    go_upto_region 8 with fail
    go_loopw [5, 6] (fun nx i wr => ∃ (k t : Nat) (F : Nat → Prop), k ≤ L ∧ t ≤ 200 ∧ nx = .int .i64 t ∧ i = .int .i64 k ∧ Hid (Side W wr (fun w F => MD w q (Sp.firsts 200 t) F) F)) (fun _ i _ => L - (intOf i).toNat)
    case atStart => exact ⟨0, 0, F2, Nat.zero_le _, Nat.zero_le _, rfl, rfl, S2⟩
    case round =>
      obtain ⟨k, t, F, hk, ht, rfl, rfl, S⟩ := hrel
      clear S2 H1
      by_cases hlt : k < L
      · have hki : (k : Int) < L := by omega
        obtain ⟨b1, o1, hx1, hl1, hc1⟩ := HG.out.resolve_left (fun x => by have := HL.out; rw [x] at this; simp at this; omega)
        subst hx1
        have f1 := S.out.below.trans (Below.refl _ _)
        have f2 : wr.cell? ⟨b1, o1 + k, none⟩ = some (.int .i64 (xs[k]'(by rw [← HL.out]; exact hlt))) := by
          rw [← hc1 k (by rw [← HL.out]; exact hlt)]
          exact World.cell?_of_block (a := ⟨b1, o1 + k, none⟩) (f1.block b1 hl1)
        clear hc1 f1
        generalize xs[k]'_ = x at f2
        obtain ⟨p, n, e1, e2, e3, e4, e5⟩ : ∃ (q : Int) (k : Nat), x.tmod 20 = q ∧ -20 < q ∧ q < 20 ∧ (q + 20).tmod 20 = (k : Int) ∧ k < 20 := mod_at x 20 (by decide) (by decide)
        obtain ⟨N, hN⟩ : ∃ N : Int, N = 1 + (n : Int) := ⟨_, rfl⟩
        have c3 := HP.out.take q (Sp.firsts 200 t) F N wr S.out.thing (by rw [Sp.firsts_length ht]; decide) (by subst hN; exact ⟨by omega, by omega⟩) (HE.out _ S.out.below)
        rw [Sp.firsts_take ht N (by omega)] at c3
        by_cases hfit : (t : Int) + N ≤ 200
        · rw [if_pos (show (t : Int) + N ≤ ((200 : Nat) : Int) from hfit)] at c3
          obtain ⟨t', ht'⟩ : ∃ t', t' = t + N.toNat := ⟨_, rfl⟩
          rw [← ht'] at c3
          have ht2 : (t' : Int) = t + N := by omega
          have ht3 : t' ≤ 200 := by omega
          clear ht'
          subst hN
          go_wp2_with fail
          refine c3.mono ?_
          rintro e w4 ⟨F4, rfl, hM4, ht4, hm4⟩
          have S4 := Lib.hid (show Side W w4 (fun w F => MD w q (Sp.firsts 200 t') F) F4 from S.out.step hM4 ht4 hm4)
          have hb5 : Below w4.heap.size w4 (w4.alloc (.cells #[.int .i64 (t : Int), .int .i64 (1 + (n : Int))] 35)) := (Below.refl _ w4).alloc (Nat.le_refl _) _
          have S5 := Lib.hid (S4.out.later (fun h hs hk => HP.out.keep h hs hk) (HP.out.lt S4.out.thing) hb5)
          have B5 := Lib.hid (Bx.made (F := F4) w4 (t : Int) (1 + (n : Int)) (HP.out.lt S4.out.thing))
          have f3 := B5.out.c0
          have f4 := B5.out.c1
          clear c3 hM4 ht4 hm4 hb5 S S4
          unfold ext
          go_upto_region 12 with fail
          generalize w4.alloc _ = w5 at S5 B5 f3 f4 ⊢
          go_wp2_with fail
          go_roundw
          case rel => exact ⟨k + 1, t', F4, by omega, ht3, by go_num, by go_num, S5⟩
          case measure => simp [intOf]; omega
        · rw [if_neg (show ¬ (t : Int) + N ≤ ((200 : Nat) : Int) from hfit)] at c3
          subst hN
          go_wp2_with fail
          refine c3.mono ?_
          rintro e w4 ⟨F4, rfl, hM4, ht4, hm4⟩
          have S4 := Lib.hid (show Side W w4 (fun w F => MD w q (Sp.firsts 200 t) F) F4 from S.out.step hM4 ht4 hm4)
          have hb5 : Below w4.heap.size w4 (w4.alloc (.cells #[.int .i64 0, .int .i64 0] 35)) := (Below.refl _ w4).alloc (Nat.le_refl _) _
          have S5 := Lib.hid (S4.out.later (fun h hs hk => HP.out.keep h hs hk) (HP.out.lt S4.out.thing) hb5)
          clear c3 hM4 ht4 hm4 hb5 S S4
          unfold ext
          go_upto_region 12 with fail
          generalize w4.alloc _ = w5 at S5 ⊢
          go_wp2_with fail
          go_roundw
          case rel => exact ⟨k + 1, t, F4, by omega, ht, by go_num, by go_num, S5⟩
          case measure => simp [intOf]; omega
      · have hki : ¬ (k : Int) < L := by omega
        have c3 := HP.out.free q (Sp.firsts 200 t) F wr S.out.thing (by rw [Sp.firsts_length ht]; decide) (HE.out _ S.out.below)
        rw [Sp.firsts_free] at c3
        obtain ⟨r, hr⟩ : ∃ r, r = 200 - t := ⟨_, rfl⟩
        rw [← hr] at c3
        have hr2 : (r : Int) = 200 - t := by omega
        clear hr
        go_wp2_with fail
        refine c3.mono ?_
        rintro e w4 ⟨F4, rfl, hM4, ht4, hm4⟩
        have S4 := Lib.hid (show Side W w4 (fun w F => MD w q (Sp.firsts 200 t) F) F4 from S.out.step hM4 ht4 hm4)
        clear c3 hM4 ht4 hm4 S
        go_wp2_with fail
        go_ret
        exact ⟨rfl, S4.out.below⟩
end
end Go.Proofs.Ytgfgafondiipoaa
