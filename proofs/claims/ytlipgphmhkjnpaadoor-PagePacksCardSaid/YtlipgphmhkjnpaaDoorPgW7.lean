/- The program's package page: Unpack. -/
import Derived.Test.YtlipgphmhkjnpaaDoorPgW6
import Derived.Test.YtlipgphmhkjnpaaDoorQuiet
namespace Go.Proofs.YtlipgphmhkjnpaaDoor
open Go.RowKit

theorem pSectors_w (v : Value) (l : List UInt8) (w : World) (h : BIn w v l) (hl : l.length ≤ 1000000) :
    Calls Tryd.prog 27 #[v] w fun e w' => ∃ u, e = .returned u ∧ SecRow w w' u (Pg.sectors l) :=
  callsIn_wide.1 (sectors_in Fence.wide 6 trivial trivial trivial rfl (by decide) v l w h hl)

theorem Buf.new {W w : World} {v : Value} {l : List UInt8} (h : Buf W w v l) : ∀ ad n c, v = .slice (some ad) n c → W.heap.size ≤ ad.block := by
  intro ad n c e
  rcases h.1.2 with ⟨h0, _⟩ | ⟨g, cap, cur, hv, hg, _⟩
  · rw [h0] at e; cases e
  · rw [hv] at e; cases e; exact hg
theorem i64_join (a b : Nat) (ha : a < 256) (hb : b < 256) : bits .or .i64 ((a : Int) * 256) (b : Int) = ((256 * a + b : Nat) : Int) := by
  rw [bits_join .i64 32 (by decide) (fun n h1 h2 => by rw [IntKind.wrap_i64]; omega) 8 _ _ (by omega) (by omega) (by omega) (by omega) (by omega) (by omega)]
  omega

set_option maxHeartbeats 3200000 in
set_option maxRecDepth 100000 in
theorem pUnpack_w (v : Value) (l : List UInt8) (w : World) (h : BIn w v l) (hT : CTab w) :
    Calls Tryd.prog 11 #[v] w fun e w' => ∃ u, e = .returned (.tuple #[.int .i64 ((Pg.unp l).1 : Int), u, .int .i64 (if (Pg.unp l).2.2 then 0 else 33)]) ∧ Below w.heap.size w w' ∧ BIn w' u (Pg.unp l).2.1 ∧ NilOk u ∧ ∀ ad n c, u = .slice (some ad) n c → w.heap.size ≤ ad.block := by
  by_cases h5 : ¬ l.length = 512
  · obtain ⟨ao, cap, rfl, hlc, hc9, hg⟩ := h
    rw [Pg.unp_no (fun x => h5 x.1)]
    have h5i : ((l.length : Int) != 512) = true := bne_iff_ne.2 (by omega)
    have h5n : ¬ (l.length : Int) = 512 := by omega
    clear hg h5 hT
    generalize l.length = n at *
    go_enter Tryd.func11, Tryd.ntmps11
    go_wp2_with fail
    go_ret3
    exact ⟨_, rfl, Below.refl _ _, (bin_nil w).1, (bin_nil w).2, fun _ _ _ e => by cases e⟩
  replace h5 : l.length = 512 := Classical.not_not.1 h5
  have cO := Open_w v l w h (by omega) hT
  obtain ⟨ao, cp, rfl, hlc, hc9, _⟩ := h
  rw [h5] at hlc cO ⊢
  by_cases h2 : ¬ (Cr.opn l).2 = 0
  · rw [Pg.unp_bad h2]
    obtain ⟨E, hE⟩ : ∃ E, E = (Cr.opn l).2 := ⟨_, rfl⟩
    rw [← hE] at cO h2
    generalize (Cr.opn l).1 = y at cO
    have hEb : (E != 0) = true := bne_iff_ne.2 h2
    clear hE hT
    go_enter Tryd.func11, Tryd.ntmps11
    go_wp2_with fail
    refine cO.mono ?_
    rintro e w1 ⟨u, rfl, hB⟩
    have HB := Lib.hid hB.below
    clear cO hB
    go_wp2_with fail
    go_ret3
    exact ⟨_, rfl, HB.out, (bin_nil w1).1, (bin_nil w1).2, fun _ _ _ e => by cases e⟩
  replace h2 : (Cr.opn l).2 = 0 := Classical.not_not.1 h2
  obtain ⟨t, ht, hlt, ho⟩ := Pg.opn_good h5 h2
  rw [ho, h2] at cO
  rw [hlt, Pg.unp_frame ht]
  clear hlt ho h2 h5
  have HT := Lib.hid ht
  have hx0 : Pg.kind3 t = (t[0]'(by omega)).toNat := by unfold Pg.kind3; rw [List.getD_eq_getElem?_getD, List.getElem?_eq_getElem (by omega)]; rfl
  have hx1 : Pg.size3 t = 256 * (t[1]'(by omega)).toNat + (t[2]'(by omega)).toNat := by unfold Pg.size3; rw [List.getD_eq_getElem?_getD, List.getElem?_eq_getElem (by omega), List.getD_eq_getElem?_getD, List.getElem?_eq_getElem (by omega)]; rfl
  have HOF := Lib.hid (show Pg.ofT t = if Pg.kind3 t = 0 ∨ 505 < Pg.size3 t ∨ Pg.blank (t.drop (3 + Pg.size3 t)) = false then (0, [], false) else (Pg.kind3 t, (t.drop 3).take (Pg.size3 t), true) from rfl)
  rw [hx0, hx1] at HOF
  generalize Pg.ofT t = A at HOF ⊢
  obtain ⟨G, hG⟩ : ∃ G : Int, G = if A.2.2 = true then 0 else 33 := ⟨_, rfl⟩
  have HGG := Lib.hid hG
  rw [← hG]
  clear hG
  have y0 := (t[0]'(by omega)).toNat_lt
  have y1 := (t[1]'(by omega)).toNat_lt
  have y2 := (t[2]'(by omega)).toNat_lt
  obtain ⟨a0, ha0⟩ : ∃ a, a = (t[0]'(by omega)).toNat := ⟨_, rfl⟩
  obtain ⟨a1, ha1⟩ : ∃ a, a = (t[1]'(by omega)).toNat := ⟨_, rfl⟩
  obtain ⟨a2, ha2⟩ : ∃ a, a = (t[2]'(by omega)).toNat := ⟨_, rfl⟩
  rw [← ha0] at y0 HOF
  rw [← ha1] at y1 HOF
  rw [← ha2] at y2 HOF
  obtain ⟨N, hN⟩ : ∃ N, N = 256 * a1 + a2 := ⟨_, rfl⟩
  rw [← hN] at HOF
  have HA0 := Lib.hid (And.intro ha0 (And.intro ha1 (And.intro ha2 hN)))
  clear ha0 ha1 ha2 hx0 hx1
  have hor : bits .or .i64 ((a1 : Int) * 256) (a2 : Int) = (N : Int) := by rw [hN]; exact i64_join a1 a2 y1 y2
  have m0 : IntKind.i64.wrap (a0 : Int) = a0 := by rw [IntKind.wrap_i64]; omega
  have m1 : IntKind.i64.wrap (a1 : Int) = a1 := by rw [IntKind.wrap_i64]; omega
  have m2 : IntKind.i64.wrap (a2 : Int) = a2 := by rw [IntKind.wrap_i64]; omega
  have m3 : IntKind.i64.wrap ((a1 : Int) * 256) = (a1 : Int) * 256 := by rw [IntKind.wrap_i64]; omega
  clear hN
  go_enter Tryd.func11, Tryd.ntmps11
  go_wp2_with fail
  refine cO.mono ?_
  rintro e w1 ⟨u, rfl, hB⟩
  clear cO
  have HB1 := Lib.hid hB.below
  obtain ⟨g, cap, rfl, hcell⟩ := hB.cells.resolve_left (fun e => by rw [e.2] at ht; cases ht)
  have HBI := Lib.hid hB.in_.1
  obtain ⟨ao9, cap9, hv, hcap, hcap9, _⟩ := hB.in_.1
  cases hv
  rw [ht] at HBI hcap ⊢
  have q0 := hcell 0 (by omega)
  have q1 := hcell 1 (by omega)
  have q2 := hcell 2 (by omega)
  rw [← HA0.out.1] at q0
  rw [← HA0.out.2.1] at q1
  rw [← HA0.out.2.2.1] at q2
  have l0 := fun p9 : LateOf w1 => p9.cell q0
  have l1 := fun p9 : LateOf w1 => p9.cell q1
  have l2 := fun p9 : LateOf w1 => p9.cell q2
  clear hB hcell
  go_upto_region 6 with fail
  refine wp_region_late (by kernel_rfl) (by kernel_rfl) ?_
  repeat (quiet_step (fail))
  refine wpQuiet_nil ?_
  intro w2 hw'
  have hb2 : Below w1.heap.size w1 w2 := by obtain ⟨p, rfl⟩ := hw'; exact p.h
  have HB2 := Lib.hid (bt5 HB1.out hb2)
  have HBJ := Lib.hid (HBI.out.later hb2)
  clear hw' hb2 q0 q1 q2 l0 l1 l2 m1 m2 m3 m0 hor HBI HB1
  by_cases h0 : a0 = 0
  · have HA : Hid (A = (0, [], false)) := Lib.hid (by rw [HOF.out, if_pos (.inl h0)])
    subst h0
    go_wp2_with fail
    go_ret3
    exact ⟨_, by rw [HGG.out, HA.out]; rfl, HB2.out, by rw [HA.out]; exact (bin_nil w2).1, (bin_nil w2).2, fun _ _ _ e => by cases e⟩
  have h0b : ((a0 : Int) == 0) = false := beq_eq_false_iff_ne.2 (by omega)
  by_cases h5 : 505 < N
  · have HA : Hid (A = (0, [], false)) := Lib.hid (by rw [HOF.out, if_pos (.inr (.inl h5))])
    have h5i : (505 : Int) < N := by omega
    go_wp2_with fail
    go_ret3
    exact ⟨_, by rw [HGG.out, HA.out]; rfl, HB2.out, by rw [HA.out]; exact (bin_nil w2).1, (bin_nil w2).2, fun _ _ _ e => by cases e⟩
  have h5i : ¬ (505 : Int) < N := by omega
  have hm := HBJ.out.mid (3 + N) 508 (by omega) (by rw [HT.out]; exact Nat.le_refl _)
  rw [List.take_of_length_le (by rw [HT.out]; exact Nat.le_refl _), Addr.add_lit, Nat.zero_add] at hm
  obtain ⟨Z, hZ⟩ : ∃ Z, Z = Pg.blank (t.drop (3 + N)) := ⟨_, rfl⟩
  rw [← hZ] at HOF
  have cB := pblank_w _ _ w2 hm (by rw [List.length_drop, HT.out]; omega)
  rw [← hZ] at cB
  clear hZ hm
  have hb9 : 3 + N ≤ cap := by omega
  by_cases hcq : cap = 3 + N
  · rw [if_pos hcq] at cB
    obtain rfl : N = 505 := by omega
    obtain rfl : cap = 508 := by omega
    clear hcq hb9
    go_wp2_with fail
    refine cB.mono ?_
    rintro e w3 ⟨rfl, rfl⟩
    clear cB
    cases Z with
    | false =>
      have HA : Hid (A = (0, [], false)) := Lib.hid (by rw [HOF.out, if_pos (.inr (.inr rfl))])
      go_wp2_with fail
      go_ret3
      exact ⟨_, by rw [HGG.out, HA.out]; rfl, HB2.out, by rw [HA.out]; exact (bin_nil w2).1, (bin_nil w2).2, fun _ _ _ e => by cases e⟩
    | true =>
      have HA : Hid (A = (a0, (t.drop 3).take 505, true)) := Lib.hid (by rw [HOF.out, if_neg (by rintro (h | h | h); exact h0 h; omega; cases h)])
      have hmb := HBJ.out.mid 3 (3 + 505) (by omega) (by rw [HT.out]; omega)
      rw [if_neg (by omega), Addr.add_lit, Nat.zero_add, show 3 + 505 - 3 = 505 by omega, show (t.take (3 + 505)).drop 3 = (t.drop 3).take 505 from by rw [List.drop_take]; first | done | (congr 1; omega)] at hmb
      have hln : ((t.drop 3).take 505).length = 505 := by rw [List.length_take, List.length_drop, HT.out]; omega
      generalize (t.drop 3).take 505 = body at HA hmb hln
      have hbs := bs_lit w2 #[.slice (some ⟨g, 3, none⟩) 505 (508 - 3)] [body] 1 rfl (by decide) (fun j hj => by
        match j, hj with
        | 0, _ => exact ⟨_, rfl, hmb, some_ok _ _ _⟩)
      have hb4 : Below w2.heap.size w2 (w2.alloc (.cells #[.slice (some ⟨g, 3, none⟩) 505 (508 - 3)] 23)) := (Below.refl _ w2).alloc (Nat.le_refl _) _
      have HB4 := Lib.hid (bt5 HB2.out hb4)
      have cJ := pJoin_w _ _ _ hbs (by rw [List.flatten_singleton, hln]; omega)
      rw [List.flatten_singleton] at cJ
      clear hbs hb4 hmb hln
      go_wp2_with fail
      refine cJ.mono ?_
      rintro e w5 ⟨u5, rfl, hB5⟩
      have HB5 := Lib.hid hB5
      clear cJ hB5
      go_wp2_with fail
      go_ret3
      exact ⟨_, by rw [HGG.out, HA.out]; rfl, bt5 HB4.out HB5.out.below, by rw [HA.out]; exact HB5.out.in_.1, HB5.out.in_.2, fun ad n c e => Nat.le_trans HB4.out.size (HB5.out.new ad n c e)⟩
  · rw [if_neg hcq] at cB
    go_wp2_with fail
    refine cB.mono ?_
    rintro e w3 ⟨rfl, rfl⟩
    clear cB
    cases Z with
    | false =>
      have HA : Hid (A = (0, [], false)) := Lib.hid (by rw [HOF.out, if_pos (.inr (.inr rfl))])
      go_wp2_with fail
      go_ret3
      exact ⟨_, by rw [HGG.out, HA.out]; rfl, HB2.out, by rw [HA.out]; exact (bin_nil w2).1, (bin_nil w2).2, fun _ _ _ e => by cases e⟩
    | true =>
      have HA : Hid (A = (a0, (t.drop 3).take N, true)) := Lib.hid (by rw [HOF.out, if_neg (by rintro (h | h | h); exact h0 h; omega; cases h)])
      have hmb := HBJ.out.mid 3 (3 + N) (by omega) (by rw [HT.out]; omega)
      rw [if_neg (by omega), Addr.add_lit, Nat.zero_add, show 3 + N - 3 = N by omega, show (t.take (3 + N)).drop 3 = (t.drop 3).take N from by rw [List.drop_take]; first | done | (congr 1; omega)] at hmb
      have hln : ((t.drop 3).take N).length = N := by rw [List.length_take, List.length_drop, HT.out]; omega
      generalize (t.drop 3).take N = body at HA hmb hln
      have hbs := bs_lit w2 #[.slice (some ⟨g, 3, none⟩) N (cap - 3)] [body] 1 rfl (by decide) (fun j hj => by
        match j, hj with
        | 0, _ => exact ⟨_, rfl, hmb, some_ok _ _ _⟩)
      have hb4 : Below w2.heap.size w2 (w2.alloc (.cells #[.slice (some ⟨g, 3, none⟩) N (cap - 3)] 23)) := (Below.refl _ w2).alloc (Nat.le_refl _) _
      have HB4 := Lib.hid (bt5 HB2.out hb4)
      have cJ := pJoin_w _ _ _ hbs (by rw [List.flatten_singleton, hln]; omega)
      rw [List.flatten_singleton] at cJ
      clear hbs hb4 hmb hln
      go_wp2_with fail
      refine cJ.mono ?_
      rintro e w5 ⟨u5, rfl, hB5⟩
      have HB5 := Lib.hid hB5
      clear cJ hB5
      go_wp2_with fail
      go_ret3
      exact ⟨_, by rw [HGG.out, HA.out]; rfl, bt5 HB4.out HB5.out.below, by rw [HA.out]; exact HB5.out.in_.1, HB5.out.in_.2, fun ad n c e => Nat.le_trans HB4.out.size (HB5.out.new ad n c e)⟩
end Go.Proofs.YtlipgphmhkjnpaaDoor
