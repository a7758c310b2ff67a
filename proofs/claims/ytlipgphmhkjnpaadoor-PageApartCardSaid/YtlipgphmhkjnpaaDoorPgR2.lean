/- The document's own page (layer 14): Unpack. -/
import Derived.Test.YtlipgphmhkjnpaaDoorPgR1
import Derived.Test.YtlipgphmhkjnpaaDoorRel
import Derived.Test.YtlipgphmhkjnpaaDoorQuiet
namespace Pg
def unp (b : List UInt8) : Nat × List UInt8 × Bool := match unpack b with | some (k, c) => (k, c, true) | none => (0, [], false)
theorem unp_no {b : List UInt8} (h : ¬ (b.length = 512 ∧ size3 b ≤ 505 ∧ pack (kind3 b) (body3 b) = (b, 0))) : unp b = (0, [], false) := by
  unfold unp unpack; rw [if_neg h]
theorem unp_yes {b : List UInt8} (h : b.length = 512 ∧ size3 b ≤ 505 ∧ pack (kind3 b) (body3 b) = (b, 0)) : unp b = (kind3 b, body3 b, true) := by
  unfold unp unpack; rw [if_pos h]
end Pg
namespace Go.Proofs.YtlipgphmhkjnpaaDoor
open Go.RowKit

set_option maxHeartbeats 3200000 in
set_option maxRecDepth 100000 in
theorem rUnpack_w (v : Value) (l : List UInt8) (w : World) (h : BIn w v l) (hnil : NilOk v) :
    Calls Tryd.prog 12 #[v] w fun e w' => ∃ u, e = .returned (.tuple #[.int .i64 ((Pg.unp l).1 : Int), u, .bool (Pg.unp l).2.2]) ∧ Below w.heap.size w w' ∧ BIn w' u (Pg.unp l).2.1 ∧ NilOk u := by
  have HB := Lib.hid h
  have HNO := Lib.hid hnil
  by_cases h5 : ¬ l.length = 512
  · obtain ⟨ao, cap, rfl, hlc, hc9, hg⟩ := h
    rw [Pg.unp_no (fun x => h5 x.1)]
    have h5i : ((l.length : Int) == 512) = false := beq_eq_false_iff_ne.2 (by omega)
    have h5n : ¬ (l.length : Int) = 512 := by omega
    clear hg h5 HB HNO hnil
    generalize l.length = n at *
    go_enter Tryd.func12, Tryd.ntmps12
    go_wp2_with fail
    go_ret3
    exact ⟨_, rfl, Below.refl _ _, (bin_nil w).1, (bin_nil w).2⟩
  replace h5 : l.length = 512 := Classical.not_not.1 h5
  have hs := h
  obtain ⟨ao, cap, rfl, hlc, hc9, hg⟩ := h
  obtain ⟨b, o, rfl, hb, hc⟩ := hg.resolve_left (fun e => by rw [e] at h5; cases h5)
  have q0 := hc 0 (by omega)
  have q1 := hc 1 (by omega)
  have q2 := hc 2 (by omega)
  have x0 : Pg.kind3 l = (l[0]'(by omega)).toNat := by unfold Pg.kind3; rw [List.getD_eq_getElem?_getD, List.getElem?_eq_getElem (by omega)]; rfl
  have x1 : Pg.size3 l = 256 * (l[1]'(by omega)).toNat + (l[2]'(by omega)).toNat := by unfold Pg.size3; rw [List.getD_eq_getElem?_getD, List.getElem?_eq_getElem (by omega), List.getD_eq_getElem?_getD, List.getElem?_eq_getElem (by omega)]; rfl
  have y0 := (l[0]'(by omega)).toNat_lt
  have y1 := (l[1]'(by omega)).toNat_lt
  have y2 := (l[2]'(by omega)).toNat_lt
  rw [h5] at hlc HB HNO ⊢
  generalize (l[0]'(by omega)).toNat = a0 at *
  generalize (l[1]'(by omega)).toNat = a1 at *
  generalize (l[2]'(by omega)).toNat = a2 at *
  have X0 := Lib.hid x0
  have X1 := Lib.hid x1
  have H5 := Lib.hid h5
  rw [Nat.add_zero] at q0
  clear x0 x1 hc hnil hs h5
  have l0 := fun p9 : LateOf w => p9.cell q0
  have l1 := fun p9 : LateOf w => p9.cell q1
  have l2 := fun p9 : LateOf w => p9.cell q2
  obtain ⟨N, hN⟩ : ∃ N, N = 256 * a1 + a2 := ⟨_, rfl⟩
  rw [← hN] at X1
  have hNi : (256 : Int) * a1 + a2 = N := by omega
  have m1 : IntKind.i64.wrap (a1 : Int) = a1 := by rw [IntKind.wrap_i64]; omega
  have m2 : IntKind.i64.wrap (a2 : Int) = a2 := by rw [IntKind.wrap_i64]; omega
  have m3 : IntKind.i64.wrap ((256 : Int) * a1) = 256 * a1 := by rw [IntKind.wrap_i64]; omega
  have m4 : IntKind.i64.wrap ((256 : Int) * a1 + a2) = N := by rw [IntKind.wrap_i64]; omega
  have m5 : IntKind.i64.wrap (N : Int) = N := by rw [IntKind.wrap_i64]; omega
  by_cases h505 : 505 < N
  · rw [Pg.unp_no (fun x => by have := X1.out; omega)]
    have h5i : (505 : Int) < N := by omega
    clear hN
    go_enter Tryd.func12, Tryd.ntmps12
    go_upto_region 3 with fail
    refine wp_region_late (by kernel_rfl) (by kernel_rfl) ?_
    repeat (quiet_step (fail))
    refine wpQuiet_nil ?_
    intro w2 hw'
    have hb2 : Below w.heap.size w w2 := by obtain ⟨p, rfl⟩ := hw'; exact p.h
    clear hw'
    go_wp2_with fail
    go_ret3
    exact ⟨_, rfl, hb2, (bin_nil w2).1, (bin_nil w2).2⟩
  clear hN
  have h5i : ¬ (505 : Int) < N := by omega
  have hcap : ¬ cap = 3 := by omega
  have hm := HB.out.mid 3 (3 + N) (by omega) (by rw [H5.out]; omega)
  rw [if_neg hcap, Addr.add_lit, Nat.add_sub_cancel_left, List.drop_take, Nat.add_sub_cancel_left] at hm
  have HBo : Hid (Pg.body3 l = (l.drop 3).take N) := Lib.hid (by unfold Pg.body3; rw [X1.out])
  rw [← HBo.out] at hm
  have cP := rPack_w a0 _ _ w hm (by omega)
  have HM := Lib.hid hm
  clear hm
  go_enter Tryd.func12, Tryd.ntmps12
  go_upto_region 3 with fail
  refine wp_region_late (by kernel_rfl) (by kernel_rfl) ?_
  repeat (quiet_step (fail))
  refine wpQuiet_nil ?_
  intro w2 hw'
  have hb2 : Below w.heap.size w w2 := by obtain ⟨p, rfl⟩ := hw'; exact p.h
  clear hw'
  have r0 := cell_later hb2 q0
  have HM2 := Lib.hid (HM.out.later hb2)
  have HB2 := Lib.hid hb2
  have HBI2 := Lib.hid (HB.out.later hb2)
  clear q0 q1 q2 l0 l1 l2 m1 m2 m3 m4 cP
  go_upto_region 6 with fail
  obtain ⟨X, hX⟩ : ∃ X, X = Pg.pack (a0 : Int) (Pg.body3 l) := ⟨_, rfl⟩
  have HPX := Lib.hid hX
  have CP : Hid (∀ W, Below w2.heap.size w2 W → Calls Tryd.prog 10 #[.int .i64 (a0 : Int), .slice (some ⟨b, o + 3, none⟩) N (cap - 3)] W fun e w' => ∃ u, e = .returned (.tuple #[u, .int .i64 X.2]) ∧ Buf W w' u X.1) := Lib.hid (fun W hW => by
    rw [hX]
    exact rPack_w a0 _ _ W (HM2.out.later hW) (by omega))
  clear hX
  obtain ⟨Xb, E⟩ := X
  refine Rel.region_of (by kernel_rfl) [some 24, some 25, some 26, some 27, some 28, some 29, some 30, some 31, some 32, some 23, some 33, some 34, some 6, some 7] (by kernel_rfl) (by kernel_rfl) [.eq (.slice (some ⟨b, o, none⟩) 512 cap), .eq (.pointer (some ⟨b, o, none⟩)), .eq (.int .u8 (a0 : Int)), .eq (.int .i64 (a0 : Int)), .eq (.slice (some ⟨b, o, none⟩) 512 cap), .eq (.int .i64 (N : Int)), .eq (.int .i64 (3 + (N : Int))), .eq (.slice (some ⟨b, o + 3, none⟩) N (cap - 3)), ⟨fun v w => ∃ u, v = .tuple #[u, .int .i64 E] ∧ BIn w u Xb ∧ NilOk u, fun _ _ _ h hb => by obtain ⟨u, e, h1, h2⟩ := h; exact ⟨u, e, h1.later hb, h2⟩⟩, ⟨fun v w => ∃ u, v = .tuple #[u, .int .i64 E] ∧ BIn w u Xb ∧ NilOk u, fun _ _ _ h hb => by obtain ⟨u, e, h1, h2⟩ := h; exact ⟨u, e, h1.later hb, h2⟩⟩, ⟨fun v w => BIn w v (Xb) ∧ NilOk v, fun _ _ _ h hb => ⟨h.1.later hb, h.2⟩⟩, .eq (.int .i64 E), ⟨fun v w => BIn w v (Xb) ∧ NilOk v, fun _ _ _ h hb => ⟨h.1.later hb, h.2⟩⟩, .eq (.int .i64 E)] ⟨?_, ?_, ?_, ?_, ?_, ?_, ?_, ?_, ?_, ?_, ?_, ?_, ?_, ?_, trivial⟩ ?_
  · intro u w9 hb9 hd9
    clear hd9
    refine ⟨?_⟩
    simp only [Rel.canD, List.take_zero]
    go_wp2_with fail
    exact ⟨rfl, rfl, Below.refl _ _, rfl⟩
  · intro u w9 hb9 hd9
    have e0 : u 0 = .slice (some ⟨b, o, none⟩) 512 cap := hd9 0 (by kernel_rfl)
    clear hd9
    refine ⟨?_⟩
    simp only [Rel.canD, List.take_succ_cons, List.take_zero, Nat.reduceAdd]
    go_wp2_with fail
    exact ⟨rfl, rfl, Below.refl _ _, rfl⟩
  · intro u w9 hb9 hd9
    have e1 : u 1 = .pointer (some ⟨b, o, none⟩) := hd9 1 (by kernel_rfl)
    clear hd9
    have q9 := cell_later hb9 r0
    refine ⟨?_⟩
    simp only [Rel.canD, List.take_succ_cons, List.take_zero, Nat.reduceAdd]
    go_wp2_with fail
    exact ⟨rfl, rfl, Below.refl _ _, rfl⟩
  · intro u w9 hb9 hd9
    have e2 : u 2 = .int .u8 (a0 : Int) := hd9 2 (by kernel_rfl)
    clear hd9
    refine ⟨?_⟩
    simp only [Rel.canD, List.take_succ_cons, List.take_zero, Nat.reduceAdd]
    go_wp2_with fail
    exact ⟨rfl, rfl, Below.refl _ _, rfl⟩
  · intro u w9 hb9 hd9
    clear hd9
    refine ⟨?_⟩
    simp only [Rel.canD, List.take_succ_cons, List.take_zero, Nat.reduceAdd]
    go_wp2_with fail
    exact ⟨rfl, rfl, Below.refl _ _, rfl⟩
  · intro u w9 hb9 hd9
    clear hd9
    refine ⟨?_⟩
    simp only [Rel.canD, List.take_succ_cons, List.take_zero, Nat.reduceAdd]
    go_wp2_with fail
    exact ⟨rfl, rfl, Below.refl _ _, rfl⟩
  · intro u w9 hb9 hd9
    have e5 : u 5 = .int .i64 (N : Int) := hd9 5 (by kernel_rfl)
    clear hd9
    refine ⟨?_⟩
    simp only [Rel.canD, List.take_succ_cons, List.take_zero, Nat.reduceAdd]
    go_wp2_with fail
    exact ⟨rfl, rfl, Below.refl _ _, rfl⟩
  · intro u w9 hb9 hd9
    have e4 : u 4 = .slice (some ⟨b, o, none⟩) 512 cap := hd9 4 (by kernel_rfl)
    have e6 : u 6 = .int .i64 (3 + (N : Int)) := hd9 6 (by kernel_rfl)
    clear hd9
    refine ⟨?_⟩
    simp only [Rel.canD, List.take_succ_cons, List.take_zero, Nat.reduceAdd]
    go_wp2_with fail
    exact ⟨rfl, rfl, Below.refl _ _, rfl⟩
  · intro u w9 hb9 hd9
    have e3 : u 3 = .int .i64 (a0 : Int) := hd9 3 (by kernel_rfl)
    have e7 : u 7 = .slice (some ⟨b, o + 3, none⟩) N (cap - 3) := hd9 7 (by kernel_rfl)
    clear hd9
    refine ⟨?_⟩
    simp only [Rel.canD, List.take_succ_cons, List.take_zero, Nat.reduceAdd]
    go_wp2_with fail
    refine (CP.out w9 hb9).mono ?_
    rintro e w8 ⟨u9, rfl, hB9⟩
    have h9 := hB9.below
    have h8 := hB9.in_
    go_wp2_with fail
    exact ⟨rfl, rfl, h9, _, rfl, h8.1, h8.2⟩
  · intro u w9 hb9 hd9
    have e8 := hd9 8 (by kernel_rfl)
    clear hd9
    obtain ⟨u9, x9, h8, h9⟩ := e8
    refine ⟨?_⟩
    simp only [Rel.canD, List.take_succ_cons, List.take_zero, Nat.reduceAdd]
    go_wp2_with fail
    exact ⟨rfl, rfl, Below.refl _ _, _, rfl, h8, h9⟩
  · intro u w9 hb9 hd9
    have e9 := hd9 9 (by kernel_rfl)
    clear hd9
    obtain ⟨u9, x9, h8, h9⟩ := e9
    refine ⟨?_⟩
    simp only [Rel.canD, List.take_succ_cons, List.take_zero, Nat.reduceAdd]
    go_wp2_with fail
    exact ⟨rfl, rfl, Below.refl _ _, h8, h9⟩
  · intro u w9 hb9 hd9
    have e9 := hd9 9 (by kernel_rfl)
    clear hd9
    obtain ⟨u9, x9, h8, h9⟩ := e9
    refine ⟨?_⟩
    simp only [Rel.canD, List.take_succ_cons, List.take_zero, Nat.reduceAdd]
    go_wp2_with fail
    exact ⟨rfl, rfl, Below.refl _ _, rfl⟩
  · intro u w9 hb9 hd9
    have e10 : BIn w9 (u 10) (Xb) ∧ NilOk (u 10) := hd9 10 (by kernel_rfl)
    clear hd9
    refine ⟨?_⟩
    simp only [Rel.canD, List.take_succ_cons, List.take_zero, Nat.reduceAdd]
    go_wp2_with fail
    exact ⟨rfl, rfl, Below.refl _ _, e10.1, e10.2⟩
  · intro u w9 hb9 hd9
    have e11 : u 11 = .int .i64 E := hd9 11 (by kernel_rfl)
    clear hd9
    refine ⟨?_⟩
    simp only [Rel.canD, List.take_succ_cons, List.take_zero, Nat.reduceAdd]
    go_wp2_with fail
    exact ⟨rfl, rfl, Below.refl _ _, rfl⟩
  intro u w9 hb9 hR9
  have h13 : u 13 = .int .i64 E := hR9 13 (by decide)
  have h12 : BIn w9 (u 12) Xb ∧ NilOk (u 12) := hR9 12 (by decide)
  simp only [Rel.canD, Nat.reduceAdd, h13]
  clear hR9
  generalize u 12 = c at h12 ⊢
  go_simp
  have hb29 : Below w.heap.size w w9 := bt5 HB2.out hb9
  have HBE := Lib.hid hb29
  have hu9 := HBI2.out.later hb9
  have HM9 := Lib.hid (HM2.out.later hb9)
  have t0 := cell_later hb9 r0
  have hcv1 := h12.1.all h12.2
  have hcv2 := hu9.all HNO.out
  obtain ⟨ac, cc, hcc, -⟩ := id h12.1
  subst hcc
  clear h12 hu9 r0 hb29 hb9 h13
  by_cases hE : E = 0
  · subst hE
    by_cases hXl : Xb = l
    · subst hXl
      have HR := Lib.hid (Pg.unp_yes (b := Xb) ⟨H5.out, by rw [X1.out]; omega, by rw [X0.out, ← HPX.out]⟩)
      go_upto_region 9 with fail
      refine Rel.region_of (by kernel_rfl) [some 44, some 45, some 46, some 47, some 48, some 49, some 50, some 51, some 2, some 3, some 4] (by kernel_rfl) (by kernel_rfl) [.eq (.slice (some ⟨b, o, none⟩) 512 cap), .eq (.pointer (some ⟨b, o, none⟩)), .eq (.int .u8 (a0 : Int)), .eq (.int .i64 (a0 : Int)), .eq (.slice (some ⟨b, o, none⟩) 512 cap), .eq (.int .i64 (N : Int)), .eq (.int .i64 (3 + (N : Int))), .eq (.slice (some ⟨b, o + 3, none⟩) N (cap - 3)), .eq (.int .i64 (a0 : Int)), .eq (.slice (some ⟨b, o + 3, none⟩) N (cap - 3)), .eq (.bool true)] ⟨?_, ?_, ?_, ?_, ?_, ?_, ?_, ?_, ?_, ?_, ?_, trivial⟩ ?_
      · intro u w9 hb9 hd9
        clear hd9
        refine ⟨?_⟩
        simp only [Rel.canD, List.take_zero]
        go_wp2_with fail
        exact ⟨rfl, rfl, Below.refl _ _, rfl⟩
      · intro u w9 hb9 hd9
        have e0 : u 0 = .slice (some ⟨b, o, none⟩) 512 cap := hd9 0 (by kernel_rfl)
        clear hd9
        refine ⟨?_⟩
        simp only [Rel.canD, List.take_succ_cons, List.take_zero, Nat.reduceAdd]
        go_wp2_with fail
        exact ⟨rfl, rfl, Below.refl _ _, rfl⟩
      · intro u w9 hb9 hd9
        have e1 : u 1 = .pointer (some ⟨b, o, none⟩) := hd9 1 (by kernel_rfl)
        clear hd9
        have q9 := cell_later hb9 t0
        refine ⟨?_⟩
        simp only [Rel.canD, List.take_succ_cons, List.take_zero, Nat.reduceAdd]
        go_wp2_with fail
        exact ⟨rfl, rfl, Below.refl _ _, rfl⟩
      · intro u w9 hb9 hd9
        have e2 : u 2 = .int .u8 (a0 : Int) := hd9 2 (by kernel_rfl)
        clear hd9
        refine ⟨?_⟩
        simp only [Rel.canD, List.take_succ_cons, List.take_zero, Nat.reduceAdd]
        go_wp2_with fail
        exact ⟨rfl, rfl, Below.refl _ _, rfl⟩
      · intro u w9 hb9 hd9
        clear hd9
        refine ⟨?_⟩
        simp only [Rel.canD, List.take_succ_cons, List.take_zero, Nat.reduceAdd]
        go_wp2_with fail
        exact ⟨rfl, rfl, Below.refl _ _, rfl⟩
      · intro u w9 hb9 hd9
        clear hd9
        refine ⟨?_⟩
        simp only [Rel.canD, List.take_succ_cons, List.take_zero, Nat.reduceAdd]
        go_wp2_with fail
        exact ⟨rfl, rfl, Below.refl _ _, rfl⟩
      · intro u w9 hb9 hd9
        have e5 : u 5 = .int .i64 (N : Int) := hd9 5 (by kernel_rfl)
        clear hd9
        refine ⟨?_⟩
        simp only [Rel.canD, List.take_succ_cons, List.take_zero, Nat.reduceAdd]
        go_wp2_with fail
        exact ⟨rfl, rfl, Below.refl _ _, rfl⟩
      · intro u w9 hb9 hd9
        have e4 : u 4 = .slice (some ⟨b, o, none⟩) 512 cap := hd9 4 (by kernel_rfl)
        have e6 : u 6 = .int .i64 (3 + (N : Int)) := hd9 6 (by kernel_rfl)
        clear hd9
        refine ⟨?_⟩
        simp only [Rel.canD, List.take_succ_cons, List.take_zero, Nat.reduceAdd]
        go_wp2_with fail
        exact ⟨rfl, rfl, Below.refl _ _, rfl⟩
      · intro u w9 hb9 hd9
        have e3 : u 3 = .int .i64 (a0 : Int) := hd9 3 (by kernel_rfl)
        clear hd9
        refine ⟨?_⟩
        simp only [Rel.canD, List.take_succ_cons, List.take_zero, Nat.reduceAdd]
        go_wp2_with fail
        exact ⟨rfl, rfl, Below.refl _ _, rfl⟩
      · intro u w9 hb9 hd9
        have e7 : u 7 = .slice (some ⟨b, o + 3, none⟩) N (cap - 3) := hd9 7 (by kernel_rfl)
        clear hd9
        refine ⟨?_⟩
        simp only [Rel.canD, List.take_succ_cons, List.take_zero, Nat.reduceAdd]
        go_wp2_with fail
        exact ⟨rfl, rfl, Below.refl _ _, rfl⟩
      · intro u w9 hb9 hd9
        clear hd9
        refine ⟨?_⟩
        simp only [Rel.canD, List.take_succ_cons, List.take_zero, Nat.reduceAdd]
        go_wp2_with fail
        exact ⟨rfl, rfl, Below.refl _ _, rfl⟩
      intro v w10 hb9 hR9
      have hb10 := hb9
      have h8 : v 8 = .int .i64 (a0 : Int) := hR9 8 (by decide)
      have h9 : v 9 = .slice (some ⟨b, o + 3, none⟩) N (cap - 3) := hR9 9 (by decide)
      have h10 : v 10 = .bool true := hR9 10 (by decide)
      simp only [Rel.canD, Nat.reduceAdd, h8, h9, h10]
      clear hR9
      go_simp
      go_wp2_with fail
      go_ret3
      rw [HR.out]
      exact ⟨_, by rw [X0.out]; rfl, bt5 HBE.out hb10, HM9.out.later hb10, nil_ok' _ _ _⟩
    · have HR := Lib.hid (Pg.unp_no (b := l) (fun x => hXl (by have := x.2.2; rw [X0.out, ← HPX.out] at this; injection this)))
      have hs := str_no hXl
      go_wp2_with fail
      go_ret3
      rw [HR.out]
      exact ⟨_, rfl, HBE.out, (bin_nil w9).1, (bin_nil w9).2⟩
  · have HR := Lib.hid (Pg.unp_no (b := l) (fun x => hE (by have := x.2.2; rw [X0.out, ← HPX.out] at this; injection this)))
    have hE2 : (E != 0) = true := bne_iff_ne.2 hE
    go_wp2_with fail
    go_ret3
    rw [HR.out]
    exact ⟨_, rfl, HBE.out, (bin_nil w9).1, (bin_nil w9).2⟩
end Go.Proofs.YtlipgphmhkjnpaaDoor
