/- Package crc, the program: Open. -/
import Derived.Test.YtkmefpeplpllhaaDoorCrJ
import Derived.Deep.RegionHeld3
import Derived.BigQuiet
namespace Go.Proofs.YtkmefpeplpllhaaDoor
open Go.RowKit


set_option maxHeartbeats 3200000 in
set_option maxRecDepth 100000 in
theorem Open_w (v : Value) (l : List UInt8) (w : World) (h : BIn w v l) (hl : l.length ≤ 100000000) (hT : CTab w) :
    Calls Tryd.prog 14 #[v] w fun e w' => ∃ u, e = .returned (.tuple #[u, .int .i64 (Cr.opn l).2]) ∧ Buf w w' u (Cr.opn l).1 := by
  by_cases h4 : l.length < 4
  · rw [Cr.opn_short h4]
    obtain ⟨ao, cap, rfl, hlc, hc9, hg⟩ := h
    have h4i : (l.length : Int) < 4 := by omega
    clear hg hT hl
    generalize l.length = n at *
    go_enter Tryd.func14, Tryd.ntmps14
    go_wp2_with fail
    go_ret2
    exact ⟨_, rfl, Buf.nil _⟩
  obtain ⟨a, b, c, d, hs⟩ := Cr.split4 (l := l) (by omega)
  obtain ⟨t, ht⟩ : ∃ t, t = l.take (l.length - 4) := ⟨_, rfl⟩
  rw [← ht] at hs
  clear ht
  subst hs
  rw [Cr.opn_parts]
  obtain ⟨R, hR⟩ : ∃ R, R = (if Cr.sum t = Cr.w4 a.toNat b.toNat c.toNat d.toNat then (t, (0 : Int)) else ([], 33)) := ⟨_, rfl⟩
  rw [← hR]
  have hlen : (t ++ [a, b, c, d]).length = t.length + 4 := by rw [List.length_append]; rfl
  have HB := Lib.hid h
  obtain ⟨ao, cap, rfl, hlc, hc9, hg⟩ := h
  obtain ⟨bk, o, rfl, hbl, hcell⟩ := hg.resolve_left (by simp)
  have hbt := HB.out.cut t.length (by omega)
  rw [List.take_left] at hbt
  have e0 := hcell t.length (by omega)
  have e1 := hcell (t.length + 1) (by omega)
  have e2 := hcell (t.length + 2) (by omega)
  have e3 := hcell (t.length + 3) (by omega)
  simp only [List.getElem_append_right, Nat.le_refl, Nat.sub_self, Nat.le_add_right, Nat.add_sub_cancel_left, List.getElem_cons_zero, List.getElem_cons_succ, ← Nat.add_assoc] at e0 e1 e2 e3
  rw [hlen] at hlc hl ⊢
  have hs := Cr.sum_lt t
  obtain ⟨N, hN⟩ : ∃ N, N = t.length := ⟨_, rfl⟩
  rw [← hN] at hbt e0 e1 e2 e3 hlc hl ⊢
  have ha : a.toNat < 256 := a.toNat_lt
  have hb : b.toNat < 256 := b.toNat_lt
  have hc : c.toNat < 256 := c.toNat_lt
  have hd : d.toNat < 256 := d.toNat_lt
  obtain ⟨o1, o2, o3⟩ := Cr.or_four (d := d.toNat) ha hb hc
  have hw4 : Cr.w4 a.toNat b.toNat c.toNat d.toNat = a.toNat + 256 * b.toNat + 65536 * c.toNat + 16777216 * d.toNat := rfl
  generalize a.toNat = A at *
  generalize b.toNat = B at *
  generalize c.toNat = C at *
  generalize d.toNat = D at *
  have q1 : bits .or .u32 (A : Int) ((B : Int) * 256) = ((A + 256 * B : Nat) : Int) := by
    rw [show (B : Int) * 256 = ((B * 256 : Nat) : Int) by omega, u32_or_nat _ _ (by omega) (by omega), o1]
  obtain ⟨m1, hm1⟩ : ∃ m1, A + 256 * B = m1 := ⟨_, rfl⟩
  rw [hm1] at q1 o2 o3
  have q2 : bits .or .u32 (m1 : Int) ((C : Int) * 65536) = ((m1 + 65536 * C : Nat) : Int) := by
    rw [show (C : Int) * 65536 = ((C * 65536 : Nat) : Int) by omega, u32_or_nat _ _ (by omega) (by omega), o2]
  obtain ⟨m2, hm2⟩ : ∃ m2, m1 + 65536 * C = m2 := ⟨_, rfl⟩
  rw [hm2] at q2 o3
  have q3 : bits .or .u32 (m2 : Int) ((D : Int) * 16777216) = ((Cr.w4 A B C D : Nat) : Int) := by
    rw [show (D : Int) * 16777216 = ((D * 16777216 : Nat) : Int) by omega, u32_or_nat _ _ (by omega) (by omega), o3]
  have hwl : Cr.w4 A B C D < 4294967296 := by omega
  generalize Cr.w4 A B C D = S4 at *
  have cS : Hid (∀ W, Below w.heap.size w W → Calls Tryd.prog 11 #[.slice (some ⟨W.heap.size, 0, none⟩) 1 1] (W.alloc (.cells #[.slice (some ⟨bk, o, none⟩) N cap] 23)).drew fun e w' => e = .returned (.int .u32 ((Cr.sum t : Nat) : Int)) ∧ (W.alloc (.cells #[.slice (some ⟨bk, o, none⟩) N cap] 23)).drew = w') := Lib.hid (fun W hbw => by
    have hbw2 : Below w.heap.size w (W.alloc (.cells #[.slice (some ⟨bk, o, none⟩) N cap] 23)).drew := (hbw.alloc hbw.size _).drew
    have hbs := (bs_lit W #[.slice (some ⟨bk, o, none⟩) N cap] [t] 1 rfl (by decide) (fun j hj => by
      match j, hj with
      | 0, _ => exact ⟨_, rfl, hbt.later hbw, some_ok _ _ _⟩)).later (Below.refl _ _).drew
    have := Sum_w _ _ _ hbs (hT.later hbw2)
    rwa [List.flatten_singleton] at this)
  have HBT := Lib.hid hbt
  have HS : Hid (∀ W', Below w.heap.size w W' → W'.cell? ⟨bk, o + N, none⟩ = some (.int .u8 A) ∧ W'.cell? ⟨bk, o + N + 1, none⟩ = some (.int .u8 B) ∧ W'.cell? ⟨bk, o + N + 2, none⟩ = some (.int .u8 C) ∧ W'.cell? ⟨bk, o + N + 3, none⟩ = some (.int .u8 D)) := Lib.hid fun W' hb' =>
    ⟨cell_later hb' e0, cell_later hb' e1, cell_later hb' e2, cell_later hb' e3⟩
  have HN := Lib.hid hN
  generalize hsz : Cr.sum t = sm at *
  have HR := Lib.hid hR
  have hN8 : (N : Int) ≤ 100000000 := by omega
  have hi1 : ¬ ((N + 4 : Nat) : Int) < 4 := by omega
  have hv1 : IntKind.u32.wrap ((B : Int) * 256) = (B : Int) * 256 := by rw [IntKind.wrap_u32']; omega
  have hv2 : IntKind.u32.wrap ((C : Int) * 65536) = (C : Int) * 65536 := by rw [IntKind.wrap_u32']; omega
  have hv3 : IntKind.u32.wrap ((D : Int) * 16777216) = (D : Int) * 16777216 := by rw [IntKind.wrap_u32']; omega
  have hwA : IntKind.u32.wrap (A : Int) = A := by rw [IntKind.wrap_u32']; omega
  have hwB : IntKind.u32.wrap (B : Int) = B := by rw [IntKind.wrap_u32']; omega
  have hwC : IntKind.u32.wrap (C : Int) = C := by rw [IntKind.wrap_u32']; omega
  have hwD : IntKind.u32.wrap (D : Int) = D := by rw [IntKind.wrap_u32']; omega
  clear hbt hT h4 hcell hm1 hm2 o1 o2 o3 hw4 hN hR
  go_enter Tryd.func14, Tryd.ntmps14
  have hNi0 : (0 : Int) ≤ (N : Int) := by omega
  have hcN : ¬ cap = N := by omega
  have hNc : N ≤ cap := by omega
  have hNc4 : N + 4 ≤ cap := by omega
  have hadd : (⟨bk, o, none⟩ : Addr).add N = ⟨bk, o + N, none⟩ := Addr.add_lit ..
  go_upto_region 4 with fail
  go_quiet (fail)
  have hbq : Below w.heap.size w (w.drewN nq) := ⟨rfl, rfl, rfl, Nat.le_refl _, fun _ _ => rfl⟩
  go_upto_region 5 with fail
  generalize w.drewN nq = W at hbq ⊢
  have K0 : Hid (Below w.heap.size w W.drew) := Lib.hid hbq.drew
  have K1 : Hid (Below w.heap.size w (W.alloc (.cells #[.slice (some ⟨bk, o, none⟩) N cap] 23)).drew) := Lib.hid (hbq.alloc hbq.size _).drew
  have HSUM := Lib.hid (cS.out W hbq)
  clear cS
  go_region_held3 (fun w' => w'.cell? ⟨bk, o + N, none⟩ = some (.int .u8 A) ∧ w'.cell? ⟨bk, o + N + 1, none⟩ = some (.int .u8 B) ∧ w'.cell? ⟨bk, o + N + 2, none⟩ = some (.int .u8 C) ∧ w'.cell? ⟨bk, o + N + 3, none⟩ = some (.int .u8 D))
    (first | with_reducible exact HS.out _ K0.out | with_reducible exact HS.out _ K1.out)
    (first | (go_at_call 11; (with_reducible refine HSUM.out.mono ?_); rintro e w6 ⟨rfl, rfl⟩))
  generalize (W.alloc _).drew = W2 at K1 ⊢
  have hb2 := K1.out
  clear e0 e1 e2 e3 HS HSUM K0 K1 hbq
  by_cases hq : sm = S4
  · obtain rfl : R = (t, (0 : Int)) := by rw [HR.out, if_pos hq]
    subst hq
    have hlen2 : ([] : List UInt8).length + t.length ≤ 1000000000 := by rw [← HN.out]; simp; omega
    have hbt2 := HBT.out.later hb2
    go_wp2_with (at_builtin; refine appBs (Buf.nil_of hb2) hbt2 (some_ok _ _ _) hlen2 rfl (.const (.slice none 0 0)) _ rfl rfl rfl ?_; intro v' w3 hB3 _)
    go_ret2
    exact ⟨_, rfl, hB3⟩
  · obtain rfl : R = (([] : List UInt8), (33 : Int)) := by rw [HR.out, if_neg hq]
    have hqf : ¬ (sm : Int) = (S4 : Int) := by omega
    have hqb : ((sm : Int) != (S4 : Int)) = true := by rw [bne, beq_eq_false_iff_ne.2 hqf]; rfl
    go_wp2_with fail
    go_ret2
    exact ⟨_, rfl, Buf.nil_of hb2⟩
end Go.Proofs.YtkmefpeplpllhaaDoor
