/- The program's package page: Pack. -/
import Derived.Test.YtlipgphmhkjnpaaDoorPgW2
import Derived.Deep.CutBlock
namespace Pg
def lay (p : L) : L := 0 :: 0 :: 0 :: (p ++ List.replicate (505 - p.length) 0)
theorem lay_length {p : L} (h : p.length ≤ 505) : (lay p).length = 508 := by unfold lay; simp; omega
end Pg
namespace Go.Proofs.YtlipgphmhkjnpaaDoor
open Go.RowKit

set_option maxHeartbeats 3200000 in
set_option maxRecDepth 100000 in
theorem pPack_w (K : Int) (v : Value) (ls : List (List UInt8)) (w : World) (h : BsIn w v ls) (hl : ls.length ≤ 1000) (hK : -9223372036854775808 ≤ K ∧ K ≤ 9223372036854775807) (hT : CTab w) :
    Calls Tryd.prog 9 #[.int .i64 K, v] w fun e w' => ∃ u, e = .returned (.tuple #[u, .int .i64 (Pg.pack K ls.flatten).2]) ∧ Below w.heap.size w w' ∧ BIn w' u (Pg.pack K ls.flatten).1 ∧ NilOk u := by
  by_cases hk : K < 1 ∨ 255 < K
  · have hp : Pg.pack K ls.flatten = ([], 2) := by unfold Pg.pack; rw [if_pos hk]
    rw [hp]
    clear hp h hl hT
    by_cases hk1 : K < 1
    · go_enter Tryd.func9, Tryd.ntmps9
      go_wp2_with fail
      go_ret2
      exact ⟨_, rfl, Below.refl _ _, bin_nil w⟩
    · have hk2 : 255 < K := by omega
      go_enter Tryd.func9, Tryd.ntmps9
      go_wp2_with fail
      go_ret2
      exact ⟨_, rfl, Below.refl _ _, bin_nil w⟩
  have hk1 : ¬ K < 1 := fun e => hk (.inl e)
  have hk2 : ¬ 255 < K := fun e => hk (.inr e)
  have HPK := Lib.hid (show Pg.pack K ls.flatten = if 505 < ls.flatten.length then ([], 12) else (Pg.octets K.toNat ls.flatten, 0) from by unfold Pg.pack; rw [if_neg hk])
  have HTOT := Lib.hid (fun k => Nat.le_trans (pre_le ls k) (Nat.le_refl _))
  have HT := Lib.hid hT
  obtain ⟨ao, cap, rfl, hlc, hc9, hg⟩ := h
  obtain ⟨L, hL⟩ : ∃ L, L = ls.length := ⟨_, rfl⟩
  have HL := Lib.hid hL
  have HG := Lib.hid hg
  rw [← hL] at hlc hl ⊢
  clear hL hg hk hT
  have hm1 := Blk.made w 508
  have hb1 : Below w.heap.size w (w.alloc (.cells (madeCells #[.int .u8 0] 508) 5)) := (Below.refl _ w).alloc (Nat.le_refl _) _
  have hmk : (Instr.makeSlice 23 (.int .i64 508) (.int .i64 508)).run Tryd.prog w = .ok (.slice (some ⟨w.heap.size, 0, none⟩) 508 508) (w.alloc (.cells (madeCells #[.int .u8 0] 508) 5)) := run_make_row' (P := Tryd.prog) 23 5 (.int .u8 0) 1 Tryd.underlying23 bytes_info rfl .i64 .i64 508 (by omega) (by omega) w
  go_enter Tryd.func9, Tryd.ntmps9
  go_upto_region 4 with fail
  clear hmk
  generalize w.alloc (.cells (madeCells #[.int .u8 0] 508) 5) = w1 at hm1 hb1 ⊢
  obtain ⟨g, hgg⟩ : ∃ g, g = w.heap.size := ⟨_, rfl⟩
  have HGG : Hid (w.heap.size ≤ g) := Lib.hid (by omega)
  rw [← hgg] at hm1 ⊢
  have HB1 := Lib.hid (And.intro hb1 hm1)
  clear hgg hb1 hm1
  go_wp2_with fail
  go_loopw [7, 19] (fun n i wr => ∃ k m : Nat, k ≤ L ∧ i = .int .i64 k ∧ n = .int .i64 m ∧ m ≤ 505 ∧ Hid (m = (ls.take k).flatten.length ∧ Below w.heap.size w wr ∧ Blk wr g (Pg.lay (ls.take k).flatten))) (fun _ i _ => L - (intOf i).toNat)
  case atStart => exact ⟨0, 0, Nat.zero_le _, rfl, rfl, Nat.zero_le _, Lib.hid ⟨rfl, HB1.out.1, by rw [List.take_zero]; exact HB1.out.2⟩⟩
  case round =>
    obtain ⟨k, m, hk, rfl, rfl, hm, HM⟩ := hrel
    clear HB1
    by_cases hlt : k < L
    · have hki : (k : Int) < L := by omega
      have k0 : k < ls.length := by rw [← HL.out]; exact hlt
      obtain ⟨b, o, hao, hbl, hcell⟩ := HG.out.resolve_left (fun x => by rw [x] at k0; cases k0)
      subst hao
      obtain ⟨u, hu, hbin, hnil⟩ := hcell k k0
      have HS := Lib.hid (fl_snoc ls k k0)
      have HTT := Lib.hid (HTOT.out (k + 1))
      have hu' := cell_later HM.out.2.1 hu
      have hbin' := hbin.later HM.out.2.1
      have HBI := Lib.hid hbin'
      obtain ⟨pl, hpl⟩ : ∃ pl, pl = ls[k].length := ⟨_, rfl⟩
      obtain ⟨a2, c2, rfl, hpc, hp9, _⟩ := hbin
      rw [← hpl] at hu' hpc HBI
      have HPL := Lib.hid hpl
      generalize ls[k] = p at *
      clear hcell hbin' hpl hu hnil
      have hmi : 0 ≤ (m : Int) ∧ (m : Int) ≤ 505 := by omega
      by_cases hbig : 505 - m < pl
      · have hbi : (505 : Int) - m < pl := by omega
        have HE : Hid (Pg.pack K ls.flatten = ([], 12)) := Lib.hid (by
          rw [HPK.out, if_pos]
          have := HTT.out
          rw [HS.out, List.length_append, ← HM.out.1, ← HPL.out] at this
          omega)
        go_wp2_with fail
        go_ret2
        exact ⟨_, by rw [HE.out]; rfl, HM.out.2.1, by rw [HE.out]; exact bin_nil wr⟩
      · have hbi : ¬ (505 : Int) - m < pl := by omega
        have hb9 : m + pl ≤ 505 := by omega
        obtain ⟨pre, hpre⟩ : ∃ pre, pre = (ls.take k).flatten := ⟨_, rfl⟩
        rw [← hpre] at HM HS
        clear hpre
        have HF : Hid (3 + m + p.length ≤ (Pg.lay pre).length) := Lib.hid (by rw [Pg.lay_length (by rw [← HM.out.1]; exact hm), ← HPL.out]; omega)
        have HNX : Hid ((Pg.lay pre).take (3 + m) ++ (p ++ (Pg.lay pre).drop (3 + m + p.length)) = Pg.lay (ls.take (k + 1)).flatten) := Lib.hid (by
          rw [HM.out.1, HS.out]; exact Pg.lay_more pre p (by rw [← HM.out.1, ← HPL.out]; exact hb9))
        have HM2 : Hid (m + pl = (ls.take (k + 1)).flatten.length) := Lib.hid (by rw [HS.out, List.length_append, ← HM.out.1, ← HPL.out])
        have hb9i : (m : Int) + pl ≤ 505 := by omega
        clear hbig
        by_cases h505 : m = 505
        · obtain rfl : pl = 0 := by omega
          subst h505
          go_wp2_with (refine wpList_copy_in rfl (.tmp 32) (.tmp 33) rfl rfl rfl rfl (off := 3 + 505) HM.out.2.2 HBI.out (by rw [← HPL.out]; omega) HF.out (fun h0 => by rw [← HPL.out] at h0; omega) HPL.out.symm ?_; intro w2 HB2 HK2)
          go_roundw
          case rel => exact ⟨k + 1, 505 + 0, by omega, by go_num, by go_num, by omega, Lib.hid ⟨HM2.out, HK2.out.1 _ _ HM.out.2.1 HGG.out, by rw [← HNX.out]; exact HB2.out⟩⟩
          case measure => simp [intOf]; omega
        · have hm4 : m < 505 := by omega
          have hm4i : (m : Int) < 505 := by omega
          go_wp2_with (refine wpList_copy_in rfl (.tmp 32) (.tmp 33) rfl rfl rfl rfl (off := 3 + m) HM.out.2.2 HBI.out (by rw [← HPL.out]; omega) HF.out (fun _ => rfl) HPL.out.symm ?_; intro w2 HB2 HK2)
          go_roundw
          case rel => exact ⟨k + 1, m + pl, by omega, by go_num, by go_num, by omega, Lib.hid ⟨HM2.out, HK2.out.1 _ _ HM.out.2.1 HGG.out, by rw [← HNX.out]; exact HB2.out⟩⟩
          case measure => simp [intOf]; omega
    · have hki : ¬ (k : Int) < L := by omega
      obtain ⟨fl, hfl⟩ : ∃ fl, fl = ls.flatten := ⟨_, rfl⟩
      have hke : (ls.take k).flatten = fl := by rw [hfl, show k = ls.length by rw [← HL.out]; omega, List.take_length]
      rw [hke] at HM
      rw [← hfl] at HPK
      have HE : Hid (Pg.pack K ls.flatten = (Pg.octets K.toNat fl, 0)) := Lib.hid (by rw [← hfl, HPK.out, if_neg (by rw [← HM.out.1]; omega)])
      have HFL : Hid (fl.length = m) := Lib.hid HM.out.1.symm
      clear hlt hk hke hfl HTOT HPK HG HL
      have hKc : K = ((UInt8.ofNat K.toNat).toNat : Int) := by rw [UInt8.toNat_ofNat', Nat.mod_eq_of_lt (by omega)]; omega
      have d0 : IntKind.u8.wrap K = K := by rw [IntKind.wrap_u8]; omega
      have d1 : IntKind.u8.wrap ((m : Int) / 256) = ((m / 256 : Nat) : Int) := by rw [IntKind.wrap_u8]; omega
      have d2 : IntKind.u8.wrap (m : Int) = ((m % 256 : Nat) : Int) := by rw [IntKind.wrap_u8]; omega
      have HKC := Lib.hid hKc
      have hll : (Pg.lay fl).length = 508 := Pg.lay_length (by rw [HFL.out]; exact hm)
      obtain ⟨y0, a0, b0⟩ : ∃ y : Nat, wr.cell? ⟨g, 0, none⟩ = some (.int .u8 (y : Int)) ∧ wr.frozen? ⟨g, 0, none⟩ = false := ⟨_, HM.out.2.2.cell 0 (by rw [hll]; decide)⟩
      obtain ⟨y1, a1, b1⟩ : ∃ y : Nat, wr.cell? ⟨g, 1, none⟩ = some (.int .u8 (y : Int)) ∧ wr.frozen? ⟨g, 1, none⟩ = false := ⟨_, HM.out.2.2.cell 1 (by rw [hll]; decide)⟩
      obtain ⟨y2, a2, b2⟩ : ∃ y : Nat, wr.cell? ⟨g, 2, none⟩ = some (.int .u8 (y : Int)) ∧ wr.frozen? ⟨g, 2, none⟩ = false := ⟨_, HM.out.2.2.cell 2 (by rw [hll]; decide)⟩
      have hB3 := ((HM.out.2.2.set 0 (UInt8.ofNat K.toNat) K hKc).set 1 (UInt8.ofNat (m / 256)) ((m : Int) / 256) (by rw [UInt8.toNat_ofNat', Nat.mod_eq_of_lt (by omega)]; omega)).set 2 (UInt8.ofNat (m % 256)) ((m : Int) % 256) (by rw [UInt8.toNat_ofNat', Nat.mod_eq_of_lt (by omega)]; omega)
      have hin : (((Pg.lay fl).set 0 (UInt8.ofNat K.toNat)).set 1 (UInt8.ofNat (m / 256))).set 2 (UInt8.ofNat (m % 256)) = Pg.inner K.toNat fl := by rw [← HFL.out]; exact Pg.inner_set _ _
      rw [hin] at hB3
      have hb3 := set_below (k := 2) (v := .int .u8 ((m : Int) % 256)) (set_below (k := 1) (v := .int .u8 ((m : Int) / 256)) (set_below (k := 0) (v := .int .u8 K) HM.out.2.1 HGG.out) HGG.out) HGG.out
      have HIL : Hid ((Pg.inner K.toNat fl).length = 508) := Lib.hid (Pg.inner_length (by rw [HFL.out]; exact hm))
      have H3 := Lib.hid (And.intro hb3 hB3)
      clear hKc hll hin hb3 hB3 HM HKC HGG
      go_upto_region 12 with fail
      clear a0 b0 a1 b1 a2 b2 d0 d1 d2
      generalize ((wr.setCell ⟨g, 0, none⟩ (.int .u8 K)).setCell ⟨g, 1, none⟩ (.int .u8 ((m : Int) / 256))).setCell ⟨g, 2, none⟩ (.int .u8 ((m : Int) % 256)) = w3 at H3 ⊢
      have hbs := bs_lit w3 #[.slice (some ⟨g, 0, none⟩) 508 508] [Pg.inner K.toNat fl] 1 rfl (by decide) (fun j hj => by
        match j, hj with
        | 0, _ => exact ⟨_, rfl, H3.out.2.in_ HIL.out.symm (Nat.le_refl _) (by decide), nil_ok _ _ _⟩)
      have hb4 := H3.out.1.alloc H3.out.1.size (.cells #[.slice (some ⟨g, 0, none⟩) 508 508] 23)
      have cF := Frame_w _ _ _ hbs (by rw [List.flatten_singleton, HIL.out]; decide) (HT.out.later hb4)
      rw [List.flatten_singleton] at cF
      have HB4 := Lib.hid hb4
      clear hbs hb4
      go_wp2_with fail
      refine cF.mono ?_
      rintro e w5 ⟨u, rfl, hB5⟩
      have HB5 := Lib.hid hB5
      clear cF hB5
      go_wp2_with fail
      go_ret2
      exact ⟨_, by rw [HE.out]; rfl, bt5 HB4.out HB5.out.below, by rw [HE.out]; exact HB5.out.in_⟩
end Go.Proofs.YtlipgphmhkjnpaaDoor
