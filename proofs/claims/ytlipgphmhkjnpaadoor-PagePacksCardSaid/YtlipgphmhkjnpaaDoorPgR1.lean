/- The document's own page (layer 14): Pack. -/
import Derived.Test.YtlipgphmhkjnpaaDoorPgMath
import Derived.Test.YtlipgphmhkjnpaaDoorPgD8
namespace Pg
theorem part_set (a b c : UInt8) (l : List UInt8) (j : Nat) (hj : j < l.length) (hl : l.length ≤ 505) : (a :: b :: c :: (l.take j ++ List.replicate (505 - j) 0)).set (3 + j) l[j] = a :: b :: c :: (l.take (j + 1) ++ List.replicate (505 - (j + 1)) 0) := by
  rw [show 3 + j = j + 1 + 1 + 1 by omega]
  simp only [List.set_cons_succ]
  congr 3
  have h1 : (l.take j).length = j := by rw [List.length_take]; omega
  rw [List.set_append, if_neg (by omega), h1, Nat.sub_self, List.take_succ_eq_append_getElem hj, List.append_assoc]
  congr 1
  rw [show 505 - j = 505 - (j + 1) + 1 by omega, List.replicate_succ]
  rfl
end Pg
namespace Go.Proofs.YtlipgphmhkjnpaaDoor
open Go.RowKit
theorem Buf.older {W W' w : World} {v : Value} {l : List UInt8} (h : Buf W' w v l) (hb : Below W.heap.size W W') : Buf W w v l := by
  refine ⟨⟨h.1.1, ?_⟩, hb.trans (h.2.mono hb.size)⟩
  rcases h.1.2 with h9 | ⟨g', cap', cur, hv, hbase, hb9, h1, h2, h3, h4⟩
  · exact .inl h9
  · exact .inr ⟨g', cap', cur, hv, Nat.le_trans hb.size hbase, hb9, h1, h2, h3, h4⟩

set_option maxHeartbeats 3200000 in
set_option maxRecDepth 100000 in
theorem rPack_w (k : Int) (v : Value) (l : List UInt8) (w : World) (h : BIn w v l) (_hk : -9223372036854775808 ≤ k ∧ k ≤ 9223372036854775807) :
    Calls Tryd.prog 10 #[.int .i64 k, v] w fun e w' => ∃ u, e = .returned (.tuple #[u, .int .i64 (Pg.pack k l).2]) ∧ Buf w w' u (Pg.pack k l).1 := by
  by_cases hk1 : k < 1
  · have e : Pg.pack k l = ([], 2) := if_pos (.inl hk1)
    rw [e]
    clear h e
    go_enter Tryd.func10, Tryd.ntmps10
    go_wp2_with fail
    go_ret2
    exact ⟨_, rfl, Buf.nil _⟩
  by_cases hk2 : 255 < k
  · have e : Pg.pack k l = ([], 2) := if_pos (.inr hk2)
    rw [e]
    clear h e
    go_enter Tryd.func10, Tryd.ntmps10
    go_wp2_with fail
    go_ret2
    exact ⟨_, rfl, Buf.nil _⟩
  have HB := Lib.hid h
  obtain ⟨ao, cap, rfl, hlc, hc9, hg⟩ := h
  by_cases hl : 505 < l.length
  · have e : Pg.pack k l = ([], 12) := by unfold Pg.pack; rw [if_neg (by omega), if_pos hl]
    rw [e]
    have hli : (505 : Int) < l.length := by omega
    clear hg e HB hl
    generalize l.length = n at *
    go_enter Tryd.func10, Tryd.ntmps10
    go_wp2_with fail
    go_ret2
    exact ⟨_, rfl, Buf.nil _⟩
  have e : Pg.pack k l = (Pg.octets k.toNat l, 0) := by unfold Pg.pack; rw [if_neg (by omega), if_neg hl]
  rw [e]
  clear e
  obtain ⟨kn, rfl⟩ : ∃ kn : Nat, k = kn := ⟨k.toNat, by omega⟩
  rw [Int.toNat_natCast]
  have HO : Hid (Pg.octets kn l = Cr.frame (Pg.inner kn l)) := Lib.hid rfl
  obtain ⟨X, hX⟩ : ∃ X, X = Pg.octets kn l := ⟨_, rfl⟩
  rw [← hX] at HO ⊢
  clear hX
  obtain ⟨n, hn⟩ : ∃ n, n = l.length := ⟨_, rfl⟩
  have HN := Lib.hid hn
  rw [← hn] at hlc hl ⊢
  have hg9 : ∀ j (hj : j < l.length), ∃ b o, ao = some ⟨b, o, none⟩ ∧ b < w.heap.size ∧ w.cell? ⟨b, o + j, none⟩ = some (.int .u8 (l[j].toNat : Int)) := fun j hj => by
    rcases hg with h9 | ⟨b, o, h1, h2, h3⟩
    · rw [h9] at hj; cases hj
    · exact ⟨b, o, h1, h2, h3 j hj⟩
  have HG := Lib.hid hg9
  clear hg hg9 hn
  have hmk : (Instr.makeSlice 23 (.int .i64 508) (.int .i64 508)).run Tryd.prog w = .ok (.slice (some ⟨w.heap.size, 0, none⟩) 508 508) (w.alloc (.cells (madeCells #[.int .u8 0] 508) 5)) := run_make_row' (P := Tryd.prog) 23 5 (.int .u8 0) 1 Tryd.underlying23 bytes_info rfl .i64 .i64 508 (by omega) (by omega) w
  have hb1 : Below w.heap.size w (w.alloc (.cells (madeCells #[.int .u8 0] 508) 5)) := (Below.refl _ w).alloc (Nat.le_refl _) _
  have hm1 := Blk.made w 508
  have hk9 : kn ≤ 255 := by omega
  have hn9 : n ≤ 505 := by omega
  go_enter Tryd.func10, Tryd.ntmps10
  go_upto_region 6 with fail
  clear hmk
  generalize w.alloc (.cells (madeCells #[.int .u8 0] 508) 5) = w1 at hb1 hm1 ⊢
  obtain ⟨g, hgg⟩ : ∃ g, g = w.heap.size := ⟨_, rfl⟩
  have HGG : Hid (w.heap.size ≤ g) := Lib.hid (by omega)
  rw [← hgg] at hm1 ⊢
  clear hgg
  have c0 := (hm1.cell 0 (by rw [List.length_replicate]; decide)).1
  have f0 := (hm1.cell 0 (by rw [List.length_replicate]; decide)).2
  have HS : Hid (∀ (W : World) (A : List UInt8), Below w.heap.size w W → Blk W g A → ∀ (k : Nat) (c : UInt8) (n : Int), n = c.toNat → Below w.heap.size w (W.setCell ⟨g, k, none⟩ (.int .u8 n)) ∧ Blk (W.setCell ⟨g, k, none⟩ (.int .u8 n)) g (A.set k c)) := Lib.hid (fun W A hW hA k c n hn => ⟨set_below hW HGG.out, hA.set k c n hn⟩)
  have H2 := HS.out _ _ hb1 hm1 0 (UInt8.ofNat kn) kn (by rw [oct_of kn (by omega)])
  clear hb1 hm1
  have HX2 := Lib.hid H2
  clear H2
  go_upto_region 7 with fail
  generalize w1.setCell ⟨g, 0, none⟩ (.int .u8 (kn : Int)) = w2 at HX2 ⊢
  clear c0 f0
  have c1 := (HX2.out.2.cell 1 (by rw [List.length_set, List.length_replicate]; decide)).1
  have f1 := (HX2.out.2.cell 1 (by rw [List.length_set, List.length_replicate]; decide)).2
  go_upto_region 8 with fail
  have H3 := HS.out _ _ HX2.out.1 HX2.out.2 1 (UInt8.ofNat (n / 256)) ((n : Int) / 256) (by rw [oct_of (n / 256) (by omega)]; omega)
  have HX3 := Lib.hid H3
  clear H3 c1 f1
  generalize w2.setCell ⟨g, 1, none⟩ (.int .u8 ((n : Int) / 256)) = w3 at HX3 ⊢
  clear HX2
  have c2 := (HX3.out.2.cell 2 (by rw [List.length_set, List.length_set, List.length_replicate]; decide)).1
  have f2 := (HX3.out.2.cell 2 (by rw [List.length_set, List.length_set, List.length_replicate]; decide)).2
  go_upto_region 9 with fail
  have H4 := HS.out _ _ HX3.out.1 HX3.out.2 2 (UInt8.ofNat (n % 256)) ((n : Int) % 256) (by rw [oct_of (n % 256) (by omega)]; omega)
  have e4 : (((List.replicate 508 (0 : UInt8)).set 0 (UInt8.ofNat kn)).set 1 (UInt8.ofNat (n / 256))).set 2 (UInt8.ofNat (n % 256)) = UInt8.ofNat kn :: UInt8.ofNat (n / 256) :: UInt8.ofNat (n % 256) :: (l.take 0 ++ List.replicate (505 - 0) 0) := rfl
  rw [e4] at H4
  have HX4 := Lib.hid H4
  clear H4 c2 f2 e4
  generalize w3.setCell ⟨g, 2, none⟩ (.int .u8 ((n : Int) % 256)) = w4 at HX4 ⊢
  clear HX3
  go_wp2_with fail
  go_loopw [7] (fun i wr => ∃ j : Nat, j ≤ n ∧ i = .int .i64 j ∧ Hid (Below w.heap.size w wr ∧ Blk wr g (UInt8.ofNat kn :: UInt8.ofNat (n / 256) :: UInt8.ofNat (n % 256) :: (l.take j ++ List.replicate (505 - j) 0)))) (fun i _ => n - (intOf i).toNat)
  case atStart => exact ⟨0, Nat.zero_le _, rfl, HX4⟩
  case round =>
    obtain ⟨j, hj, rfl, HX⟩ := hrel
    clear HX4
    by_cases hlt : j < n
    · have hji : (j : Int) < n := by omega
      have hjl : j < l.length := by rw [← HN.out]; exact hlt
      obtain ⟨b, o, rfl, hb9, q1⟩ := HG.out j hjl
      have q2 := HX.out.1.cell (p := ⟨b, o + j, none⟩) hb9
      rw [q1] at q2
      have h3 := HX.out.2.cell (3 + j) (by simp only [List.length_cons, List.length_append, List.length_take, List.length_replicate]; omega)
      have c3 := h3.1
      have f3 := h3.2
      have H5 := HS.out _ _ HX.out.1 HX.out.2 (3 + j) l[j] _ rfl
      rw [Pg.part_set _ _ _ l j hjl (by rw [← HN.out]; exact hn9)] at H5
      have HX5 := Lib.hid H5
      generalize l[j] = x at q1 q2 HX5
      clear H5 h3 q1 HX
      go_wp2_with fail
      go_roundw
      case rel => exact ⟨j + 1, by omega, by go_num, HX5⟩
      case measure => simp [intOf]; omega
    · have hji : ¬ (j : Int) < n := by omega
      obtain rfl : j = n := by omega
      have ej : UInt8.ofNat kn :: UInt8.ofNat (j / 256) :: UInt8.ofNat (j % 256) :: (l.take j ++ List.replicate (505 - j) 0) = Pg.inner kn l := by
        rw [List.take_of_length_le (by rw [← HN.out]; exact Nat.le_refl _), HN.out]; rfl
      have H5 := HX.out
      rw [ej] at H5
      have hin : (Pg.inner kn l).length = 508 := Pg.inner_length (by rw [← HN.out]; omega)
      have cF := rFrame_w (.slice (some ⟨g, 0, none⟩) 508 508) _ wr (H5.2.in_ (by rw [hin]) (by omega) (by omega)) (nil_ok _ _ _) (by rw [hin]; decide)
      have HX5 := Lib.hid H5
      clear H5 ej hin HX hlt hj
      go_wp2_with fail
      refine cF.mono ?_
      rintro e w9 ⟨u, rfl, hB⟩
      go_wp2_with fail
      go_ret2
      exact ⟨_, rfl, by rw [HO.out]; exact hB.older HX5.out.1⟩
end Go.Proofs.YtlipgphmhkjnpaaDoor
