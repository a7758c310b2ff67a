/- Octets in a block of the call's own, written one by one; the law CrcAdds. -/
import Derived.Test.YtkmefpeplpllhaaDoorCrJ
import Derived.Test.YtkmefpeplpllhaaDoorRel
import Derived.BigQuiet
import Derived.Deep.OwnRows
namespace Go.Proofs.YtkmefpeplpllhaaDoor
open Go.RowKit

/-- Block g holds the octets l, and may be written. -/
def Blk (w : World) (g : Nat) (l : List UInt8) : Prop := ∃ C, w.heap[g]? = some (.cells C 5 (0, 0)) ∧ l.length ≤ C.size ∧ C.toList.take l.length = Lib.byteCells l
theorem Blk.lt {w : World} {g : Nat} {l : List UInt8} (h : Blk w g l) : g < w.heap.size := by obtain ⟨C, h1, _⟩ := h; exact lt_of_block h1
theorem Blk.cell {w : World} {g : Nat} {l : List UInt8} (h : Blk w g l) (k : Nat) (hk : k < l.length) : w.cell? ⟨g, k, none⟩ = some (.int .u8 (l[k].toNat : Int)) ∧ w.frozen? ⟨g, k, none⟩ = false := by
  obtain ⟨C, h1, h3, h4⟩ := h
  have h5 : C.toList[k]? = some (.int .u8 (l[k].toNat : Int)) := by
    have h6 : (C.toList.take l.length)[k]? = (Lib.byteCells l)[k]? := by rw [h4]
    rw [List.getElem?_take_of_lt hk] at h6
    rw [h6]; simp [Lib.byteCells, hk]
  constructor
  · simp only [World.cell?, h1]; simpa using h5
  · simp only [World.frozen?, h1]; simp
theorem Blk.set {w : World} {g : Nat} {l : List UInt8} (h : Blk w g l) (k : Nat) (c : UInt8) (n : Int) (hn : n = c.toNat) : Blk (w.setCell ⟨g, k, none⟩ (.int .u8 n)) g (l.set k c) := by
  subst hn
  have hlt := h.lt
  obtain ⟨C, h1, h3, h4⟩ := h
  refine ⟨C.setIfInBounds k (.int .u8 c.toNat), ?_, by simpa using h3, ?_⟩
  · show (w.heap.modify g _)[g]? = _
    have h' : w.heap[g] = .cells C 5 (0, 0) := by simpa [Array.getElem?_eq_getElem hlt] using h1
    rw [Array.getElem?_eq_getElem (by simpa using hlt), Array.getElem_modify_self, h']
    rfl
  · rw [List.length_set, Array.toList_setIfInBounds, List.take_set, h4]
    simp [Lib.byteCells]
theorem set_below {B g k : Nat} {a w : World} {v : Value} (h : Below B a w) (hg : B ≤ g) : Below B a (w.setCell ⟨g, k, none⟩ v) := by
  refine h.trans ⟨rfl, rfl, rfl, by simp [World.setCell], fun j hj => ?_⟩
  have hne : g ≠ j := by omega
  show (w.heap.modify g _)[j]? = _
  rw [Array.getElem?_modify]
  simp [hne]
theorem Blk.in_ {w : World} {g n cap : Nat} {l : List UInt8} (h : Blk w g l) (hn : n = l.length) (hc : n ≤ cap) (h9 : cap ≤ 9223372036854775807) : BIn w (.slice (some ⟨g, 0, none⟩) n cap) l := by
  subst hn
  exact ⟨_, cap, rfl, hc, h9, .inr ⟨g, 0, rfl, h.lt, fun j hj => by rw [Nat.zero_add]; exact (h.cell j hj).1⟩⟩
theorem Blk.made (w : World) (n : Nat) : Blk (w.alloc (.cells (madeCells #[.int .u8 0] n) 5)) w.heap.size (List.replicate n 0) := by
  refine ⟨_, heap_alloc_new w _, by simp [madeCells], ?_⟩
  rw [List.length_replicate]
  refine List.ext_getElem (by simp [madeCells, Lib.byteCells]) fun j h1 h2 => ?_
  simp [madeCells, Lib.byteCells, Nat.mod_one]
theorem xr8 (a b : UInt8) (c : Nat) (h : (a ^^^ b).toNat = c) : bits .xor .u8 (a.toNat : Int) (b.toNat : Int) = (c : Int) := by
  rw [u8_xor_nat _ _ a.toNat_lt b.toNat_lt, ← UInt8.toNat_xor, h]

/-- The sum of one piece that lies in a block of its own. -/
theorem sum_box (w : World) (hT : CTab w) : Hid (∀ (v : Value) (l : List UInt8) (W : World) (g : Nat), Below w.heap.size w W → BIn W v l → NilOk v → W.cell? ⟨g, 0, none⟩ = some v →
    Calls Tryd.prog 11 #[.slice (some ⟨g, 0, none⟩) 1 1] W fun e w' => e = .returned (.int .u32 ((Cr.sum l : Nat) : Int)) ∧ W = w') := Lib.hid fun v l W g hb hv hn hc => by
  have := Sum_w (.slice (some ⟨g, 0, none⟩) 1 1) [l] W ⟨_, 1, rfl, Nat.le_refl _, by decide, .inr ⟨g, 0, rfl, World.block_lt_of_cell? W _ hc, fun j hj => by
    match j, hj with
    | 0, _ => exact ⟨v, hc, hv, hn⟩⟩⟩ (hT.later hb)
  rwa [List.flatten_singleton] at this
theorem NilOk.cut {w : World} {a : Option Addr} {m c n : Nat} {l : List UInt8} (h : BIn w (.slice a m c) l) (hn : NilOk (.slice a m c)) : NilOk (.slice a n c) := fun k e => by
  injection e with e1 e2 e3
  subst e1 e3
  obtain ⟨ao, cap, hv, h1, h2, hg⟩ := h
  injection hv with hv1 hv2 hv3
  subst hv1
  rcases hg with rfl | ⟨b, o, hx, _⟩
  · subst hv2
    exact hn c rfl
  · cases hx
def fill (D : List UInt8) (n k : Nat) : List UInt8 := D.take k ++ List.replicate (n - k) 0
theorem fill_zero (D : List UInt8) (n : Nat) : fill D n 0 = List.replicate n 0 := by simp [fill]
theorem fill_len {D : List UInt8} {n k : Nat} (h : D.length = n) (hk : k ≤ n) : (fill D n k).length = n := by simp [fill]; omega
theorem fill_full {D : List UInt8} {n : Nat} (h : D.length = n) : fill D n n = D := by simp [fill, ← h]
theorem fill_set {D : List UInt8} {n k : Nat} (h : D.length = n) (hk : k < n) : (fill D n k).set k (D[k]'(by omega)) = fill D n (k + 1) := by
  unfold fill
  have hl : (D.take k).length = k := by rw [List.length_take]; omega
  rw [List.set_append_right _ _ (by omega), hl, Nat.sub_self, tk_snoc D k (by omega), show n - k = (n - (k + 1)) + 1 by omega, List.replicate_succ, List.set_cons_zero, List.append_assoc]
  rfl
theorem run_min3 (P : Program) (W : World) (ts : Array TypeId) (t : TypeId) (x y z n : Nat) (hn : n = min (min x y) z) : (Builtin.min_ ts t #[.int .i64 (x : Int), .int .i64 (y : Int), .int .i64 (z : Int)]).run P W = .ok (.int .i64 (n : Int)) W := by
  have e : (if (z : Int) < (if y < x then (y : Int) else (x : Int)) then (z : Int) else (if y < x then (y : Int) else (x : Int))) = (n : Int) := by split <;> split <;> omega
  simp [Builtin.min_, Builtin.min2, e]
theorem take_cut {l : List UInt8} {n k : Nat} (h : k < n) (hl : n ≤ l.length) : (l.take n)[k]'(by rw [List.length_take]; omega) = l[k]'(by omega) := by simp

set_option maxHeartbeats 3200000 in
set_option maxRecDepth 100000 in
theorem adds_w (va : Value) (la : List UInt8) (vb : Value) (lb : List UInt8) (vc : Value) (lc : List UInt8) (w : World) (h0 : BIn w va la) (p0 : NilOk va) (h1 : BIn w vb lb) (p1 : NilOk vb) (h2 : BIn w vc lc) (p2 : NilOk vc) (hT : CTab w) :
    Calls Tryd.prog 6 #[va, vb, vc] w fun e w' => e = .returned (.bool true) ∧ Below w.heap.size w w' := by
  have cA := fun (W : World) (hb : Below w.heap.size w W) => awake_w W (hT.later hb)
  have hww : Below w.heap.size w w := Below.refl _ _
  have HNA := Lib.hid h0
  have PNA := Lib.hid p0
  obtain ⟨a0, c0, rfl, q0, r0, g0⟩ := h0
  obtain ⟨NA, e0⟩ : ∃ NA, NA = la.length := ⟨_, rfl⟩
  have ENA := Lib.hid e0
  have GNA := Lib.hid g0
  rw [← e0] at q0 HNA PNA ⊢
  clear p0
  have HNB := Lib.hid h1
  have PNB := Lib.hid p1
  obtain ⟨a1, c1, rfl, q1, r1, g1⟩ := h1
  obtain ⟨NB, e1⟩ : ∃ NB, NB = lb.length := ⟨_, rfl⟩
  have ENB := Lib.hid e1
  have GNB := Lib.hid g1
  rw [← e1] at q1 HNB PNB ⊢
  clear p1
  have HNC := Lib.hid h2
  have PNC := Lib.hid p2
  obtain ⟨a2, c2, rfl, q2, r2, g2⟩ := h2
  obtain ⟨NC, e2⟩ : ∃ NC, NC = lc.length := ⟨_, rfl⟩
  have ENC := Lib.hid e2
  have GNC := Lib.hid g2
  rw [← e2] at q2 HNC PNC ⊢
  clear p2
  by_cases h5 : (500 : Int) < NA
  · clear e0 e1 e2 g0 g1 g2 hT
    go_enter Tryd.func6, Tryd.ntmps6
    go_wp2_with fail
    refine (cA w hww).mono ?_
    rintro e w1 ⟨rfl, hb1⟩
    go_wp2_with fail
    refine (cA w1 hb1).mono ?_
    rintro e w2 ⟨rfl, hb2⟩
    go_wp2_with fail
    go_ret
    exact ⟨rfl, bt5 hb1 hb2⟩
  by_cases h5b : (500 : Int) < NB
  · clear e0 e1 e2 g0 g1 g2 hT
    go_enter Tryd.func6, Tryd.ntmps6
    go_wp2_with fail
    refine (cA w hww).mono ?_
    rintro e w1 ⟨rfl, hb1⟩
    go_wp2_with fail
    refine (cA w1 hb1).mono ?_
    rintro e w2 ⟨rfl, hb2⟩
    go_wp2_with fail
    go_ret
    exact ⟨rfl, bt5 hb1 hb2⟩
  by_cases h5c : (500 : Int) < NC
  · clear e0 e1 e2 g0 g1 g2 hT
    go_enter Tryd.func6, Tryd.ntmps6
    go_wp2_with fail
    refine (cA w hww).mono ?_
    rintro e w1 ⟨rfl, hb1⟩
    go_wp2_with fail
    refine (cA w1 hb1).mono ?_
    rintro e w2 ⟨rfl, hb2⟩
    go_wp2_with fail
    go_ret
    exact ⟨rfl, bt5 hb1 hb2⟩
  have HT := Lib.hid hT
  have HA := Lib.hid (cA w hww)
  have k0 : NA ≤ 500 := by omega
  have k1 : NB ≤ 500 := by omega
  have k2 : NC ≤ 500 := by omega
  clear e0 e1 e2 g0 g1 g2 hT cA hww
  go_enter Tryd.func6, Tryd.ntmps6
  go_wp2_with fail
  refine HA.out.mono ?_
  rintro e w1 ⟨rfl, hb1⟩
  obtain ⟨n, hn⟩ : ∃ n, n = min (min NA NB) NC := ⟨_, rfl⟩
  have hmin := run_min3 Tryd.prog w1 #[3, 3, 3] 3 NA NB NC n hn
  have n0 : n ≤ NA := by omega
  have n1 : n ≤ NB := by omega
  have n2 : n ≤ NC := by omega
  have ni : (n : Int) ≤ 500 := by omega
  clear hn
  go_upto_region 4 with fail
  clear hmin
  have hmk := run_make_row' (P := Tryd.prog) 23 5 (.int .u8 0) 1 Tryd.underlying23 bytes_info rfl .i64 .i64 n (by omega) (by omega)
  have hmade := Blk.made w1 n
  go_upto_region 5 with fail
  have hbm : Below w.heap.size w (w1.alloc (.cells (madeCells #[.int .u8 0] n) 5)) := hb1.alloc hb1.size _
  obtain ⟨g, hg⟩ : ∃ g, g = w1.heap.size := ⟨_, rfl⟩
  have hgw : w.heap.size ≤ g := by rw [hg]; exact hb1.size
  generalize w1.alloc _ = w2 at hmade hbm ⊢
  rw [← hg] at hmade ⊢
  clear hg hmk hb1
  obtain ⟨D, hD⟩ : ∃ D, D = Cr.dif (Cr.dif (la.take n) (lb.take n)) (lc.take n) := ⟨_, rfl⟩
  have la0 : n ≤ la.length := by rw [← ENA.out]; exact n0
  have lb0 : n ≤ lb.length := by rw [← ENB.out]; exact n1
  have lc0 : n ≤ lc.length := by rw [← ENC.out]; exact n2
  have hDl : D.length = n := by rw [hD, Cr.dif_length, Cr.dif_length, List.length_take, List.length_take, List.length_take]; omega
  have HDG : Hid (∀ k (hk : k < n), D[k]'(by omega) = la[k]'(by omega) ^^^ lb[k]'(by omega) ^^^ lc[k]'(by omega)) := Lib.hid (by
    intro k hk
    simp only [hD]
    rw [Cr.dif_get _ _ _ _ (by rw [Cr.dif_length, List.length_take, List.length_take]; omega) (by rw [List.length_take]; omega), Cr.dif_get _ _ _ _ (by rw [List.length_take]; omega) (by rw [List.length_take]; omega), take_cut hk la0, take_cut hk lb0, take_cut hk lc0])
  have HS4 : Hid (Cr.sum D = Cr.sum (la.take n) ^^^ Cr.sum (lb.take n) ^^^ Cr.sum (lc.take n)) := Lib.hid (by
    rw [hD]; exact Cr.sum_dif3 _ _ _ (by rw [List.length_take, List.length_take]; omega) (by rw [List.length_take, List.length_take]; omega))
  rw [← fill_zero D n] at hmade
  have HDL := Lib.hid hDl
  clear hD
  go_upto_region 6 with fail
  go_loopw [9] (fun i wr => ∃ k : Nat, k ≤ n ∧ i = .int .i64 k ∧ Blk wr g (fill D n k) ∧ Below w.heap.size w wr) (fun i _ => n - (intOf i).toNat)
  case atStart => exact ⟨0, Nat.zero_le _, rfl, hmade, hbm⟩
  case round =>
    obtain ⟨k, hk, rfl, hB, hbr⟩ := hrel
    by_cases hlt : k < n
    · have hki : (k : Int) < n := by omega
      obtain ⟨b0, o0, hx0, hl0, hc0⟩ := GNA.out.resolve_left (fun x => by rw [x] at la0; simp at la0; omega)
      obtain ⟨b1, o1, hx1, hl1, hc1⟩ := GNB.out.resolve_left (fun x => by rw [x] at lb0; simp at lb0; omega)
      obtain ⟨b2, o2, hx2, hl2, hc2⟩ := GNC.out.resolve_left (fun x => by rw [x] at lc0; simp at lc0; omega)
      subst hx0 hx1 hx2
      have f0 := cell_later hbr (hc0 k (by omega))
      have f1 := cell_later hbr (hc1 k (by omega))
      have f2 := cell_later hbr (hc2 k (by omega))
      have hfl : k < (fill D n k).length := by rw [fill_len hDl hk]; exact hlt
      obtain ⟨fd, ff⟩ := hB.cell k hfl
      have HSET := Lib.hid (fun (c : UInt8) (z : Int) (hz : z = c.toNat) => hB.set k c z hz)
      have HBW := Lib.hid (fun (c : Value) => set_below (k := k) (v := c) hbr hgw)
      have HFS := Lib.hid (fill_set hDl hlt)
      have HDK := HDG.out k hlt
      rw [HDK] at HFS
      clear hc0 hc1 hc2
      generalize la[k] = x0 at *
      generalize lb[k] = x1 at *
      generalize lc[k] = x2 at *
      generalize (fill D n k)[k] = x3 at *
      obtain ⟨y1, hy1⟩ : ∃ y1, x0 ^^^ x1 = y1 := ⟨_, rfl⟩
      have t1 := xr8 x0 x1 y1.toNat (by rw [hy1])
      rw [hy1] at HFS
      obtain ⟨y2, hy2⟩ : ∃ y2, y1 ^^^ x2 = y2 := ⟨_, rfl⟩
      have t2 := xr8 y1 x2 y2.toNat (by rw [hy2])
      rw [hy2] at HFS
      clear hy1 hy2 HDK hfl hB
      have m0 : k < NA := by omega
      have m1 : k < NB := by omega
      have m2 : k < NC := by omega
      have i0 : (k : Int) < NA := by omega
      have i1 : (k : Int) < NB := by omega
      have i2 : (k : Int) < NC := by omega
      go_upto_region 8 with fail
      go_region
      have hB5 := HSET.out y2 (y2.toNat : Int) rfl
      rw [HFS.out] at hB5
      have hb5 := HBW.out (.int .u8 (y2.toNat : Int))
      have hB6 : Blk (wr.setCell ⟨g, k, none⟩ (.int .u8 (y2.toNat : Int))).drew g (fill D n (k + 1)) := hB5
      have hb6 := hb5.drew
      generalize (wr.setCell ⟨g, k, none⟩ (.int .u8 (y2.toNat : Int))).drew = w6 at hB6 hb6 ⊢
      clear HSET HBW hB5 hb5 fd ff f0 f1 f2 t1 t2 hbr
      go_wp2_with fail
      go_roundw
      case rel => exact ⟨k + 1, by omega, by go_num, hB6, hb6⟩
      case measure => simp [intOf]; omega
    · have hki : ¬ (k : Int) < n := by omega
      obtain rfl : k = n := by omega
      rw [fill_full hDl] at hB
      have hin := hB.in_ HDL.out.symm (Nat.le_refl _) (by omega : k ≤ 9223372036854775807)
      have CS := sum_box w HT.out
      have iA := (HNA.out.cut k la0).later hbr
      have iB := (HNB.out.cut k lb0).later hbr
      have iC := (HNC.out.cut k lc0).later hbr
      have oA : NilOk (.slice a0 k c0) := PNA.out.cut HNA.out
      have oB : NilOk (.slice a1 k c1) := PNB.out.cut HNB.out
      have oC : NilOk (.slice a2 k c2) := PNC.out.cut HNC.out
      have IA := Lib.hid iA
      have IB := Lib.hid iB
      have IC := Lib.hid iC
      have OA := Lib.hid oA
      have OB := Lib.hid oB
      have OC := Lib.hid oC
      have ID := Lib.hid hin
      have OD : Hid (NilOk (.slice (some ⟨g, 0, none⟩) k k)) := Lib.hid (some_ok _ _ _)
      have HBR := Lib.hid hbr
      have CA := Lib.hid (fun W γ hb hc => CS.out (.slice a0 k c0) (la.take k) W γ (bt5 HBR.out hb) (IA.out.later hb) OA.out hc)
      have CB := Lib.hid (fun W γ hb hc => CS.out (.slice a1 k c1) (lb.take k) W γ (bt5 HBR.out hb) (IB.out.later hb) OB.out hc)
      have CC := Lib.hid (fun W γ hb hc => CS.out (.slice a2 k c2) (lc.take k) W γ (bt5 HBR.out hb) (IC.out.later hb) OC.out hc)
      have CD := Lib.hid (fun W γ hb hc => CS.out (.slice (some ⟨g, 0, none⟩) k k) D W γ (bt5 HBR.out hb) (ID.out.later hb) OD.out hc)
      have s1l := Cr.sum_lt (la.take k)
      have s2l := Cr.sum_lt (lb.take k)
      have s3l := Cr.sum_lt (lc.take k)
      have s4 := HS4.out
      generalize Cr.sum (la.take k) = s1 at *
      generalize Cr.sum (lb.take k) = s2 at *
      generalize Cr.sum (lc.take k) = s3 at *
      generalize Cr.sum D = sD at *
      obtain ⟨z1, hz1⟩ : ∃ z1, s1 ^^^ s2 = z1 := ⟨_, rfl⟩
      have x1 := xr s1 s2 s1l s2l z1 hz1
      have z1l : z1 < 4294967296 := by rw [← hz1]; exact Cr.xor_lt s1l s2l
      rw [hz1] at s4
      have x2 := xr z1 s3 z1l s3l sD s4.symm
      clear hki hz1 s4 hin iA iB iC oA oB oC CS hB HDG hDl hmade hbm hlt hk HS4 IA IB IC OA OB OC ID OD
      go_upto_region 9 with fail
      refine Rel.region_of (by kernel_rfl) [some 59, some 60, some 61, some 62, some 63, some 64, some 65, some 66, some 67, some 68, some 69, some 70, some 71, some 72, some 73, some 74, some 75, some 76, some 77, some 78, some 79, some 6] (by kernel_rfl) (by kernel_rfl) [.eq (.slice a0 NA c0), .eq (.int .i64 (k : Int)), .eq (.slice a0 k c0), .box [.slice a0 k c0], .eq (.int .u32 ((s1 : Nat) : Int)), .eq (.slice a1 NB c1), .eq (.int .i64 (k : Int)), .eq (.slice a1 k c1), .box [.slice a1 k c1], .eq (.int .u32 ((s2 : Nat) : Int)), .eq (.int .u32 ((z1 : Nat) : Int)), .eq (.slice a2 NC c2), .eq (.int .i64 (k : Int)), .eq (.slice a2 k c2), .box [.slice a2 k c2], .eq (.int .u32 ((s3 : Nat) : Int)), .eq (.int .u32 ((sD : Nat) : Int)), .eq (.slice (some ⟨g, 0, none⟩) k k), .box [.slice (some ⟨g, 0, none⟩) k k], .eq (.int .u32 ((sD : Nat) : Int)), .eq (.bool true), .eq (.bool true)] ⟨?_, ?_, ?_, ?_, ?_, ?_, ?_, ?_, ?_, ?_, ?_, ?_, ?_, ?_, ?_, ?_, ?_, ?_, ?_, ?_, ?_, ?_, trivial⟩ ?_
      · intro u w9 hb9 hd9
        clear hd9
        refine ⟨?_⟩
        simp only [Rel.canD, List.take_zero]
        go_wp2_with fail
        exact ⟨rfl, rfl, Below.refl _ _, rfl⟩
      · intro u w9 hb9 hd9
        clear hd9
        refine ⟨?_⟩
        simp only [Rel.canD, List.take_succ_cons, List.take_zero, Nat.reduceAdd]
        go_wp2_with fail
        exact ⟨rfl, rfl, Below.refl _ _, rfl⟩
      · intro u w9 hb9 hd9
        have e0 : u 0 = .slice a0 NA c0 := hd9 0 (by kernel_rfl)
        have e1 : u 1 = .int .i64 (k : Int) := hd9 1 (by kernel_rfl)
        clear hd9
        refine ⟨?_⟩
        simp only [Rel.canD, List.take_succ_cons, List.take_zero, Nat.reduceAdd]
        go_wp2_with fail
        exact ⟨rfl, rfl, Below.refl _ _, rfl⟩
      · intro u w9 hb9 hd9
        have e2 : u 2 = .slice a0 k c0 := hd9 2 (by kernel_rfl)
        clear hd9
        refine ⟨?_⟩
        simp only [Rel.canD, List.take_succ_cons, List.take_zero, Nat.reduceAdd]
        go_wp2_with fail
        exact ⟨rfl, rfl, (Below.refl _ _).alloc (Nat.le_refl _) _, w9.heap.size, rfl, fun j hj => by
          match j, hj with
          | 0, _ => rw [World.cell?_alloc_at _ _ _ _ rfl]; rfl⟩
      · intro u w9 hb9 hd9
        have h3 : (Rel.Spec.box [.slice a0 k c0]).p (u 3) w9 := hd9 3 (by kernel_rfl)
        obtain ⟨g3, x3, c3⟩ := h3
        have e3 : u 3 = .slice (some ⟨g3, 0, none⟩) 1 1 := x3
        clear x3
        clear hd9
        refine ⟨?_⟩
        simp only [Rel.canD, List.take_succ_cons, List.take_zero, Nat.reduceAdd]
        go_wp2_with fail
        refine (CA.out w9 g3 hb9 (c3 0 Nat.zero_lt_one)).mono ?_
        rintro e w8 ⟨rfl, rfl⟩
        go_wp2_with fail
        exact ⟨rfl, rfl, Below.refl _ _, rfl⟩
      · intro u w9 hb9 hd9
        clear hd9
        refine ⟨?_⟩
        simp only [Rel.canD, List.take_succ_cons, List.take_zero, Nat.reduceAdd]
        go_wp2_with fail
        exact ⟨rfl, rfl, Below.refl _ _, rfl⟩
      · intro u w9 hb9 hd9
        clear hd9
        refine ⟨?_⟩
        simp only [Rel.canD, List.take_succ_cons, List.take_zero, Nat.reduceAdd]
        go_wp2_with fail
        exact ⟨rfl, rfl, Below.refl _ _, rfl⟩
      · intro u w9 hb9 hd9
        have e5 : u 5 = .slice a1 NB c1 := hd9 5 (by kernel_rfl)
        have e6 : u 6 = .int .i64 (k : Int) := hd9 6 (by kernel_rfl)
        clear hd9
        refine ⟨?_⟩
        simp only [Rel.canD, List.take_succ_cons, List.take_zero, Nat.reduceAdd]
        go_wp2_with fail
        exact ⟨rfl, rfl, Below.refl _ _, rfl⟩
      · intro u w9 hb9 hd9
        have e7 : u 7 = .slice a1 k c1 := hd9 7 (by kernel_rfl)
        clear hd9
        refine ⟨?_⟩
        simp only [Rel.canD, List.take_succ_cons, List.take_zero, Nat.reduceAdd]
        go_wp2_with fail
        exact ⟨rfl, rfl, (Below.refl _ _).alloc (Nat.le_refl _) _, w9.heap.size, rfl, fun j hj => by
          match j, hj with
          | 0, _ => rw [World.cell?_alloc_at _ _ _ _ rfl]; rfl⟩
      · intro u w9 hb9 hd9
        have h8 : (Rel.Spec.box [.slice a1 k c1]).p (u 8) w9 := hd9 8 (by kernel_rfl)
        obtain ⟨g8, x8, c8⟩ := h8
        have e8 : u 8 = .slice (some ⟨g8, 0, none⟩) 1 1 := x8
        clear x8
        clear hd9
        refine ⟨?_⟩
        simp only [Rel.canD, List.take_succ_cons, List.take_zero, Nat.reduceAdd]
        go_wp2_with fail
        refine (CB.out w9 g8 hb9 (c8 0 Nat.zero_lt_one)).mono ?_
        rintro e w8 ⟨rfl, rfl⟩
        go_wp2_with fail
        exact ⟨rfl, rfl, Below.refl _ _, rfl⟩
      · intro u w9 hb9 hd9
        have e4 : u 4 = .int .u32 ((s1 : Nat) : Int) := hd9 4 (by kernel_rfl)
        have e9 : u 9 = .int .u32 ((s2 : Nat) : Int) := hd9 9 (by kernel_rfl)
        clear hd9
        refine ⟨?_⟩
        simp only [Rel.canD, List.take_succ_cons, List.take_zero, Nat.reduceAdd]
        go_wp2_with fail
        exact ⟨rfl, rfl, Below.refl _ _, rfl⟩
      · intro u w9 hb9 hd9
        clear hd9
        refine ⟨?_⟩
        simp only [Rel.canD, List.take_succ_cons, List.take_zero, Nat.reduceAdd]
        go_wp2_with fail
        exact ⟨rfl, rfl, Below.refl _ _, rfl⟩
      · intro u w9 hb9 hd9
        clear hd9
        refine ⟨?_⟩
        simp only [Rel.canD, List.take_succ_cons, List.take_zero, Nat.reduceAdd]
        go_wp2_with fail
        exact ⟨rfl, rfl, Below.refl _ _, rfl⟩
      · intro u w9 hb9 hd9
        have e11 : u 11 = .slice a2 NC c2 := hd9 11 (by kernel_rfl)
        have e12 : u 12 = .int .i64 (k : Int) := hd9 12 (by kernel_rfl)
        clear hd9
        refine ⟨?_⟩
        simp only [Rel.canD, List.take_succ_cons, List.take_zero, Nat.reduceAdd]
        go_wp2_with fail
        exact ⟨rfl, rfl, Below.refl _ _, rfl⟩
      · intro u w9 hb9 hd9
        have e13 : u 13 = .slice a2 k c2 := hd9 13 (by kernel_rfl)
        clear hd9
        refine ⟨?_⟩
        simp only [Rel.canD, List.take_succ_cons, List.take_zero, Nat.reduceAdd]
        go_wp2_with fail
        exact ⟨rfl, rfl, (Below.refl _ _).alloc (Nat.le_refl _) _, w9.heap.size, rfl, fun j hj => by
          match j, hj with
          | 0, _ => rw [World.cell?_alloc_at _ _ _ _ rfl]; rfl⟩
      · intro u w9 hb9 hd9
        have h14 : (Rel.Spec.box [.slice a2 k c2]).p (u 14) w9 := hd9 14 (by kernel_rfl)
        obtain ⟨g14, x14, c14⟩ := h14
        have e14 : u 14 = .slice (some ⟨g14, 0, none⟩) 1 1 := x14
        clear x14
        clear hd9
        refine ⟨?_⟩
        simp only [Rel.canD, List.take_succ_cons, List.take_zero, Nat.reduceAdd]
        go_wp2_with fail
        refine (CC.out w9 g14 hb9 (c14 0 Nat.zero_lt_one)).mono ?_
        rintro e w8 ⟨rfl, rfl⟩
        go_wp2_with fail
        exact ⟨rfl, rfl, Below.refl _ _, rfl⟩
      · intro u w9 hb9 hd9
        have e10 : u 10 = .int .u32 ((z1 : Nat) : Int) := hd9 10 (by kernel_rfl)
        have e15 : u 15 = .int .u32 ((s3 : Nat) : Int) := hd9 15 (by kernel_rfl)
        clear hd9
        refine ⟨?_⟩
        simp only [Rel.canD, List.take_succ_cons, List.take_zero, Nat.reduceAdd]
        go_wp2_with fail
        exact ⟨rfl, rfl, Below.refl _ _, rfl⟩
      · intro u w9 hb9 hd9
        clear hd9
        refine ⟨?_⟩
        simp only [Rel.canD, List.take_succ_cons, List.take_zero, Nat.reduceAdd]
        go_wp2_with fail
        exact ⟨rfl, rfl, Below.refl _ _, rfl⟩
      · intro u w9 hb9 hd9
        have e17 : u 17 = .slice (some ⟨g, 0, none⟩) k k := hd9 17 (by kernel_rfl)
        clear hd9
        refine ⟨?_⟩
        simp only [Rel.canD, List.take_succ_cons, List.take_zero, Nat.reduceAdd]
        go_wp2_with fail
        exact ⟨rfl, rfl, (Below.refl _ _).alloc (Nat.le_refl _) _, w9.heap.size, rfl, fun j hj => by
          match j, hj with
          | 0, _ => rw [World.cell?_alloc_at _ _ _ _ rfl]; rfl⟩
      · intro u w9 hb9 hd9
        have h18 : (Rel.Spec.box [.slice (some ⟨g, 0, none⟩) k k]).p (u 18) w9 := hd9 18 (by kernel_rfl)
        obtain ⟨g18, x18, c18⟩ := h18
        have e18 : u 18 = .slice (some ⟨g18, 0, none⟩) 1 1 := x18
        clear x18
        clear hd9
        refine ⟨?_⟩
        simp only [Rel.canD, List.take_succ_cons, List.take_zero, Nat.reduceAdd]
        go_wp2_with fail
        refine (CD.out w9 g18 hb9 (c18 0 Nat.zero_lt_one)).mono ?_
        rintro e w8 ⟨rfl, rfl⟩
        go_wp2_with fail
        exact ⟨rfl, rfl, Below.refl _ _, rfl⟩
      · intro u w9 hb9 hd9
        have e16 : u 16 = .int .u32 ((sD : Nat) : Int) := hd9 16 (by kernel_rfl)
        have e19 : u 19 = .int .u32 ((sD : Nat) : Int) := hd9 19 (by kernel_rfl)
        clear hd9
        refine ⟨?_⟩
        simp only [Rel.canD, List.take_succ_cons, List.take_zero, Nat.reduceAdd]
        go_wp2_with fail
        exact ⟨rfl, rfl, Below.refl _ _, rfl⟩
      · intro u w9 hb9 hd9
        have e20 : u 20 = .bool true := hd9 20 (by kernel_rfl)
        clear hd9
        refine ⟨?_⟩
        simp only [Rel.canD, List.take_succ_cons, List.take_zero, Nat.reduceAdd]
        go_wp2_with fail
        exact ⟨rfl, rfl, Below.refl _ _, rfl⟩
      intro u w9 hb9 hR9
      have h21 : u 21 = .bool true := hR9 21 (by decide)
      simp only [Rel.canD, Nat.reduceAdd, h21]
      clear hR9
      have hbE := bt5 HBR.out hb9
      go_simp
      go_wp2_with fail
      go_ret
      exact ⟨rfl, hbE⟩
end Go.Proofs.YtkmefpeplpllhaaDoor
