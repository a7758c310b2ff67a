/- The program's map in memory: end; Commit, Abort. -/
import Derived.Test.YtgfgafondiipoaaSvC
import Derived.Test.YtgfgafondiipoaaRelT
namespace Go.Proofs.Ytgfgafondiipoaa
open Go.RowKit

theorem done_sc (c : Sp.Cell) (h : c.1 ≤ 2) : sc (Sp.done c) = [.bool (decide (c.1 ≠ 0) && !c.2), .bool false, .bool false] ∧ ((Sp.done c).1 ≤ 2 ∧ ((Sp.done c).1 = 0 → (Sp.done c).2 = false)) := by
  obtain ⟨s, x⟩ := c
  simp only at h
  rcases (by omega : s = 0 ∨ s = 1 ∨ s = 2) with rfl | rfl | rfl <;> cases x <;> exact ⟨rfl, by decide⟩
theorem off_sc (c : Sp.Cell) (h : c.1 ≤ 2) : sc (Sp.off c) = [.bool (decide (c.1 ≠ 0) && !decide (c.1 = 2)), .bool false, .bool false] ∧ ((Sp.off c).1 ≤ 2 ∧ ((Sp.off c).1 = 0 → (Sp.off c).2 = false)) := by
  obtain ⟨s, x⟩ := c
  simp only at h
  rcases (by omega : s = 0 ∨ s = 1 ∨ s = 2) with rfl | rfl | rfl <;> cases x <;> exact ⟨rfl, by decide⟩
theorem PD.put3 {w : World} {q b : Nat} {m : Sp.M} (h : PD w q b m) (k : Nat) (x : Sp.Cell) (hx : x.1 ≤ 2 ∧ (x.1 = 0 → x.2 = false)) {u0 u1 u2 : Bool} (hs : sc x = [.bool u0, .bool u1, .bool u2]) :
    PD (((w.setCell ⟨b, k * 3, none⟩ (.bool u0)).setCell ⟨b, k * 3 + 1, none⟩ (.bool u1)).setCell ⟨b, k * 3 + 2, none⟩ (.bool u2)) q b (m.set k x) ∧ Touch (PF q b) w (((w.setCell ⟨b, k * 3, none⟩ (.bool u0)).setCell ⟨b, k * 3 + 1, none⟩ (.bool u1)).setCell ⟨b, k * 3 + 2, none⟩ (.bool u2)) := by
  refine ⟨?_, PD.t3⟩
  unfold sc at hs
  injection hs with h0 hs
  injection hs with h1 hs
  injection hs with h2 _
  have := h.put k x hx
  rw [h0, h1, h2] at this
  exact this
theorem PD.upto_facts {w : World} {q b n k s : Nat} {x : Bool} {m : Sp.M} {f : Sp.Cell → Sp.Cell} (h : PD w q b (upto f m k)) (hn : n = m.length) (hk : k < n) (he : m[k]? = some (s, x)) :
    w.cell? ⟨q, 0, none⟩ = some (.slice (some ⟨b, 0, none⟩) n n) ∧ w.cell? ⟨b, k * 3, none⟩ = some (.bool (decide (s ≠ 0))) ∧ w.cell? ⟨b, k * 3 + 1, none⟩ = some (.bool (decide (s = 2))) ∧ w.cell? ⟨b, k * 3 + 2, none⟩ = some (.bool x) := by
  subst hn
  obtain ⟨h1, h2⟩ := List.getElem?_eq_some_iff.1 he
  obtain ⟨h3, h4⟩ := upto_at f m k hk
  exact h.facts (upto_length f m k) hk (by rw [List.getElem?_eq_getElem h3, h4, h2])
set_option maxHeartbeats 6400000 in
set_option maxRecDepth 100000 in
theorem end_waits (w : World) (q b : Nat) (m : Sp.M) (h : PD w q b m) :
    Calls Try.prog 39 #[.pointer (some ⟨q, 0, none⟩), .func (.func 40) #[] #[]] w fun e w' => e = .returned (.tuple #[]) ∧ PD w' q b (m.map Sp.done) ∧ Touch (PF q b) w w' := by
  have H := Lib.hid h
  have hlen := h.len
  obtain ⟨n, hn⟩ : ∃ n, n = m.length := ⟨_, rfl⟩
  have HN := Lib.hid hn
  have c0 := h.c0
  rw [← hn] at hlen c0
  clear h hn
  go_enter Try.func39, Try.ntmps39
  go_wp2_with fail
  clear c0
  go_loopw [11] (fun vi wr => ∃ k : Nat, k ≤ n ∧ vi = .int .i64 k ∧ Hid (PD wr q b (upto Sp.done m k)) ∧ Hid (Touch (PF q b) w wr)) (fun vi _ => n - (intOf vi).toNat)
  case atStart => exact ⟨0, Nat.zero_le _, rfl, H, Lib.hid (Touch.refl _ _)⟩
  case round =>
    obtain ⟨k, hk, rfl, P, T⟩ := hrel
    by_cases hlt : k < n
    · have hki : (k : Int) < n := by omega
      have hkm : k < m.length := by rw [← HN.out]; exact hlt
      obtain ⟨c, hc⟩ : ∃ c, c = m[k] := ⟨_, rfl⟩
      have HK : Hid (m[k]? = some c) := Lib.hid (by rw [hc]; exact List.getElem?_eq_getElem hkm)
      have HS := Lib.hid (upto_set Sp.done m k hkm)
      have HSC := Lib.hid (done_sc c (by rw [hc]; exact (H.out.inv _ (List.getElem_mem hkm)).1))
      have HLN : Hid ((upto Sp.done m k).length = n) := Lib.hid (by rw [upto_length]; exact HN.out.symm)
      rw [← hc] at HS
      clear hc hkm
      obtain ⟨s, x⟩ := c
      obtain ⟨-, f1, f2, f3⟩ := P.out.upto_facts HN.out hlt HK.out
      simp only at HSC
      obtain ⟨d0, hd0⟩ : ∃ d, d = decide (s ≠ 0) := ⟨_, rfl⟩
      obtain ⟨d1, hd1⟩ : ∃ d, d = decide (s = 2) := ⟨_, rfl⟩
      rw [← hd0] at f1 HSC
      rw [← hd1] at f2
      try rw [← hd1] at HSC
      have HD0 := Lib.hid hd0
      have HD1 := Lib.hid hd1
      clear hd0 hd1
      have hb1 : Below wr.heap.size wr (wr.alloc (.cells #[.bool d0, .bool d1, .bool x] 62)) := (Below.refl _ wr).alloc (Nat.le_refl _) _
      have HP := Lib.hid (P.out.later hb1)
      have HT := Lib.hid (T.out.trans (Touch.of hb1))
      have HG := Lib.hid (heap_alloc_new wr (.cells #[.bool d0, .bool d1, .bool x] 62))
      clear hb1 P T
      obtain ⟨g, hg⟩ : ∃ g, g = wr.heap.size := ⟨_, rfl⟩
      go_upto_region 3 with fail
      rw [← hg] at HG ⊢
      clear hg f1 f2 f3
      generalize wr.alloc _ = w5 at HP HT HG ⊢
      cases d0 with
      | true =>
        rw [Bool.true_and] at HSC
        refine Rel.region_tail 15 (by kernel_rfl) [some 16, some 17, some 18, some 19, some 20, some 21, some 22, some 23, some 24, some 25, some 26, some 27, some 28, some 29, some 30, none] (by kernel_rfl) (by kernel_rfl) (by kernel_rfl) [.eq (.pointer (some ⟨q, 0, none⟩)), .eq (.pointer (some ⟨q, 0, none⟩)), .eq (.pointer (some ⟨q, 0, none⟩)), .eq (.slice (some ⟨b, 0, none⟩) n n), .eq (.int .i64 (k : Int)), .eq (.pointer (some ⟨g, 0, none⟩)), .eq (.bool true), .eq (.bool true), .eq (.func (.func 40) #[] #[]), .eq (.agg #[.bool true, .bool d1, .bool x]), .eq (.bool x), .eq (.bool !x), .eq (.bool !x), .eq (.agg #[.bool !x, .bool false, .bool false]), .eq (.pointer (some ⟨b, k * 3, none⟩))] ⟨?_, ?_, ?_, ?_, ?_, ?_, ?_, ?_, ?_, ?_, ?_, ?_, ?_, ?_, ?_, trivial⟩ ?_
        · intro u w9 hb9 hd9
          clear hd9
          refine ⟨?_⟩
          simp only [Rel.canD, List.take_zero]
          go_wp2_with fail
          exact ⟨rfl, rfl, Below.refl _ _, rfl⟩
        · intro u w9 hb9 hd9
          have e0 : u 0 = .pointer (some ⟨q, 0, none⟩) := hd9 0 (by kernel_rfl)
          clear hd9
          refine ⟨?_⟩
          simp only [Rel.canD, List.take_succ_cons, List.take_zero, Nat.reduceAdd]
          go_wp2_with fail
          exact ⟨rfl, rfl, Below.refl _ _, rfl⟩
        · intro u w9 hb9 hd9
          have e1 : u 1 = .pointer (some ⟨q, 0, none⟩) := hd9 1 (by kernel_rfl)
          clear hd9
          refine ⟨?_⟩
          simp only [Rel.canD, List.take_succ_cons, List.take_zero, Nat.reduceAdd]
          go_wp2_with fail
          exact ⟨rfl, rfl, Below.refl _ _, rfl⟩
        · intro u w9 hb9 hd9
          have e2 : u 2 = .pointer (some ⟨q, 0, none⟩) := hd9 2 (by kernel_rfl)
          clear hd9
          have c9 := (HP.out.later hb9).c0
          rw [HLN.out] at c9
          refine ⟨?_⟩
          simp only [Rel.canD, List.take_succ_cons, List.take_zero, Nat.reduceAdd]
          go_wp2_with fail
          exact ⟨rfl, rfl, Below.refl _ _, rfl⟩
        · intro u w9 hb9 hd9
          clear hd9
          refine ⟨?_⟩
          simp only [Rel.canD, List.take_succ_cons, List.take_zero, Nat.reduceAdd]
          go_wp2_with fail
          exact ⟨rfl, rfl, Below.refl _ _, rfl⟩
        · intro u w9 hb9 hd9
          clear hd9
          refine ⟨?_⟩
          simp only [Rel.canD, List.take_succ_cons, List.take_zero, Nat.reduceAdd]
          go_wp2_with fail
          exact ⟨rfl, rfl, Below.refl _ _, rfl⟩
        · intro u w9 hb9 hd9
          have e5 : u 5 = .pointer (some ⟨g, 0, none⟩) := hd9 5 (by kernel_rfl)
          clear hd9
          have q9 := (hb9.block g (lt_of_block HG.out)).trans HG.out
          have c9 := (blk_cell q9 0 _ rfl).1
          refine ⟨?_⟩
          simp only [Rel.canD, List.take_succ_cons, List.take_zero, Nat.reduceAdd]
          go_wp2_with fail
          exact ⟨rfl, rfl, Below.refl _ _, rfl⟩
        · intro u w9 hb9 hd9
          have e6 : u 6 = .bool true := hd9 6 (by kernel_rfl)
          clear hd9
          refine ⟨?_⟩
          simp only [Rel.canD, List.take_succ_cons, List.take_zero, Nat.reduceAdd]
          go_wp2_with fail
          exact ⟨rfl, rfl, Below.refl _ _, rfl⟩
        · intro u w9 hb9 hd9
          have e7 : u 7 = .bool true := hd9 7 (by kernel_rfl)
          clear hd9
          refine ⟨?_⟩
          simp only [Rel.canD, List.take_succ_cons, List.take_zero, Nat.reduceAdd]
          go_wp2_with fail
          exact ⟨rfl, rfl, Below.refl _ _, rfl⟩
        · intro u w9 hb9 hd9
          have e7 : u 7 = .bool true := hd9 7 (by kernel_rfl)
          clear hd9
          have q9 := (hb9.block g (lt_of_block HG.out)).trans HG.out
          have c9 := (blk_cell q9 0 _ rfl).1
          have c8 := (blk_cell q9 1 _ rfl).1
          have c7 := (blk_cell q9 2 _ rfl).1
          refine ⟨?_⟩
          simp only [Rel.canD, List.take_succ_cons, List.take_zero, Nat.reduceAdd]
          go_wp2_with fail
          exact ⟨rfl, rfl, Below.refl _ _, rfl⟩
        · intro u w9 hb9 hd9
          have e7 : u 7 = .bool true := hd9 7 (by kernel_rfl)
          have e8 : u 8 = .func (.func 40) #[] #[] := hd9 8 (by kernel_rfl)
          have e9 : u 9 = .agg #[.bool true, .bool d1, .bool x] := hd9 9 (by kernel_rfl)
          clear hd9
          have c9 := waits_c true d1 x w9
          refine ⟨?_⟩
          simp only [Rel.canD, List.take_succ_cons, List.take_zero, Nat.reduceAdd]
          go_wp2_with fail
          refine c9.mono ?_
          rintro e w8 ⟨rfl, hb8⟩
          clear c9
          go_wp2_with fail
          exact ⟨rfl, rfl, hb8, rfl⟩
        · intro u w9 hb9 hd9
          have e7 : u 7 = .bool true := hd9 7 (by kernel_rfl)
          have e10 : u 10 = .bool x := hd9 10 (by kernel_rfl)
          clear hd9
          refine ⟨?_⟩
          simp only [Rel.canD, List.take_succ_cons, List.take_zero, Nat.reduceAdd]
          go_wp2_with fail
          exact ⟨rfl, rfl, Below.refl _ _, rfl⟩
        · intro u w9 hb9 hd9
          have e7 : u 7 = .bool true := hd9 7 (by kernel_rfl)
          have e11 : u 11 = .bool !x := hd9 11 (by kernel_rfl)
          clear hd9
          refine ⟨?_⟩
          simp only [Rel.canD, List.take_succ_cons, List.take_zero, Nat.reduceAdd]
          go_wp2_with fail
          exact ⟨rfl, rfl, Below.refl _ _, rfl⟩
        · intro u w9 hb9 hd9
          have e12 : u 12 = .bool !x := hd9 12 (by kernel_rfl)
          clear hd9
          refine ⟨?_⟩
          simp only [Rel.canD, List.take_succ_cons, List.take_zero, Nat.reduceAdd]
          go_wp2_with fail
          exact ⟨rfl, rfl, Below.refl _ _, rfl⟩
        · intro u w9 hb9 hd9
          have e3 : u 3 = .slice (some ⟨b, 0, none⟩) n n := hd9 3 (by kernel_rfl)
          have e4 : u 4 = .int .i64 (k : Int) := hd9 4 (by kernel_rfl)
          clear hd9
          refine ⟨?_⟩
          simp only [Rel.canD, List.take_succ_cons, List.take_zero, Nat.reduceAdd]
          go_wp2_with fail
          exact ⟨rfl, rfl, Below.refl _ _, rfl⟩
        intro u w9 hb9 hR9
        simp only [Rel.canD, Nat.reduceAdd, List.take_succ_cons, List.take_zero, List.drop_succ_cons, List.drop_zero]
        have h13 : u 13 = .agg #[.bool !x, .bool false, .bool false] := hR9 13 (by decide)
        have h14 : u 14 = .pointer (some ⟨b, k * 3, none⟩) := hR9 14 (by decide)
        rw [h13, h14]
        have HP9 := Lib.hid (HP.out.later hb9)
        have HT9 := Lib.hid (HT.out.trans (Touch.of hb9))
        obtain ⟨-, f1, f2, f3⟩ := HP9.out.upto_facts HN.out hlt HK.out
        have z1 := HP9.out.fz (k * 3)
        have z2 := HP9.out.fz (k * 3 + 1)
        have z3 := HP9.out.fz (k * 3 + 2)
        have P8 := Lib.hid (HP9.out.put3 k _ HSC.out.2 HSC.out.1)
        have T8 := Lib.hid (HT9.out.trans P8.out.2)
        clear hR9 hb9 h13 h14
        go_simp
        go_wp2_with fail
        go_roundw
        case rel => exact ⟨k + 1, by omega, by go_num, Lib.hid (by rw [← HS.out]; exact P8.out.1), T8⟩
        case measure => simp [intOf]; omega
      | false =>
        rw [Bool.false_and] at HSC
        obtain ⟨c0, f1, f2, f3⟩ := HP.out.upto_facts HN.out hlt HK.out
        have z1 := HP.out.fz (k * 3)
        have z2 := HP.out.fz (k * 3 + 1)
        have z3 := HP.out.fz (k * 3 + 2)
        have y0 := (blk_cell HG.out 0 _ rfl).1
        have y1 := (blk_cell HG.out 1 _ rfl).1
        have y2 := (blk_cell HG.out 2 _ rfl).1
        have P8 := Lib.hid (HP.out.put3 k _ HSC.out.2 HSC.out.1)
        have T8 := Lib.hid (HT.out.trans P8.out.2)
        go_region
        have T9 := Lib.hid (T8.out.trans (Touch.of (Below.refl _ _).drew))
        have P9 := Lib.hid (P8.out.1.later (Below.refl _ _).drew)
        clear c0 f1 f2 f3 z1 z2 z3 y0 y1 y2 P8 T8
        generalize (World.setCell _ _ _).drew = w8 at P9 T9 ⊢
        go_wp2_with fail
        go_roundw
        case rel => exact ⟨k + 1, by omega, by go_num, Lib.hid (by rw [← HS.out]; exact P9.out), T9⟩
        case measure => simp [intOf]; omega
    · have hki : ¬ (k : Int) < n := by omega
      have HE : Hid (upto Sp.done m k = m.map Sp.done) := Lib.hid (upto_all Sp.done m k (by rw [← HN.out]; omega))
      rw [HE.out] at P
      go_wp2_with fail
      go_end0
      exact ⟨rfl, P.out, T.out⟩
set_option maxRecDepth 100000 in
theorem pCommit_w (w : World) (q b : Nat) (m : Sp.M) (h : PD w q b m) :
    Calls Try.prog 20 #[.pointer (some ⟨q, 0, none⟩)] w fun e w' => e = .returned (.tuple #[]) ∧ PD w' q b (m.map Sp.done) ∧ Touch (PF q b) w w' := by
  have c := end_waits w q b m h
  clear h
  go_enter Try.func20, Try.ntmps20
  go_wp2_with fail
  refine c.mono ?_
  rintro e w1 ⟨rfl, hp, ht⟩
  have HE := Lib.hid (And.intro hp ht)
  clear hp ht c
  go_wp2_with fail
  go_end0
  exact ⟨rfl, HE.out⟩
set_option maxHeartbeats 6400000 in
set_option maxRecDepth 100000 in
theorem end_anew (w : World) (q b : Nat) (m : Sp.M) (h : PD w q b m) :
    Calls Try.prog 39 #[.pointer (some ⟨q, 0, none⟩), .func (.func 41) #[] #[]] w fun e w' => e = .returned (.tuple #[]) ∧ PD w' q b (m.map Sp.off) ∧ Touch (PF q b) w w' := by
  have H := Lib.hid h
  have hlen := h.len
  obtain ⟨n, hn⟩ : ∃ n, n = m.length := ⟨_, rfl⟩
  have HN := Lib.hid hn
  have c0 := h.c0
  rw [← hn] at hlen c0
  clear h hn
  go_enter Try.func39, Try.ntmps39
  go_wp2_with fail
  clear c0
  go_loopw [11] (fun vi wr => ∃ k : Nat, k ≤ n ∧ vi = .int .i64 k ∧ Hid (PD wr q b (upto Sp.off m k)) ∧ Hid (Touch (PF q b) w wr)) (fun vi _ => n - (intOf vi).toNat)
  case atStart => exact ⟨0, Nat.zero_le _, rfl, H, Lib.hid (Touch.refl _ _)⟩
  case round =>
    obtain ⟨k, hk, rfl, P, T⟩ := hrel
    by_cases hlt : k < n
    · have hki : (k : Int) < n := by omega
      have hkm : k < m.length := by rw [← HN.out]; exact hlt
      obtain ⟨c, hc⟩ : ∃ c, c = m[k] := ⟨_, rfl⟩
      have HK : Hid (m[k]? = some c) := Lib.hid (by rw [hc]; exact List.getElem?_eq_getElem hkm)
      have HS := Lib.hid (upto_set Sp.off m k hkm)
      have HSC := Lib.hid (off_sc c (by rw [hc]; exact (H.out.inv _ (List.getElem_mem hkm)).1))
      have HLN : Hid ((upto Sp.off m k).length = n) := Lib.hid (by rw [upto_length]; exact HN.out.symm)
      rw [← hc] at HS
      clear hc hkm
      obtain ⟨s, x⟩ := c
      obtain ⟨-, f1, f2, f3⟩ := P.out.upto_facts HN.out hlt HK.out
      simp only at HSC
      obtain ⟨d0, hd0⟩ : ∃ d, d = decide (s ≠ 0) := ⟨_, rfl⟩
      obtain ⟨d1, hd1⟩ : ∃ d, d = decide (s = 2) := ⟨_, rfl⟩
      rw [← hd0] at f1 HSC
      rw [← hd1] at f2
      try rw [← hd1] at HSC
      have HD0 := Lib.hid hd0
      have HD1 := Lib.hid hd1
      clear hd0 hd1
      have hb1 : Below wr.heap.size wr (wr.alloc (.cells #[.bool d0, .bool d1, .bool x] 62)) := (Below.refl _ wr).alloc (Nat.le_refl _) _
      have HP := Lib.hid (P.out.later hb1)
      have HT := Lib.hid (T.out.trans (Touch.of hb1))
      have HG := Lib.hid (heap_alloc_new wr (.cells #[.bool d0, .bool d1, .bool x] 62))
      clear hb1 P T
      obtain ⟨g, hg⟩ : ∃ g, g = wr.heap.size := ⟨_, rfl⟩
      go_upto_region 3 with fail
      rw [← hg] at HG ⊢
      clear hg f1 f2 f3
      generalize wr.alloc _ = w5 at HP HT HG ⊢
      cases d0 with
      | true =>
        rw [Bool.true_and] at HSC
        refine Rel.region_tail 15 (by kernel_rfl) [some 16, some 17, some 18, some 19, some 20, some 21, some 22, some 23, some 24, some 25, some 26, some 27, some 28, some 29, some 30, none] (by kernel_rfl) (by kernel_rfl) (by kernel_rfl) [.eq (.pointer (some ⟨q, 0, none⟩)), .eq (.pointer (some ⟨q, 0, none⟩)), .eq (.pointer (some ⟨q, 0, none⟩)), .eq (.slice (some ⟨b, 0, none⟩) n n), .eq (.int .i64 (k : Int)), .eq (.pointer (some ⟨g, 0, none⟩)), .eq (.bool true), .eq (.bool true), .eq (.func (.func 41) #[] #[]), .eq (.agg #[.bool true, .bool d1, .bool x]), .eq (.bool d1), .eq (.bool !d1), .eq (.bool !d1), .eq (.agg #[.bool !d1, .bool false, .bool false]), .eq (.pointer (some ⟨b, k * 3, none⟩))] ⟨?_, ?_, ?_, ?_, ?_, ?_, ?_, ?_, ?_, ?_, ?_, ?_, ?_, ?_, ?_, trivial⟩ ?_
        · intro u w9 hb9 hd9
          clear hd9
          refine ⟨?_⟩
          simp only [Rel.canD, List.take_zero]
          go_wp2_with fail
          exact ⟨rfl, rfl, Below.refl _ _, rfl⟩
        · intro u w9 hb9 hd9
          have e0 : u 0 = .pointer (some ⟨q, 0, none⟩) := hd9 0 (by kernel_rfl)
          clear hd9
          refine ⟨?_⟩
          simp only [Rel.canD, List.take_succ_cons, List.take_zero, Nat.reduceAdd]
          go_wp2_with fail
          exact ⟨rfl, rfl, Below.refl _ _, rfl⟩
        · intro u w9 hb9 hd9
          have e1 : u 1 = .pointer (some ⟨q, 0, none⟩) := hd9 1 (by kernel_rfl)
          clear hd9
          refine ⟨?_⟩
          simp only [Rel.canD, List.take_succ_cons, List.take_zero, Nat.reduceAdd]
          go_wp2_with fail
          exact ⟨rfl, rfl, Below.refl _ _, rfl⟩
        · intro u w9 hb9 hd9
          have e2 : u 2 = .pointer (some ⟨q, 0, none⟩) := hd9 2 (by kernel_rfl)
          clear hd9
          have c9 := (HP.out.later hb9).c0
          rw [HLN.out] at c9
          refine ⟨?_⟩
          simp only [Rel.canD, List.take_succ_cons, List.take_zero, Nat.reduceAdd]
          go_wp2_with fail
          exact ⟨rfl, rfl, Below.refl _ _, rfl⟩
        · intro u w9 hb9 hd9
          clear hd9
          refine ⟨?_⟩
          simp only [Rel.canD, List.take_succ_cons, List.take_zero, Nat.reduceAdd]
          go_wp2_with fail
          exact ⟨rfl, rfl, Below.refl _ _, rfl⟩
        · intro u w9 hb9 hd9
          clear hd9
          refine ⟨?_⟩
          simp only [Rel.canD, List.take_succ_cons, List.take_zero, Nat.reduceAdd]
          go_wp2_with fail
          exact ⟨rfl, rfl, Below.refl _ _, rfl⟩
        · intro u w9 hb9 hd9
          have e5 : u 5 = .pointer (some ⟨g, 0, none⟩) := hd9 5 (by kernel_rfl)
          clear hd9
          have q9 := (hb9.block g (lt_of_block HG.out)).trans HG.out
          have c9 := (blk_cell q9 0 _ rfl).1
          refine ⟨?_⟩
          simp only [Rel.canD, List.take_succ_cons, List.take_zero, Nat.reduceAdd]
          go_wp2_with fail
          exact ⟨rfl, rfl, Below.refl _ _, rfl⟩
        · intro u w9 hb9 hd9
          have e6 : u 6 = .bool true := hd9 6 (by kernel_rfl)
          clear hd9
          refine ⟨?_⟩
          simp only [Rel.canD, List.take_succ_cons, List.take_zero, Nat.reduceAdd]
          go_wp2_with fail
          exact ⟨rfl, rfl, Below.refl _ _, rfl⟩
        · intro u w9 hb9 hd9
          have e7 : u 7 = .bool true := hd9 7 (by kernel_rfl)
          clear hd9
          refine ⟨?_⟩
          simp only [Rel.canD, List.take_succ_cons, List.take_zero, Nat.reduceAdd]
          go_wp2_with fail
          exact ⟨rfl, rfl, Below.refl _ _, rfl⟩
        · intro u w9 hb9 hd9
          have e7 : u 7 = .bool true := hd9 7 (by kernel_rfl)
          clear hd9
          have q9 := (hb9.block g (lt_of_block HG.out)).trans HG.out
          have c9 := (blk_cell q9 0 _ rfl).1
          have c8 := (blk_cell q9 1 _ rfl).1
          have c7 := (blk_cell q9 2 _ rfl).1
          refine ⟨?_⟩
          simp only [Rel.canD, List.take_succ_cons, List.take_zero, Nat.reduceAdd]
          go_wp2_with fail
          exact ⟨rfl, rfl, Below.refl _ _, rfl⟩
        · intro u w9 hb9 hd9
          have e7 : u 7 = .bool true := hd9 7 (by kernel_rfl)
          have e8 : u 8 = .func (.func 41) #[] #[] := hd9 8 (by kernel_rfl)
          have e9 : u 9 = .agg #[.bool true, .bool d1, .bool x] := hd9 9 (by kernel_rfl)
          clear hd9
          have c9 := anew_c true d1 x w9
          refine ⟨?_⟩
          simp only [Rel.canD, List.take_succ_cons, List.take_zero, Nat.reduceAdd]
          go_wp2_with fail
          refine c9.mono ?_
          rintro e w8 ⟨rfl, hb8⟩
          clear c9
          go_wp2_with fail
          exact ⟨rfl, rfl, hb8, rfl⟩
        · intro u w9 hb9 hd9
          have e7 : u 7 = .bool true := hd9 7 (by kernel_rfl)
          have e10 : u 10 = .bool d1 := hd9 10 (by kernel_rfl)
          clear hd9
          refine ⟨?_⟩
          simp only [Rel.canD, List.take_succ_cons, List.take_zero, Nat.reduceAdd]
          go_wp2_with fail
          exact ⟨rfl, rfl, Below.refl _ _, rfl⟩
        · intro u w9 hb9 hd9
          have e7 : u 7 = .bool true := hd9 7 (by kernel_rfl)
          have e11 : u 11 = .bool !d1 := hd9 11 (by kernel_rfl)
          clear hd9
          refine ⟨?_⟩
          simp only [Rel.canD, List.take_succ_cons, List.take_zero, Nat.reduceAdd]
          go_wp2_with fail
          exact ⟨rfl, rfl, Below.refl _ _, rfl⟩
        · intro u w9 hb9 hd9
          have e12 : u 12 = .bool !d1 := hd9 12 (by kernel_rfl)
          clear hd9
          refine ⟨?_⟩
          simp only [Rel.canD, List.take_succ_cons, List.take_zero, Nat.reduceAdd]
          go_wp2_with fail
          exact ⟨rfl, rfl, Below.refl _ _, rfl⟩
        · intro u w9 hb9 hd9
          have e3 : u 3 = .slice (some ⟨b, 0, none⟩) n n := hd9 3 (by kernel_rfl)
          have e4 : u 4 = .int .i64 (k : Int) := hd9 4 (by kernel_rfl)
          clear hd9
          refine ⟨?_⟩
          simp only [Rel.canD, List.take_succ_cons, List.take_zero, Nat.reduceAdd]
          go_wp2_with fail
          exact ⟨rfl, rfl, Below.refl _ _, rfl⟩
        intro u w9 hb9 hR9
        simp only [Rel.canD, Nat.reduceAdd, List.take_succ_cons, List.take_zero, List.drop_succ_cons, List.drop_zero]
        have h13 : u 13 = .agg #[.bool !d1, .bool false, .bool false] := hR9 13 (by decide)
        have h14 : u 14 = .pointer (some ⟨b, k * 3, none⟩) := hR9 14 (by decide)
        rw [h13, h14]
        have HP9 := Lib.hid (HP.out.later hb9)
        have HT9 := Lib.hid (HT.out.trans (Touch.of hb9))
        obtain ⟨-, f1, f2, f3⟩ := HP9.out.upto_facts HN.out hlt HK.out
        have z1 := HP9.out.fz (k * 3)
        have z2 := HP9.out.fz (k * 3 + 1)
        have z3 := HP9.out.fz (k * 3 + 2)
        have P8 := Lib.hid (HP9.out.put3 k _ HSC.out.2 HSC.out.1)
        have T8 := Lib.hid (HT9.out.trans P8.out.2)
        clear hR9 hb9 h13 h14
        go_simp
        go_wp2_with fail
        go_roundw
        case rel => exact ⟨k + 1, by omega, by go_num, Lib.hid (by rw [← HS.out]; exact P8.out.1), T8⟩
        case measure => simp [intOf]; omega
      | false =>
        rw [Bool.false_and] at HSC
        obtain ⟨c0, f1, f2, f3⟩ := HP.out.upto_facts HN.out hlt HK.out
        have z1 := HP.out.fz (k * 3)
        have z2 := HP.out.fz (k * 3 + 1)
        have z3 := HP.out.fz (k * 3 + 2)
        have y0 := (blk_cell HG.out 0 _ rfl).1
        have y1 := (blk_cell HG.out 1 _ rfl).1
        have y2 := (blk_cell HG.out 2 _ rfl).1
        have P8 := Lib.hid (HP.out.put3 k _ HSC.out.2 HSC.out.1)
        have T8 := Lib.hid (HT.out.trans P8.out.2)
        go_region
        have T9 := Lib.hid (T8.out.trans (Touch.of (Below.refl _ _).drew))
        have P9 := Lib.hid (P8.out.1.later (Below.refl _ _).drew)
        clear c0 f1 f2 f3 z1 z2 z3 y0 y1 y2 P8 T8
        generalize (World.setCell _ _ _).drew = w8 at P9 T9 ⊢
        go_wp2_with fail
        go_roundw
        case rel => exact ⟨k + 1, by omega, by go_num, Lib.hid (by rw [← HS.out]; exact P9.out), T9⟩
        case measure => simp [intOf]; omega
    · have hki : ¬ (k : Int) < n := by omega
      have HE : Hid (upto Sp.off m k = m.map Sp.off) := Lib.hid (upto_all Sp.off m k (by rw [← HN.out]; omega))
      rw [HE.out] at P
      go_wp2_with fail
      go_end0
      exact ⟨rfl, P.out, T.out⟩
set_option maxRecDepth 100000 in
theorem pAbort_w (w : World) (q b : Nat) (m : Sp.M) (h : PD w q b m) :
    Calls Try.prog 22 #[.pointer (some ⟨q, 0, none⟩)] w fun e w' => e = .returned (.tuple #[]) ∧ PD w' q b (m.map Sp.off) ∧ Touch (PF q b) w w' := by
  have c := end_anew w q b m h
  clear h
  go_enter Try.func22, Try.ntmps22
  go_wp2_with fail
  refine c.mono ?_
  rintro e w1 ⟨rfl, hp, ht⟩
  have HE := Lib.hid (And.intro hp ht)
  clear hp ht c
  go_wp2_with fail
  go_end0
  exact ⟨rfl, HE.out⟩
end Go.Proofs.Ytgfgafondiipoaa
