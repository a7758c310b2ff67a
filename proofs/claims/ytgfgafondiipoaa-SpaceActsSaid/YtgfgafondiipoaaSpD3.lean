/- The document's map in memory: set, New. -/
import Derived.Test.YtgfgafondiipoaaSpD2
namespace Go.Proofs.Ytgfgafondiipoaa
open Go.RowKit

theorem put_step (f : Sp.Cell → Sp.Cell) (a j : Nat) (m : Sp.M) (h : a + j < m.length) : (Sp.put a j f m).set (a + j) (f m[a + j]) = Sp.put a (j + 1) f m := by
  apply List.ext_getElem?
  intro i
  rw [List.getElem?_set, Sp.put_get, Sp.put_get, Sp.put_length]
  by_cases hi : a + j = i
  · subst hi
    rw [if_pos rfl, if_pos h, if_pos (by omega), List.getElem?_eq_getElem h]; rfl
  · rw [if_neg hi]
    by_cases h2 : a ≤ i ∧ i < a + j
    · rw [if_pos h2, if_pos (by omega)]
    · rw [if_neg h2, if_neg (by omega)]
theorem put_zero (f : Sp.Cell → Sp.Cell) (a : Nat) (m : Sp.M) : Sp.put a 0 f m = m := by
  apply List.ext_getElem?
  intro i
  rw [Sp.put_get, if_neg (by omega)]
def setTo (s : Nat) (c : Sp.Cell) : Sp.Cell := (s, c.2)
set_option maxHeartbeats 3200000 in
set_option maxRecDepth 100000 in
theorem rSet_w (w : World) (q bs bw : Nat) (m : Sp.M) (a N s : Nat) (v : Int) (hv : v = s) (h : RD w q bs bw m) (hN : a + N ≤ m.length) :
    Calls Try.prog 34 #[.pointer (some ⟨q, 0, none⟩), ext ((a : Int), (N : Int)), .int .i64 v] w fun e w' => e = .returned (.tuple #[]) ∧ RD w' q bs bw (Sp.put a N (setTo s) m) ∧ Touch (RF q bs bw) w w' := by
  subst hv
  have hlen := h.len
  have hb1 : Below w.heap.size w (w.alloc (.cells #[.int .i64 (a : Int), .int .i64 (N : Int)] 35)) := (Below.refl _ w).alloc (Nat.le_refl _) _
  have H1 := Lib.hid (h.later hb1)
  have T1 := Lib.hid (Touch.of (F := RF q bs bw) hb1)
  have B1 := Lib.hid (Bx.made (F := RF q bs bw) w (a : Int) (N : Int) h.lt)
  have g1 := B1.out.c0
  have g2 := B1.out.c1
  obtain ⟨n, hn⟩ : ∃ n, n = m.length := ⟨_, rfl⟩
  have HN := Lib.hid hn
  rw [← hn] at hlen hN
  clear h hn hb1
  obtain ⟨ga, hga⟩ : ∃ ga, ga = w.heap.size := ⟨_, rfl⟩
  unfold ext
  go_enter Try.func34, Try.ntmps34
  go_upto_region 1 with fail
  rw [← hga] at B1 g1 g2 ⊢
  clear hga
  generalize w.alloc _ = w1 at H1 T1 B1 g1 g2 ⊢
  go_upto_region 2 with fail
  go_loopw [6] (fun vi wr => ∃ j : Nat, j ≤ N ∧ vi = .int .i64 ((a + j : Nat) : Int) ∧ Hid (RD wr q bs bw (Sp.put a j (setTo s) m)) ∧ Hid (Touch (RF q bs bw) w wr) ∧ Hid (Bx (RF q bs bw) wr ga (a : Int) (N : Int))) (fun vi _ => a + N - (intOf vi).toNat)
  case atStart => exact ⟨0, Nat.zero_le _, rfl, Lib.hid (by rw [put_zero]; exact H1.out), T1, B1⟩
  case round =>
    obtain ⟨j, hj, rfl, R, T, B⟩ := hrel
    clear g1 g2
    have g1 := B.out.c0
    have g2 := B.out.c1
    by_cases hlt : j < N
    · have hki : ((a + j : Nat) : Int) < (a : Int) + N := by omega
      have hkm : a + j < m.length := by rw [← HN.out]; omega
      have HL : Hid ((Sp.put a j (setTo s) m).length = n) := Lib.hid (by rw [Sp.put_length]; exact HN.out.symm)
      have HK : Hid ((Sp.put a j (setTo s) m)[a + j]? = some m[a + j]) := Lib.hid (by rw [Sp.put_get, if_neg (by omega), List.getElem?_eq_getElem hkm])
      have HS := Lib.hid (put_step (setTo s) a j m hkm)
      generalize Sp.put a j (setTo s) m = m0 at R HL HK HS
      generalize m[a + j] = c at HK HS
      obtain ⟨t, b⟩ := c
      clear hkm
      obtain ⟨k, hk⟩ : ∃ k, k = a + j := ⟨_, rfl⟩
      rw [← hk] at HK HS hki ⊢
      obtain ⟨i0, i1, i2, i3, i4, i5⟩ := R.out.facts HL.out (by omega : k < n) HK.out
      have P1 := Lib.hid (R.out.putS HL.out (by omega : k < n) HK.out s _ rfl)
      have T2 := Lib.hid (T.out.trans (tS wr k (.int .i64 (s : Int))))
      have B2 := Lib.hid (B.out.touch (tS wr k (.int .i64 (s : Int))) (fun _ h => .inl h))
      have hkn : (k : Int) < n := by omega
      have HKK := Lib.hid hk
      clear hk
      go_wp2_with fail
      go_roundw
      case rel => exact ⟨j + 1, by omega, by rw [← Nat.add_assoc, ← HKK.out]; go_num, Lib.hid (by rw [← HS.out]; exact P1.out.1), T2, B2⟩
      case measure => have := HKK.out; simp [intOf]; omega
    · have hki : ¬ ((a + j : Nat) : Int) < (a : Int) + N := by omega
      obtain rfl : j = N := by omega
      obtain ⟨k, hk⟩ : ∃ k, k = a + j := ⟨_, rfl⟩
      rw [← hk] at hki ⊢
      go_wp2_with fail
      go_end0
      exact ⟨rfl, R.out, T.out⟩

theorem made_one (z : Value) (n : Nat) : madeCells #[z] n = (List.replicate n z).toArray := by
  apply Array.ext
  · rw [size_madeCells]; simp
  · intro i h1 h2
    simp [madeCells, Nat.mod_one]
theorem scs_new (n : Nat) : scs (Sp.new n) = madeCells #[.int .i64 0] n := by
  rw [made_one]; unfold scs Sp.new; rw [List.map_replicate]; rfl
theorem wcs_new (n : Nat) : wcs (Sp.new n) = madeCells #[.bool false] n := by
  rw [made_one]; unfold wcs Sp.new; rw [List.map_replicate]
theorem ints_info : (Try.prog.info? 3).map (fun i => (i.zero, i.size, i.bytes)) = some (some (.int .i64 0), 1, 8) := by kernel_rfl
theorem bools_info : (Try.prog.info? 4).map (fun i => (i.zero, i.size, i.bytes)) = some (some (.bool false), 1, 1) := by kernel_rfl
theorem three_at (w : World) (A B C : Obj) : (((w.alloc A).alloc B).alloc C).heap[w.heap.size]? = some A ∧ (((w.alloc A).alloc B).alloc C).heap[w.heap.size + 1]? = some B ∧ (((w.alloc A).alloc B).alloc C).heap[w.heap.size + 1 + 1]? = some C := by
  have e1 : (w.alloc A).heap.size = w.heap.size + 1 := by simp
  have e2 : ((w.alloc A).alloc B).heap.size = w.heap.size + 1 + 1 := by simp
  refine ⟨?_, ?_, ?_⟩
  · rw [((Below.refl _ ((w.alloc A).alloc B)).alloc (Nat.le_refl _) C).block _ (by omega), ((Below.refl _ (w.alloc A)).alloc (Nat.le_refl _) B).block _ (by omega)]
    exact heap_alloc_new w A
  · rw [((Below.refl _ ((w.alloc A).alloc B)).alloc (Nat.le_refl _) C).block _ (by omega), ← e1]
    exact heap_alloc_new _ B
  · rw [← e2]
    exact heap_alloc_new _ C
set_option maxHeartbeats 1600000 in
set_option maxRecDepth 100000 in
theorem rNew_w (w : World) (n : Nat) (hn : n ≤ 65536) :
    Calls Try.prog 10 #[.int .i64 (n : Int)] w fun e w' => ∃ q bs bw, e = .returned (.pointer (some ⟨q, 0, none⟩)) ∧ RD w' q bs bw (Sp.new n) ∧ Below w.heap.size w w' ∧ ∀ k, RF q bs bw k → w.heap.size ≤ k := by
  have hm1 : ∀ W : World, (Instr.makeSlice 45 (.int .i64 (n : Int)) (.int .i64 (n : Int))).run Try.prog W = .ok (.slice (some ⟨W.heap.size, 0, none⟩) n n) (W.alloc (.cells (madeCells #[.int .i64 0] n) 3)) := fun W => run_make_row' (P := Try.prog) 45 3 (.int .i64 0) 8 Try.underlying45 ints_info rfl .i64 .i64 n (by omega) (by omega) W
  have hm2 : ∀ W : World, (Instr.makeSlice 54 (.int .i64 (n : Int)) (.int .i64 (n : Int))).run Try.prog W = .ok (.slice (some ⟨W.heap.size, 0, none⟩) n n) (W.alloc (.cells (madeCells #[.bool false] n) 4)) := fun W => run_make_row' (P := Try.prog) 54 4 (.bool false) 1 Try.underlying54 bools_info rfl .i64 .i64 n (by omega) (by omega) W
  have HS := Lib.hid (scs_new n)
  have HW := Lib.hid (wcs_new n)
  have HL : Hid ((Sp.new n).length = n) := Lib.hid (Sp.rep_length ..)
  generalize madeCells #[.int .i64 0] n = cs at hm1 HS
  generalize madeCells #[.bool false] n = cw at hm2 HW
  go_enter Try.func10, Try.ntmps10
  go_upto_region 1 with fail
  go_region
  all_goals go_wp2_with fail
  · have hA := three_at w (.cells cs 3) (.cells cw 4) (.cells #[.slice (some ⟨w.heap.size, 0, none⟩) n n, .slice (some ⟨w.heap.size + 1, 0, none⟩) n n] 56)
    have hb : Below w.heap.size w (((w.alloc (.cells cs 3)).alloc (.cells cw 4)).alloc (.cells #[.slice (some ⟨w.heap.size, 0, none⟩) n n, .slice (some ⟨w.heap.size + 1, 0, none⟩) n n] 56)) := (((Below.refl _ w).alloc (Nat.le_refl _) _).alloc (by simp) _).alloc (by simp; omega) _
    go_ret
    exact ⟨_, _, _, rfl, ⟨by rw [HL.out]; exact hA.2.2, by rw [HS.out]; exact hA.1, by rw [HW.out]; exact hA.2.1, by rw [HL.out]; exact hn⟩, hb.drew, fun k hk => by rcases hk with rfl | rfl | rfl <;> omega⟩
  · have hA := three_at w (.cells cw 4) (.cells cs 3) (.cells #[.slice (some ⟨w.heap.size + 1, 0, none⟩) n n, .slice (some ⟨w.heap.size, 0, none⟩) n n] 56)
    have hb : Below w.heap.size w (((w.alloc (.cells cw 4)).alloc (.cells cs 3)).alloc (.cells #[.slice (some ⟨w.heap.size + 1, 0, none⟩) n n, .slice (some ⟨w.heap.size, 0, none⟩) n n] 56)) := (((Below.refl _ w).alloc (Nat.le_refl _) _).alloc (by simp) _).alloc (by simp; omega) _
    go_ret
    exact ⟨_, _, _, rfl, ⟨by rw [HL.out]; exact hA.2.2, by rw [HS.out]; exact hA.2.1, by rw [HW.out]; exact hA.1, by rw [HL.out]; exact hn⟩, hb.drew, fun k hk => by rcases hk with rfl | rfl | rfl <;> omega⟩
end Go.Proofs.Ytgfgafondiipoaa
