/- The document's map in memory: Take. -/
import Derived.Test.YtgfgafondiipoaaSpD4
import Derived.Laws.ResultCell
namespace Go.Proofs.Ytgfgafondiipoaa
open Go.RowKit

/-- An extent and one thing more are handed back. -/
theorem ret_ext {fn : Func} {p u : Tmp} (h : fn.results = #[.cell p 35, .tmp u]) {R : Ending → World → Prop} {a : Act} {w : World} (g : Nat) (x y : Value)
    (hp : a.tmps.getD p undef = .pointer (some ⟨g, 0, none⟩)) (hg : w.heap[g]? = some (.cells #[x, y] 35 (0, 0))) (hd : a.defers = []) (hR : R (.returned (.tuple #[.agg #[x, y], a.tmps.getD u undef])) w) : bodyPost Try.prog fn R .ret a w := by
  refine bodyPost_ret (v := .tuple #[.agg #[x, y], a.tmps.getD u undef]) ?_ hd hR
  have e := run_loadVar_row (P := Try.prog) w g 35 35 #[x, y] (0, 0) _ hg Try.underlying35 rfl (by kernel_rfl)
  rw [results_cell_tmp h, hp]
  simp [Result.andThen, asAddr, e]
theorem Bx.set2 {F : Nat → Prop} {w : World} {g : Nat} {a n : Int} (h : Bx F w g a n) (x y : Int) : Bx F ((w.setCell ⟨g, 0, none⟩ (.int .i64 x)).setCell ⟨g, 1, none⟩ (.int .i64 y)) g x y :=
  ⟨by have := heap_set (k := 1) (v := .int .i64 y) (heap_set (k := 0) (v := .int .i64 x) h.1); exact this, h.2⟩
theorem find_snoc {P : Sp.Run → Bool} (l : List Sp.Run) (k : Nat) (hk : k < l.length) (h : (l.take k).find? P = none) : (P l[k] = false → (l.take (k + 1)).find? P = none) ∧ (P l[k] = true → l.find? P = some l[k]) := by
  constructor
  · intro hp
    rw [List.take_add_one, List.find?_append, h, List.getElem?_eq_getElem hk]
    simp [hp]
  · intro hp
    have e : l = l.take k ++ l[k] :: l.drop (k + 1) := by rw [← List.drop_eq_getElem_cons hk, List.take_append_drop]
    have e2 : (l.take k ++ l[k] :: l.drop (k + 1)).find? P = some l[k] := by rw [List.find?_append, h, List.find?_cons_of_pos hp]; rfl
    exact Eq.trans (congrArg (List.find? P) e) e2
def fits (N : Int) (e : Sp.Run) : Bool := decide (1 ≤ N ∧ N ≤ (e.2 : Int))
theorem put_anew (m : Sp.M) (a n : Nat) : Sp.put a n (setTo 2) m = Sp.put a n Sp.anew m := rfl
theorem Touch.behind {F : Nat → Prop} {a b c : World} {g : Nat} (h : Touch F a b) (h' : Touch (fun k => k = g) b c) (hg : a.heap.size ≤ g) : Touch F a c :=
  ⟨h'.os.trans h.os, h'.tape.trans h.tape, h'.output.trans h.output, Nat.le_trans h.size h'.size, fun k hk hn => (h'.block k (Nat.lt_of_lt_of_le hk h.size) (fun e => by omega)).trans (h.block k hk hn)⟩
set_option maxHeartbeats 6400000 in
set_option maxRecDepth 100000 in
theorem rTake_w (w : World) (q bs bw : Nat) (m : Sp.M) (N : Int) (h : RD w q bs bw m) :
    Calls Try.prog 12 #[.pointer (some ⟨q, 0, none⟩), .int .i64 N] w fun e w' => e = .returned (.tuple #[ext (Sp.take N m).2.1, .bool (Sp.take N m).2.2]) ∧ RD w' q bs bw (Sp.take N m).1 ∧ Touch (RF q bs bw) w w' := by
  have hlen := h.len
  have hb1 : Below w.heap.size w (w.alloc (.cells #[.int .i64 0, .int .i64 0] 35)) := (Below.refl _ w).alloc (Nat.le_refl _) _
  have H1 := Lib.hid (h.later hb1)
  have T1 := Lib.hid (Touch.of (F := RF q bs bw) hb1)
  have B1 := Lib.hid (Bx.made (F := RF q bs bw) w 0 0 h.lt)
  have HLE := Lib.hid (runs_le m 0)
  have HGE := Lib.hid (Sp.runs_ge m 0)
  clear h hb1
  obtain ⟨gr, hgr⟩ : ∃ gr, gr = w.heap.size := ⟨_, rfl⟩
  go_enter Try.func12, Try.ntmps12
  go_upto_region 1 with fail
  rw [← hgr] at B1 ⊢
  have HGR : Hid (w.heap.size ≤ gr) := Lib.hid (by omega)
  clear hgr
  generalize w.alloc _ = w1 at H1 T1 B1 ⊢
  have c1 := rRuns_w w1 q bs bw m H1.out
  go_wp2_with fail
  refine c1.mono ?_
  rintro e w2 ⟨v, rfl, hb2, hE2⟩
  have HFT : Hid (Sp.take N m = match (Sp.runs 0 m).find? (fits N) with | some e => (Sp.put e.1 N.toNat Sp.anew m, ((e.1 : Int), N), true) | none => (m, (0, 0), false)) := Lib.hid rfl
  have E2 := Lib.hid hE2.out
  have H2 := Lib.hid (H1.out.later hb2)
  have T2 := Lib.hid (T1.out.trans (Touch.of hb2))
  have B2 := Lib.hid (B1.out.later hb2)
  clear c1 hb2 hE2 H1 T1 B1
  generalize Sp.runs 0 m = rs at *
  obtain ⟨ao, cap, rfl, hc1, hc2, hg⟩ := E2.out
  have HG := Lib.hid hg
  rw [List.length_map] at hc1 ⊢
  obtain ⟨L, hL⟩ : ∃ L, L = rs.length := ⟨_, rfl⟩
  have HL := Lib.hid hL
  rw [← hL] at hc1 ⊢
  have hL9 : L ≤ 65536 := by rw [hL]; have := HLE.out; omega
  clear hg hL E2
  go_upto_region 3 with fail
  go_loopw [7] (fun vi wr => ∃ k : Nat, k ≤ L ∧ vi = .int .i64 k ∧ Hid ((rs.take k).find? (fits N) = none) ∧ Hid (Below w2.heap.size w2 wr)) (fun vi _ => L - (intOf vi).toNat)
  case atStart => exact ⟨0, Nat.zero_le _, rfl, Lib.hid rfl, Lib.hid (Below.refl _ _)⟩
  case round =>
    obtain ⟨k, hk, rfl, HN, HB⟩ := hrel
    by_cases hlt : k < L
    · have hki : (k : Int) < L := by omega
      have hkr : k < rs.length := by rw [← HL.out]; exact hlt
      obtain ⟨b1, o1, hx1, hl1, hnF, hcc⟩ := HG.out.resolve_left (fun x => by have := HL.out; have h9 := congrArg List.length x; rw [List.length_map] at h9; simp at h9; rw [h9] at this; simp at this; omega)
      subst hx1
      have f1 := cell_later HB.out (hcc k (by rw [List.length_map]; exact hkr)).1
      have f2 := cell_later HB.out (hcc k (by rw [List.length_map]; exact hkr)).2
      rw [List.getElem_map] at f1 f2
      have HS := Lib.hid (find_snoc rs k hkr HN.out)
      have hge := HGE.out rs[k] (List.getElem_mem hkr)
      clear hcc
      generalize rs[k] = r at HS f1 f2 hge
      clear hkr
      obtain ⟨a, z⟩ := r
      simp only [Sp.ie] at f1 f2
      simp only at hge
      by_cases hfit : 1 ≤ N ∧ N ≤ (z : Int)
      · obtain ⟨hf1, hf2⟩ := hfit
        have HF : Hid (Sp.take N m = (Sp.put a N.toNat Sp.anew m, ((a : Int), N), true)) := Lib.hid (by rw [HFT.out, HS.out.2 (decide_eq_true ⟨hf1, hf2⟩)])
        obtain ⟨n0, rfl⟩ : ∃ n0 : Nat, N = (n0 : Int) := ⟨N.toNat, by omega⟩
        have R := Lib.hid (H2.out.later HB.out)
        have B := Lib.hid (B2.out.later HB.out)
        have T := Lib.hid (T2.out.trans (Touch.of HB.out))
        have hb5 : Below wr.heap.size wr (wr.alloc (.cells #[.int .i64 (a : Int), .int .i64 (n0 : Int)] 35)) := (Below.refl _ wr).alloc (Nat.le_refl _) _
        have R5 := Lib.hid (R.out.later hb5)
        have B5 := Lib.hid (B.out.later hb5)
        have T5 := Lib.hid (T.out.trans (Touch.of hb5))
        have D5 := Lib.hid (Bx.made (F := RF q bs bw) wr (a : Int) (n0 : Int) R.out.lt)
        clear HN HS hb5 T2 B2 H2 R B T
        obtain ⟨ge, hge2⟩ : ∃ ge, ge = wr.heap.size := ⟨_, rfl⟩
        go_upto_region 7 with fail
        rw [← hge2] at D5 ⊢
        clear hge2
        generalize wr.alloc _ = w5 at R5 B5 T5 D5 ⊢
        have g1 := D5.out.c0
        have g2 := D5.out.c1
        have c5 := rSet_w w5 q bs bw m a n0 2 2 rfl R5.out (by omega)
        unfold ext at c5
        clear f1 f2
        go_wp2_with fail
        refine c5.mono ?_
        rintro e w6 ⟨rfl, hR6, hT6⟩
        have R6 := Lib.hid hR6
        have D6 := Lib.hid (D5.out.touch hT6 (fun _ h => .inl h))
        have B6 := Lib.hid (B5.out.touch hT6 (fun _ h => .inl h))
        have T6 := Lib.hid (T5.out.trans hT6)
        clear c5 hR6 hT6 g1 g2 R5 D5 B5 T5
        have g1 := D6.out.c0
        have g2 := D6.out.c1
        have g3 := B6.out.c0
        have g4 := B6.out.c1
        have g5 := (blk_cell B6.out.1 0 _ rfl).2
        have g6 := (blk_cell B6.out.1 1 _ rfl).2
        have X7 := Lib.hid (B6.out.set2 (a : Int) (n0 : Int))
        have T7 := Lib.hid ((Touch.cell (F := fun k => k = gr) (w := w6) rfl 0 (.int .i64 (a : Int))).trans (Touch.cell (F := fun k => k = gr) rfl 1 (.int .i64 (n0 : Int))))
        go_wp2_with fail
        refine ret_ext rfl gr _ _ rfl X7.out.1 rfl ?_
        rw [HF.out]
        exact ⟨rfl, R6.out.keep (fun k9 hk9 => T7.out.block k9 (R6.out.lt k9 hk9) (fun e => B6.out.2 (e ▸ hk9))), T6.out.behind T7.out HGR.out⟩
      · have HNX := Lib.hid (HS.out.1 (decide_eq_false hfit))
        clear HS HN
        by_cases h1 : 1 ≤ N
        · have h2 : ¬ N ≤ (z : Int) := fun h => hfit ⟨h1, h⟩
          clear hfit
          go_wp2_with fail
          go_roundw
          case rel => exact ⟨k + 1, by omega, by go_num, HNX, HB⟩
          case measure => simp [intOf]; omega
        · clear hfit
          go_wp2_with fail
          go_roundw
          case rel => exact ⟨k + 1, by omega, by go_num, HNX, HB⟩
          case measure => simp [intOf]; omega
    · have hki : ¬ (k : Int) < L := by omega
      have HF : Hid (Sp.take N m = (m, (0, 0), false)) := Lib.hid (by
        have := HN.out
        rw [List.take_of_length_le (by rw [← HL.out]; omega)] at this
        rw [HFT.out, this])
      have R := Lib.hid (H2.out.later HB.out)
      have B := Lib.hid (B2.out.later HB.out)
      have T := Lib.hid (T2.out.trans (Touch.of HB.out))
      have g3 := B.out.c0
      have g4 := B.out.c1
      have g5 := (blk_cell B.out.1 0 _ rfl).2
      have g6 := (blk_cell B.out.1 1 _ rfl).2
      have X7 := Lib.hid (B.out.set2 0 0)
      have T7 := Lib.hid ((Touch.cell (F := fun k => k = gr) (w := wr) rfl 0 (.int .i64 0)).trans (Touch.cell (F := fun k => k = gr) rfl 1 (.int .i64 0)))
      clear HN H2 B2 T2
      go_wp2_with fail
      refine ret_ext rfl gr _ _ rfl X7.out.1 rfl ?_
      rw [HF.out]
      exact ⟨rfl, R.out.keep (fun k9 hk9 => T7.out.block k9 (R.out.lt k9 hk9) (fun e => B.out.2 (e ▸ hk9))), T.out.behind T7.out HGR.out⟩
end Go.Proofs.Ytgfgafondiipoaa
