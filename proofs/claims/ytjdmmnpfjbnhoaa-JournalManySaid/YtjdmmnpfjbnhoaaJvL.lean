/- Package journal, the program: the mark that counts. -/
import Derived.Test.YtjdmmnpfjbnhoaaJvK
namespace Jr
/-- The best mark of the first k sectors. -/
def bestk (ls : List Dv.Sec) (n : Nat) : Nat → Option (Int × Int × Nat)
  | 0 => none
  | k + 1 => best (bestk ls n k) (readMark (ls.getD k []) k n)
theorem bestk_two (ls : List Dv.Sec) (n : Nat) : bestk ls n 2 = best (readMark (ls.getD 0 []) ((0 : Nat) : Int).toNat n) (readMark (ls.getD 1 []) ((1 : Nat) : Int).toNat n) := rfl
theorem best_none (a : Option (Int × Int × Nat)) : best a none = a := by cases a <;> rfl
theorem readMark_is {l : Dv.Sec} {i n : Nat} (h : (readMark l i n).isSome = true) : readMark l i n = some (num (l.take 8), num ((l.drop 9).take 8), unum ((l.drop 17).take 4)) := by
  unfold readMark at h ⊢
  split
  · rfl
  · rename_i hh; rw [if_neg hh] at h; cases h
end Jr
namespace Go.Proofs.Ytjdmmnpfjbnhoaa
open Go.RowKit

theorem three_alloc (w : World) (A B C : Obj) : (((w.alloc A).alloc B).alloc C).heap[w.heap.size]? = some A ∧ (((w.alloc A).alloc B).alloc C).heap[w.heap.size + 1]? = some B ∧ (((w.alloc A).alloc B).alloc C).heap[w.heap.size + 1 + 1]? = some C ∧ Below w.heap.size w (((w.alloc A).alloc B).alloc C) :=
  ⟨(three_at w A B C).1, (three_at w A B C).2.1, (three_at w A B C).2.2, (((Below.refl _ w).alloc (Nat.le_refl _) _).alloc (by simp) _).alloc (by simp; omega) _⟩
set_option maxHeartbeats 6400000 in
set_option maxRecDepth 100000 in
theorem latest_w (g from_ n : Nat) (v : Value) (ls : List Dv.Sec) (w : World) (h : BsIn w v ls) (h2 : 2 ≤ ls.length) (h64 : ∀ x ∈ ls, x.length = 64) (hn : n ≤ 1000000) (M NX : Int) (AT : Nat) (hbest : Jr.bestk ls n 2 = some (M, NX, AT)) :
    Calls Try.prog 22 #[.agg #[.pointer (some ⟨g, 0, none⟩), .int .i64 (from_ : Int), .int .i64 (n : Int)], v] w fun e w' => e = .returned (.tuple #[.agg #[.int .i64 M, .int .i64 NX, .int .i64 (AT : Int)], .bool true]) ∧ Below w.heap.size w w' := by
  obtain ⟨ao, cap, rfl, hc, hc9, hg⟩ := id h
  obtain ⟨b, o, rfl, hb, hcell⟩ := hg.resolve_left (fun e => by rw [e] at h2; simp at h2)
  obtain ⟨N, hN⟩ : ∃ N, N = ls.length := ⟨_, rfl⟩
  rw [← hN] at hc h2 ⊢
  have HN := Lib.hid hN
  have HCELL := Lib.hid hcell
  have H64 := Lib.hid h64
  have HBEST := Lib.hid hbest
  have hci : (2 : Int) ≤ (N : Int) := by omega
  have hcc : (2 : Int) ≤ (cap : Int) := by omega
  obtain ⟨q2, q4, q6, hb3⟩ := three_alloc w (.cells #[.pointer (some ⟨g, 0, none⟩), .int .i64 (from_ : Int), .int .i64 (n : Int)] 59) (.cells #[.int .i64 0, .int .i64 0, .int .i64 0] 63) (.cells #[.int .i64 0, .int .i64 0, .int .i64 0] 63)
  clear h hN hcell h64 hg hbest
  go_enter Try.func22, Try.ntmps22
  go_upto_region 3 with fail
  obtain ⟨s2, e2⟩ : ∃ s, s = w.heap.size := ⟨_, rfl⟩
  obtain ⟨s4, e4⟩ : ∃ s, s = w.heap.size + 1 := ⟨_, rfl⟩
  obtain ⟨s6, e6⟩ : ∃ s, s = w.heap.size + 1 + 1 := ⟨_, rfl⟩
  rw [← e6] at q6 ⊢
  rw [← e4] at q4 ⊢
  rw [← e2] at q2 ⊢
  generalize ((w.alloc _).alloc _).alloc _ = w1 at *
  have HQ := Lib.hid (And.intro q2 (And.intro q4 (And.intro q6 hb3)))
  have HE := Lib.hid (And.intro e2 (And.intro e4 e6))
  have h26 : s2 ≠ s6 := by omega
  have h46 : s4 ≠ s6 := by omega
  clear q2 q4 q6 hb3 e2 e4 e6
  go_wp2_with fail
  go_loopw [7, 15] (fun fv i wr => ∃ (k : Nat) (X Y Z : Int), k ≤ 2 ∧ i = .int .i64 k ∧ fv = .bool (Jr.bestk ls n k).isSome ∧ wr.heap[s6]? = some (.cells #[.int .i64 X, .int .i64 Y, .int .i64 Z] 63 (0, 0)) ∧ (∀ a b c, Jr.bestk ls n k = some (a, b, c) → X = a ∧ Y = b ∧ Z = c) ∧ wr.heap[s4]? = some (.cells #[.int .i64 0, .int .i64 0, .int .i64 0] 63 (0, 0)) ∧ wr.heap[s2]? = some (.cells #[.pointer (some ⟨g, 0, none⟩), .int .i64 (from_ : Int), .int .i64 (n : Int)] 59 (0, 0)) ∧ Below w.heap.size w wr) (fun _ i _ => 2 - (intOf i).toNat)
  case atStart => exact ⟨0, 0, 0, 0, by decide, rfl, rfl, HQ.out.2.2.1, (fun a b c h => by cases h), HQ.out.2.1, HQ.out.1, HQ.out.2.2.2⟩
  case round =>
    obtain ⟨k, X, Y, Z, hk, rfl, rfl, h6, hbk, h4, hq2, hbr⟩ := hrel
    by_cases hlt : k < 2
    · have hki : (k : Int) < 2 := by omega
      have hkl : k < ls.length := by rw [← HN.out]; omega
      obtain ⟨u, hu, hbi, -⟩ := HCELL.out k hkl
      have hu := cell_later hbr hu
      have hl64 := H64.out _ (List.getElem_mem hkl)
      have hge : ls.getD k [] = ls[k] := by rw [List.getD_eq_getElem?_getD, List.getElem?_eq_getElem hkl]; rfl
      have CM := Lib.hid (fun W (hb : Below wr.heap.size wr W) => markOn_w g from_ n k u ls[k] W ((hbi.later hbr).later hb) hl64 hn)
      have hR9 : Jr.bestk ls n (k + 1) = Jr.best (Jr.bestk ls n k) (Jr.readMark ls[k] k n) := by rw [← hge]; rfl
      have HIS := Lib.hid (fun (h : (Jr.readMark ls[k] k n).isSome = true) => Jr.readMark_is h)
      have HNO : Hid (∀ h : (Jr.readMark ls[k] k n).isSome = false, Jr.readMark ls[k] k n = none) := Lib.hid (fun h => by simpa using h)
      have HR9 := Lib.hid hR9
      obtain ⟨av, cv, rfl, -⟩ := hbi
      generalize ls[k] = lk at *
      generalize Jr.num (lk.take 8) = M1 at *
      generalize Jr.num ((lk.drop 9).take 8) = N1 at *
      generalize Jr.unum ((lk.drop 17).take 4) = A1 at *
      generalize Jr.readMark lk k n = rk at *
      have p0 := (blk_cell hq2 0 (.pointer (some ⟨g, 0, none⟩)) rfl).1
      have p1 := (blk_cell hq2 1 (.int .i64 (from_ : Int)) rfl).1
      have p2 := (blk_cell hq2 2 (.int .i64 (n : Int)) rfl).1
      have HQ2 := Lib.hid (And.intro h6 (And.intro h4 (And.intro hq2 hbr)))
      have HBK := Lib.hid hbk
      generalize hbke : Jr.bestk ls n (k + 1) = bk1 at *
      have HBE := Lib.hid hbke
      clear hbke
      generalize Jr.bestk ls n k = bk at *
      clear h6 h4 hq2 hbr hbk hge hR9 hl64 hkl
      go_wp2_with fail
      refine (CM.out _ (Below.refl _ _)).mono ?_
      rintro e w2 ⟨rfl, hb2⟩
      clear p0 p1 p2
      have hnew := heap_alloc_new w2 (.cells #[.int .i64 M1, .int .i64 N1, .int .i64 (A1 : Int)] 63)
      have hba : Below w2.heap.size w2 (w2.alloc (.cells #[.int .i64 M1, .int .i64 N1, .int .i64 (A1 : Int)] 63)) := (Below.refl _ w2).alloc (Nat.le_refl _) _
      have h6l := lt_of_block HQ2.out.1
      have h4l := lt_of_block HQ2.out.2.1
      have h2l := lt_of_block HQ2.out.2.2.1
      have hb23 := bt5 hb2 hba
      have h6 := (hb23.block s6 h6l).trans HQ2.out.1
      have h4 := (hb23.block s4 h4l).trans HQ2.out.2.1
      have hq2 := (hb23.block s2 h2l).trans HQ2.out.2.2.1
      have hbr := bt5 HQ2.out.2.2.2 hb23
      have hsz := hb2.size
      go_upto_region 7 with fail
      obtain ⟨r, hr⟩ : ∃ r, r = w2.heap.size := ⟨_, rfl⟩
      rw [← hr] at hnew ⊢
      have hr6 : r ≠ s6 := by omega
      generalize w2.alloc _ = w3 at *
      have m0 := (blk_cell hnew 0 (.int .i64 M1) rfl).1
      have m1 := (blk_cell hnew 1 (.int .i64 N1) rfl).1
      have m2 := (blk_cell hnew 2 (.int .i64 (A1 : Int)) rfl).1
      have l0 := blk_cell h6 0 (.int .i64 X) rfl
      have l1 := blk_cell h6 1 (.int .i64 Y) rfl
      have l2 := blk_cell h6 2 (.int .i64 Z) rfl
      obtain ⟨n6, t6⟩ := set3 h6 (.int .i64 M1) (.int .i64 N1) (.int .i64 (A1 : Int))
      have HS := Lib.hid (And.intro n6 (And.intro ((t6.block s4 (lt_of_block h4) h46).trans h4) (And.intro ((t6.block s2 (lt_of_block hq2) h26).trans hq2) (t6.below (fun k hk => by have := HE.out.2.2; omega : ∀ k, k = s6 → w.heap.size ≤ k) hbr hbr.size))))
      have HK := Lib.hid (And.intro h6 (And.intro h4 (And.intro hq2 hbr)))
      clear h6 h4 hq2 hbr hnew hba hb23 h6l h4l h2l hsz n6 t6 hb2 hr CM HQ2
      cases hrk : rk.isSome with
      | false =>
        have hrn := HNO.out hrk
        have HB1 : Hid (bk1 = bk) := Lib.hid (by rw [HR9.out, hrn, Jr.best_none])
        clear hrk hrn
        go_wp2_with fail
        go_roundw
        case rel => exact ⟨k + 1, X, Y, Z, by omega, by go_num, by rw [HBE.out, HB1.out], HK.out.1, by rw [HBE.out, HB1.out]; exact HBK.out, HK.out.2⟩
        case measure => simp [intOf]; omega
      | true =>
        have hrn := HIS.out hrk
        cases hbs : bk.isSome with
        | false =>
          have hbn : bk = none := by simpa using hbs
          have HB1 : Hid (bk1 = some (M1, N1, A1)) := Lib.hid (by rw [HR9.out, hrn, hbn]; rfl)
          clear hrk hrn hbs
          go_wp2_with fail
          go_roundw
          case rel => exact ⟨k + 1, M1, N1, A1, by omega, by go_num, by rw [HBE.out, HB1.out]; rfl, HS.out.1, (fun a b c h => by rw [HBE.out, HB1.out] at h; cases h; exact ⟨rfl, rfl, rfl⟩), HS.out.2⟩
          case measure => simp [intOf]; omega
        | true =>
          obtain ⟨⟨b1, b2, b3⟩, hbv⟩ := Option.isSome_iff_exists.1 hbs
          obtain ⟨rfl, rfl, rfl⟩ := HBK.out _ _ _ hbv
          by_cases hgt : X < M1
          · have HB1 : Hid (bk1 = some (M1, N1, A1)) := Lib.hid (by rw [HR9.out, hrn, hbv]; exact if_pos hgt)
            clear hrk hrn hbs hbv
            go_wp2_with fail
            go_roundw
            case rel => exact ⟨k + 1, M1, N1, A1, by omega, by go_num, by rw [HBE.out, HB1.out]; rfl, HS.out.1, (fun a b c h => by rw [HBE.out, HB1.out] at h; cases h; exact ⟨rfl, rfl, rfl⟩), HS.out.2⟩
            case measure => simp [intOf]; omega
          · have HB1 : Hid (bk1 = bk) := Lib.hid (by rw [HR9.out, hrn, hbv]; exact if_neg hgt)
            clear hrk hrn
            go_wp2_with fail
            go_roundw
            case rel => exact ⟨k + 1, X, Y, _, by omega, by go_num, by rw [HBE.out, HB1.out, hbs], HK.out.1, by rw [HBE.out, HB1.out]; exact HBK.out, HK.out.2⟩
            case measure => simp [intOf]; omega
    · have hki : ¬ (k : Int) < 2 := by omega
      obtain rfl : k = 2 := by omega
      obtain ⟨rfl, rfl, rfl⟩ := hbk _ _ _ HBEST.out
      rw [HBEST.out]
      have l0 := (blk_cell h6 0 (.int .i64 X) rfl).1
      have l1 := (blk_cell h6 1 (.int .i64 Y) rfl).1
      have l2 := (blk_cell h6 2 (.int .i64 (AT : Int)) rfl).1
      have r0 := blk_cell h4 0 (.int .i64 0) rfl
      have r1 := blk_cell h4 1 (.int .i64 0) rfl
      have r2 := blk_cell h4 2 (.int .i64 0) rfl
      obtain ⟨n4, t4⟩ := set3 h4 (.int .i64 X) (.int .i64 Y) (.int .i64 (AT : Int))
      have HS := Lib.hid (And.intro n4 (t4.below (fun k hk => by have := HE.out.2.1; omega : ∀ k, k = s4 → w.heap.size ≤ k) hbr hbr.size))
      clear h6 h4 hq2 hbr hbk n4 t4 hlt hk
      go_wp2_with fail
      refine ret_three rfl s4 _ _ _ _ rfl (load_mark HS.out.1) rfl rfl ?_
      exact ⟨rfl, HS.out.2⟩
end Go.Proofs.Ytjdmmnpfjbnhoaa
