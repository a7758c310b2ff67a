/- Package journal, the program: a new record, with puts of its own. -/
import Derived.Test.YtjdmmnpfjbnhoaaJvD
namespace Go.Proofs.Ytjdmmnpfjbnhoaa
open Go.RowKit

/-- A struct of three cells, stored whole. -/
theorem set3 {w : World} {q : Nat} {T : TypeId} {x0 x1 x2 : Value} (h : w.heap[q]? = some (.cells #[x0, x1, x2] T (0, 0))) (m a v : Value) :
    (((w.setCell ⟨q, 0, none⟩ m).setCell ⟨q, 1, none⟩ a).setCell ⟨q, 2, none⟩ v).heap[q]? = some (.cells #[m, a, v] T (0, 0)) ∧ Touch (fun k => k = q) w (((w.setCell ⟨q, 0, none⟩ m).setCell ⟨q, 1, none⟩ a).setCell ⟨q, 2, none⟩ v) :=
  ⟨heap_setCell_same _ q 2 _ _ v (heap_setCell_same _ q 1 _ _ a (heap_setCell_same w q 0 _ _ m h)), ((Touch.cell (F := fun k => k = q) (w := w) (g := q) rfl 0 m).trans (Touch.cell (F := fun k => k = q) (g := q) rfl 1 a)).trans (Touch.cell (F := fun k => k = q) (g := q) rfl 2 v)⟩
theorem cons_getD {l : List UInt8} (h : l.length = 64) : l.getD 0 0 :: l.drop 1 = l := Jr.cons_head h
set_option maxHeartbeats 6400000 in
set_option maxRecDepth 100000 in
theorem newRecord_w (m a : Int) (v : Value) (puts : List Jr.Put) (w : World) (h : PRd w v puts) (h64 : ∀ p ∈ puts, p.2.length = 64) (h10 : puts.length ≤ 10) :
    Calls Try.prog 30 #[.int .i64 m, .int .i64 a, v] w fun e w' => ∃ vr, e = .returned (.agg #[.int .i64 m, .int .i64 a, vr]) ∧ PRow (fun k => w.heap.size ≤ k) w' vr puts ∧ Below w.heap.size w w' := by
  obtain ⟨ao, cap, rfl, hc, hc9, -⟩ := id h
  obtain ⟨n, hn⟩ : ∃ n, n = puts.length := ⟨_, rfl⟩
  have HN := Lib.hid hn
  have HG := Lib.hid h
  have HP := Lib.hid h64
  rw [← hn] at hc h10 ⊢
  obtain ⟨G, hG⟩ : ∃ G : Nat → Prop, G = fun k => w.heap.size ≤ k := ⟨_, rfl⟩
  have HGQ := Lib.hid hG
  have HGG : Hid (∀ k, w.heap.size ≤ k → G k) := Lib.hid (fun k hk => by rw [hG]; exact hk)
  have HGL : Hid (∀ k, G k → w.heap.size ≤ k) := Lib.hid (fun k hk => by rw [hG] at hk; exact hk)
  rw [← hG]
  have hq0 := heap_alloc2_new w (.cells #[.int .i64 0, .int .i64 0, .slice none 0 0] 77) (.cells #[.int .i64 m, .int .i64 a, .slice none 0 0] 77)
  have hq1 : ((w.alloc (.cells #[.int .i64 0, .int .i64 0, .slice none 0 0] 77)).alloc (.cells #[.int .i64 m, .int .i64 a, .slice none 0 0] 77)).heap[w.heap.size]? = some (.cells #[.int .i64 0, .int .i64 0, .slice none 0 0] 77) := by
    rw [((Below.refl _ _).alloc (Nat.le_refl _) _ : Below (w.alloc (.cells #[.int .i64 0, .int .i64 0, .slice none 0 0] 77)).heap.size (w.alloc (.cells #[.int .i64 0, .int .i64 0, .slice none 0 0] 77)) _).block w.heap.size (by simp)]
    exact heap_alloc_new w _
  have hb2 : Below w.heap.size w ((w.alloc (.cells #[.int .i64 0, .int .i64 0, .slice none 0 0] 77)).alloc (.cells #[.int .i64 m, .int .i64 a, .slice none 0 0] 77)) := ((Below.refl _ w).alloc (Nat.le_refl _) _).alloc (by simp) _
  clear h h64 hn hG
  go_enter Try.func30, Try.ntmps30
  go_upto_region 2 with fail
  obtain ⟨q6, hq6⟩ : ∃ q6, q6 = w.heap.size := ⟨_, rfl⟩
  obtain ⟨r, hr⟩ : ∃ r, r = w.heap.size + 1 := ⟨_, rfl⟩
  rw [← hr] at hq0 ⊢
  rw [← hq6] at hq1 ⊢
  have hne : q6 ≠ r := by omega
  have HQ6 : Hid (w.heap.size ≤ q6) := Lib.hid (by omega)
  have hrw : w.heap.size ≤ r := by omega
  generalize (w.alloc _).alloc _ = w2 at hq0 hq1 hb2 ⊢
  have HRW := Lib.hid (And.intro hne hrw)
  have H2 := Lib.hid (And.intro hq0 (And.intro hq1 hb2))
  clear hq6 hr hq0 hq1 hb2 hne hrw
  go_wp2_with fail
  go_loopw [15] (fun i wr => ∃ (k : Nat) (vr : Value), k ≤ n ∧ i = .int .i64 k ∧ wr.heap[r]? = some (.cells #[.int .i64 m, .int .i64 a, vr] 77 (0, 0)) ∧ PRow G wr vr (puts.take k) ∧ wr.heap[q6]? = some (.cells #[.int .i64 0, .int .i64 0, .slice none 0 0] 77 (0, 0)) ∧ Below w.heap.size w wr) (fun i _ => n - (intOf i).toNat)
  case atStart => exact ⟨0, _, Nat.zero_le _, rfl, H2.out.1, PRow.nil _ _, H2.out.2⟩
  case round =>
    obtain ⟨k, vr, hk, rfl, hr, hS, hq6, hbr⟩ := hrel
    clear H2
    by_cases hlt : k < n
    · have hki : (k : Int) < n := by omega
      have hkl : k < puts.length := by rw [← HN.out]; exact hlt
      have HST := Lib.hid (show puts.take k ++ [puts[k]] = puts.take (k + 1) by
        rw [List.take_add_one, List.getElem?_eq_getElem hkl]; rfl)
      have hln : (puts.take k).length = k := by rw [List.length_take]; omega
      have hpk : puts[k]? = some puts[k] := List.getElem?_eq_getElem hkl
      generalize puts[k] = p at *
      obtain ⟨pa, px⟩ := p
      generalize puts.take k = LS at *
      obtain ⟨b, o, xb, xo, cv, rfl, f1, f2, hcv, hcv9, hx64, hx0, hbx⟩ := HG.out.nth HP.out hpk
      have f1 := cell_later hbr f1
      have f2 := cell_later hbr f2
      have hx0 := cell_later hbr hx0
      obtain ⟨va, vc, rfl, hvc, hvc9⟩ := hS.shape
      rw [hln] at hr hS hvc
      have hba : Below wr.heap.size wr (wr.alloc (.cells #[.int .i64 (pa : Int), .slice (some ⟨xb, xo, none⟩) 64 cv] 37)) := (Below.refl _ wr).alloc (Nat.le_refl _) _
      have hnew := heap_alloc_new wr (.cells #[.int .i64 (pa : Int), .slice (some ⟨xb, xo, none⟩) 64 cv] 37)
      have hrl := lt_of_block hr
      have hq6l := lt_of_block hq6
      have hxl := World.block_lt_of_cell? wr _ hx0
      have CC0 := Lib.hid (fun W hb => contents_w (px.getD 0 0) _ px W ((hbx.later hbr).later (w' := W) hb) hx64)
      rw [cons_getD hx64] at CC0
      generalize px.getD 0 0 = x0 at *
      obtain ⟨q, hqe⟩ : ∃ q, q = wr.heap.size := ⟨_, rfl⟩
      go_upto_region 5 with fail
      rw [← hqe] at hnew ⊢
      have HS := Lib.hid (And.intro (hS.later hba) (And.intro ((hba.block r hrl).trans hr) (And.intro ((hba.block q6 hq6l).trans hq6) (bt5 hbr hba))))
      have hx0 := cell_later hba hx0
      have CC : Hid (∀ W, Below (wr.alloc (.cells #[.int .i64 (pa : Int), .slice (some ⟨xb, xo, none⟩) 64 cv] 37)).heap.size (wr.alloc (.cells #[.int .i64 (pa : Int), .slice (some ⟨xb, xo, none⟩) 64 cv] 37)) W → _) := Lib.hid (fun W hb => CC0.out W (bt5 hba hb))
      have HLN := Lib.hid hln
      have hqr : q ≠ r := by omega
      have hqq : q6 ≠ r := HRW.out.1
      clear hS hr hq6 hbr hba hrl hq6l hxl CC0 hqe f1 f2 hbx hln
      generalize wr.alloc _ = w4 at *
      have HGG : Hid (∀ k, w4.heap.size ≤ k → G k) := Lib.hid (fun k hk => HGG.out k (Nat.le_trans HS.out.2.2.2.size hk))
      have d0 := (blk_cell hnew 0 (.int .i64 (pa : Int)) rfl).1
      have d1 := (blk_cell hnew 1 (.slice (some ⟨xb, xo, none⟩) 64 cv) rfl).1
      have g2 := (blk_cell HS.out.2.1 2 (.slice va k vc) rfl).1
      refine Rel.region_tail 13 (by kernel_rfl) [some 19, some 20, some 21, some 22, some 23, some 24, some 25, some 26, some 27, some 28, some 29, some 30, some 31, some 32, some 33, none] (by kernel_rfl) (by kernel_rfl) (by kernel_rfl) [.eq (.pointer (some ⟨r, 2, none⟩)), .eq (.slice va k vc), .eq (.pointer (some ⟨q, 0, none⟩)), .eq (.int .i64 (pa : Int)), .eq (.pointer (some ⟨q, 1, none⟩)), .eq (.slice (some ⟨xb, xo, none⟩) 64 cv), .eq (.pointer (some ⟨xb, xo, none⟩)), .eq (.int .u8 (x0.toNat : Int)), .eq (.pointer (some ⟨q, 1, none⟩)), .eq (.slice (some ⟨xb, xo, none⟩) 64 cv), ⟨fun v w => ∃ g c, v = .slice (some ⟨g, 0, none⟩) 64 c ∧ OBk G w v px, fun _ _ _ h hb => by obtain ⟨g, c, h1, h2⟩ := h; exact ⟨g, c, h1, h2.later hb⟩⟩, ⟨fun v w => ∃ g c, v = .agg #[.int .i64 (pa : Int), .slice (some ⟨g, 0, none⟩) 64 c] ∧ OBk G w (.slice (some ⟨g, 0, none⟩) 64 c) px, fun _ _ _ h hb => by obtain ⟨g, c, h1, h2⟩ := h; exact ⟨g, c, h1, h2.later hb⟩⟩, ⟨fun v w => ∃ s g c, v = .slice (some ⟨s, 0, none⟩) 1 1 ∧ w.heap[s]? = some (.cells #[.int .i64 (pa : Int), .slice (some ⟨g, 0, none⟩) 64 c] 37 (0, 0)) ∧ OBk G w (.slice (some ⟨g, 0, none⟩) 64 c) px, fun _ _ _ h hb => by obtain ⟨s, g, c, h1, h2, h3⟩ := h; exact ⟨s, g, c, h1, (hb.block s (lt_of_block h2)).trans h2, h3.later hb⟩⟩] ⟨?_, ?_, ?_, ?_, ?_, ?_, ?_, ?_, ?_, ?_, ?_, ?_, ?_, trivial⟩ ?_
      · intro u w9 hb9 hd9
        clear hd9
        refine ⟨?_⟩
        simp only [Rel.canD, List.take_zero]
        go_wp2_with fail
        exact ⟨rfl, rfl, Below.refl _ _, rfl⟩
      · intro u w9 hb9 hd9
        have e0 : u 0 = .pointer (some ⟨r, 2, none⟩) := hd9 0 (by kernel_rfl)
        clear hd9
        have q9 := cell_later hb9 g2
        refine ⟨?_⟩
        simp only [Rel.canD, List.take_succ_cons, List.take_zero, Nat.reduceAdd]
        go_wp2_with fail
        exact ⟨rfl, rfl, Below.refl _ _, rfl⟩
      · intro u w9 hb9 hd9
        clear hd9
        refine ⟨?_⟩
        simp only [Rel.canD, List.take_succ_cons, List.take_zero, Nat.reduceAdd]
        go_wp2_with fail
        exact ⟨rfl, rfl, Below.refl _ _, rfl⟩
      · intro u w9 hb9 hd9
        have e2 : u 2 = .pointer (some ⟨q, 0, none⟩) := hd9 2 (by kernel_rfl)
        clear hd9
        have q9 := cell_later hb9 d0
        refine ⟨?_⟩
        simp only [Rel.canD, List.take_succ_cons, List.take_zero, Nat.reduceAdd]
        go_wp2_with fail
        exact ⟨rfl, rfl, Below.refl _ _, rfl⟩
      · intro u w9 hb9 hd9
        clear hd9
        refine ⟨?_⟩
        simp only [Rel.canD, List.take_succ_cons, List.take_zero, Nat.reduceAdd]
        go_wp2_with fail
        exact ⟨rfl, rfl, Below.refl _ _, rfl⟩
      · intro u w9 hb9 hd9
        have e4 : u 4 = .pointer (some ⟨q, 1, none⟩) := hd9 4 (by kernel_rfl)
        clear hd9
        have q9 := cell_later hb9 d1
        refine ⟨?_⟩
        simp only [Rel.canD, List.take_succ_cons, List.take_zero, Nat.reduceAdd]
        go_wp2_with fail
        exact ⟨rfl, rfl, Below.refl _ _, rfl⟩
      · intro u w9 hb9 hd9
        have e5 : u 5 = .slice (some ⟨xb, xo, none⟩) 64 cv := hd9 5 (by kernel_rfl)
        clear hd9
        refine ⟨?_⟩
        simp only [Rel.canD, List.take_succ_cons, List.take_zero, Nat.reduceAdd]
        go_wp2_with fail
        exact ⟨rfl, rfl, Below.refl _ _, rfl⟩
      · intro u w9 hb9 hd9
        have e6 : u 6 = .pointer (some ⟨xb, xo, none⟩) := hd9 6 (by kernel_rfl)
        clear hd9
        have q9 := cell_later hb9 hx0
        refine ⟨?_⟩
        simp only [Rel.canD, List.take_succ_cons, List.take_zero, Nat.reduceAdd]
        go_wp2_with fail
        exact ⟨rfl, rfl, Below.refl _ _, rfl⟩
      · intro u w9 hb9 hd9
        clear hd9
        refine ⟨?_⟩
        simp only [Rel.canD, List.take_succ_cons, List.take_zero, Nat.reduceAdd]
        go_wp2_with fail
        exact ⟨rfl, rfl, Below.refl _ _, rfl⟩
      · intro u w9 hb9 hd9
        have e8 : u 8 = .pointer (some ⟨q, 1, none⟩) := hd9 8 (by kernel_rfl)
        clear hd9
        have q9 := cell_later hb9 d1
        refine ⟨?_⟩
        simp only [Rel.canD, List.take_succ_cons, List.take_zero, Nat.reduceAdd]
        go_wp2_with fail
        exact ⟨rfl, rfl, Below.refl _ _, rfl⟩
      · intro u w9 hb9 hd9
        have e7 : u 7 = .int .u8 (x0.toNat : Int) := hd9 7 (by kernel_rfl)
        have e9 : u 9 = .slice (some ⟨xb, xo, none⟩) 64 cv := hd9 9 (by kernel_rfl)
        clear hd9
        have c9 := CC.out w9 hb9
        refine ⟨?_⟩
        simp only [Rel.canD, List.take_succ_cons, List.take_zero, Nat.reduceAdd]
        go_wp2_with fail
        refine c9.mono ?_
        rintro e w8 ⟨g, c, rfl, h8⟩
        have h7 : OBk G w8 (.slice (some ⟨g, 0, none⟩) 64 c) px := h8.obk (by simp) (fun k hk => HGG.out k (Nat.le_trans hb9.size hk))
        have h6 := h8.below
        clear h8 c9
        go_wp2_with fail
        exact ⟨rfl, rfl, h6, g, c, rfl, h7⟩
      · intro u w9 hb9 hd9
        have e3 : u 3 = .int .i64 (pa : Int) := hd9 3 (by kernel_rfl)
        have e10 := hd9 10 (by kernel_rfl)
        clear hd9
        obtain ⟨g, c, e10x, h10x⟩ := e10
        rw [e10x] at h10x
        refine ⟨?_⟩
        simp only [Rel.canD, List.take_succ_cons, List.take_zero, Nat.reduceAdd]
        go_wp2_with fail
        exact ⟨rfl, rfl, Below.refl _ _, g, c, rfl, h10x⟩
      · intro u w9 hb9 hd9
        have e11 := hd9 11 (by kernel_rfl)
        clear hd9
        obtain ⟨g, c, e11x, h11⟩ := e11
        have hbx : Below w9.heap.size w9 (w9.alloc (.cells #[.int .i64 (pa : Int), .slice (some ⟨g, 0, none⟩) 64 c] 37)) := (Below.refl _ w9).alloc (Nat.le_refl _) _
        have hnx := heap_alloc_new w9 (.cells #[.int .i64 (pa : Int), .slice (some ⟨g, 0, none⟩) 64 c] 37)
        have h12 := h11.later hbx
        refine ⟨?_⟩
        simp only [Rel.canD, List.take_succ_cons, List.take_zero, Nat.reduceAdd]
        go_wp2_with fail
        exact ⟨rfl, rfl, hbx, w9.heap.size, g, c, rfl, hnx, h12⟩
      intro u w9 hb9 hR9
      simp only [Rel.canD, Nat.reduceAdd, List.take_succ_cons, List.take_zero, List.drop_succ_cons, List.drop_zero]
      obtain ⟨s, g, c, h12, hs9, hy9⟩ := hR9 12 (by decide)
      have h1 : u 1 = .slice va k vc := hR9 1 (by decide)
      rw [h12, h1]
      have hS9 := HS.out.1.later hb9
      have hr9 := (hb9.block r (lt_of_block HS.out.2.1)).trans HS.out.2.1
      have hq9 := (hb9.block q6 (lt_of_block HS.out.2.2.1)).trans HS.out.2.2.1
      have hbw9 := bt5 HS.out.2.2.2 hb9
      have hnr : ∀ k C T f, w9.heap[k]? = some (.cells C T f) → T = 37 ∨ T = 5 → k ≠ r := fun k C T f hc hT e => by
        subst e
        rw [hr9] at hc
        cases hc
        rcases hT with h | h
        · exact absurd h (by decide)
        · exact absurd h (by decide)
      have HX := Lib.hid (And.intro hS9 (And.intro hr9 (And.intro hq9 (And.intro hbw9 hnr))))
      have HS9 := Lib.hid (And.intro hs9 hy9)
      have HG9 : Hid (∀ k, w9.heap.size ≤ k → G k) := Lib.hid (fun k hk => HGG.out k (Nat.le_trans hb9.size hk))
      clear hS9 hr9 hq9 hbw9 hnr hs9 hy9 hb9 hR9 d0 d1 g2 hx0 CC
      go_simp
      refine PRow.app (p := (pa, px)) HX.out.1 HS9.out.1 HS9.out.2 (by rw [HLN.out]; omega) HG9.out rfl (.tmp 20) (.tmp 31) rfl rfl rfl ?_
      intro v7 w7 hS7 hg7
      have hr7 : w7.heap[r]? = some (.cells #[.int .i64 m, .int .i64 a, .slice va k vc] 77 (0, 0)) := (hg7.block r (lt_of_block HX.out.2.1) (fun e => by
        obtain ⟨C, hC⟩ := HX.out.1.type e.symm
        exact HX.out.2.2.2.2 r C _ _ hC (.inl rfl) rfl)).trans HX.out.2.1
      have hq7 : w7.heap[q6]? = some (.cells #[.int .i64 0, .int .i64 0, .slice none 0 0] 77 (0, 0)) := (hg7.block q6 (lt_of_block HX.out.2.2.1) (fun e => by
        obtain ⟨C, hC⟩ := HX.out.1.type e.symm
        have h9 := HX.out.2.2.1
        rw [hC] at h9
        cases h9)).trans HX.out.2.2.1
      have hb7 : Below w.heap.size w w7 := HX.out.2.2.2.1.grown hg7 HX.out.2.2.2.1.size (HX.out.1.own HGL.out)
      rw [HST.out] at hS7
      have hl7 : (puts.take (k + 1)).length = k + 1 := by rw [List.length_take]; have := HN.out; omega
      obtain ⟨va7, vc7, rfl, hvc7, hvc79⟩ := hS7.shape
      rw [hl7] at hS7 hvc7 ⊢
      obtain ⟨e2, f2⟩ := blk_cell hr7 2 (.slice va k vc) rfl
      have hr8 := heap_setCell_same w7 r 2 _ _ (.slice va7 (k + 1) vc7) hr7
      have hS8 : PRow G (w7.setCell ⟨r, 2, none⟩ (.slice va7 (k + 1) vc7)) (.slice va7 (k + 1) vc7) (puts.take (k + 1)) := hS7.keepT (fun _ h => h) (fun k9 C T f _ hc hT => heap_setCell_other w7 ⟨r, 2, none⟩ k9 _ (fun e => by
        have e9 : k9 = r := e
        subst e9
        rw [hr7] at hc
        cases hc
        rcases hT with h | h
        · exact absurd h (by decide)
        · exact absurd h (by decide)))
      have hq8 := (heap_setCell_other w7 ⟨r, 2, none⟩ q6 (.slice va7 (k + 1) vc7) hqq).trans hq7
      have HR8 := Lib.hid (And.intro hr8 (And.intro hS8 (And.intro hq8 (set_below (k := 2) (v := .slice va7 (k + 1) vc7) hb7 HRW.out.2))))
      clear hr8 hS8 hq8 hr7 hS7 hq7 hb7 hg7 HX HS9
      go_wp2_with fail
      go_roundw
      case rel => exact ⟨k + 1, _, by omega, by go_num, HR8.out⟩
      case measure => simp [intOf]; omega
    · have hki : ¬ (k : Int) < n := by omega
      have hke : puts.take k = puts := by rw [List.take_of_length_le]; rw [← HN.out]; omega
      rw [hke] at hS
      obtain ⟨va, vc, rfl, hvc, hvc9⟩ := hS.shape
      have d0 := blk_cell hr 0 (.int .i64 m) rfl
      have d1 := blk_cell hr 1 (.int .i64 a) rfl
      have d2 := blk_cell hr 2 (.slice va puts.length vc) rfl
      have e0 := blk_cell hq6 0 (.int .i64 0) rfl
      have e1 := blk_cell hq6 1 (.int .i64 0) rfl
      have e2 := blk_cell hq6 2 (.slice none 0 0) rfl
      have HX := Lib.hid (And.intro hr (And.intro hS (And.intro hq6 hbr)))
      rw [← HN.out] at hr hS hvc d2 HX
      clear hr hS hq6 hbr hke hlt hk
      go_wp2_with fail
      obtain ⟨h9, t9⟩ := set3 HX.out.2.2.1 (.int .i64 m) (.int .i64 a) (.slice va n vc)
      refine bodyPost_ret (v := .agg #[.int .i64 m, .int .i64 a, .slice va n vc]) ?h1 ?h2 ?h3
      case h1 => exact results_cell_row rfl _ _ q6 _ _ (0, 0) _ rfl h9 Try.underlying77 rfl (by kernel_rfl)
      case h2 => rfl
      case h3 => exact ⟨_, rfl, HX.out.2.1.keepT (fun _ h => h) (fun k9 C T f _ hc hT => t9.block k9 (lt_of_block hc) (fun e => by
        subst e
        rw [HX.out.2.2.1] at hc
        cases hc
        rcases hT with h | h
        · exact absurd h (by decide)
        · exact absurd h (by decide))), t9.below (fun k9 hk => by rw [hk]; exact HQ6.out) HX.out.2.2.2 HX.out.2.2.2.size⟩
end Go.Proofs.Ytjdmmnpfjbnhoaa
