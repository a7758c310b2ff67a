/- Package journal, the program: a record that is there. -/
import Derived.Test.YtjdmmnpfjbnhoaaJvL
import Derived.Test.YtjdmmnpfjbnhoaaRel
namespace Go.Proofs.Ytjdmmnpfjbnhoaa
open Go.RowKit

theorem BIn.cellAt {w : World} {b o m cap : Nat} {l : List UInt8} (h : BIn w (.slice (some ⟨b, o, none⟩) m cap) l) (k : Nat) (hk : k < l.length) : w.cell? ⟨b, o + k, none⟩ = some (.int .u8 (l[k].toNat : Int)) := by
  obtain ⟨ao, cap', hv, _, _, hg⟩ := h
  injection hv with e1 e2 e3
  subst e1
  obtain ⟨b', o', he, _, hc⟩ := hg.resolve_left (fun e => by rw [e] at hk; cases hk)
  cases he
  exact hc k hk
/-- One of the sectors. -/
theorem BsIn.nth {w : World} {ao : Option Addr} {n cap : Nat} {ls : List Dv.Sec} (h : BsIn w (.slice ao n cap) ls) (h64 : ∀ x ∈ ls, x.length = 64) {k : Nat} (hk : k < ls.length) :
    ∃ b o xb xo cv, ao = some ⟨b, o, none⟩ ∧ w.cell? ⟨b, o + k, none⟩ = some (.slice (some ⟨xb, xo, none⟩) 64 cv) ∧ 64 ≤ cv ∧ cv ≤ 9223372036854775807 ∧ (ls.getD k []).length = 64 ∧ BIn w (.slice (some ⟨xb, xo, none⟩) 64 cv) (ls.getD k []) := by
  have hge : ls.getD k [] = ls[k] := by rw [List.getD_eq_getElem?_getD, List.getElem?_eq_getElem hk]; rfl
  rw [hge]
  obtain ⟨ao9, cap9, hv9, hc1, hc2, h9⟩ := h
  injection hv9 with e1 e2 e3
  subst e1 e2 e3
  obtain ⟨b, o, rfl, hbb, hcell⟩ := h9.resolve_left (fun e => by rw [e] at hk; cases hk)
  obtain ⟨u, f1, hbi, -⟩ := hcell k hk
  have h1 := h64 _ (List.getElem_mem hk)
  obtain ⟨av, cv, rfl, hcv, hcv9, hxv⟩ := id hbi
  rw [h1] at hcv f1 hbi
  obtain ⟨xb, xo, rfl, hxb, hxc⟩ := hxv.resolve_left (fun e => by rw [e] at h1; cases h1)
  exact ⟨b, o, xb, xo, cv, rfl, f1, hcv, hcv9, h1, hbi⟩
theorem drop_front (H : List UInt8) (K : Nat) (h : H.length = 64) (hK : K < 64) : (H.drop K).take 1 = [H.getD K 0] := by
  rw [List.drop_eq_getElem_cons (by omega), get0 K (by omega)]
  rfl
set_option maxHeartbeats 12800000 in
set_option maxRecDepth 100000 in
theorem recordOn_w (g from_ n at_ : Nat) (num : Int) (d : Dv.S) (F : Nat → Prop) (v : Value) (all : List Dv.Sec) (w : World) (hD : Dev13 w g d F) (h : BsIn w v all) (hl : all.length = n) (h64 : ∀ x ∈ all, x.length = 64) (hn : n ≤ 1000) (hf : from_ ≤ 100000) (h2 : 2 ≤ at_) (ha : at_ ≤ 1000) :
    Calls Try.prog 63 #[.agg #[.pointer (some ⟨g, 0, none⟩), .int .i64 (from_ : Int), .int .i64 (n : Int)], v, .int .i64 num, .int .i64 (at_ : Int)] w fun e w' => Below w.heap.size w w' ∧
      ((Jr.find all at_ num d.safe.length from_ = none ∧ e = .returned (.tuple #[.agg #[.int .i64 0, .int .i64 0, .slice none 0 0], .bool false])) ∨
       ∃ ps vr, Jr.find all at_ num d.safe.length from_ = some ps ∧ e = .returned (.tuple #[.agg #[.int .i64 num, .int .i64 (at_ : Int), vr], .bool true]) ∧ PRow (fun k => w.heap.size ≤ k) w' vr ps) := by
  obtain ⟨ao, cap, rfl, hc, hc9, -⟩ := id h
  rw [hl] at hc h ⊢
  have hni : (n : Int) ≤ 1000 := by omega
  have hai : (2 : Int) ≤ (at_ : Int) := by omega
  have hai9 : (at_ : Int) ≤ 1000 := by omega
  have HH := Lib.hid (And.intro h (And.intro hl h64))
  have HD := Lib.hid hD
  obtain ⟨s, hs⟩ : ∃ s, s = d.safe.length := ⟨_, rfl⟩
  have HS := Lib.hid hs
  have CO := Lib.hid (fun W (hb : Below w.heap.size w W) a => outside_w g from_ n a d F W (hD.later hb) (by omega))
  rw [← hs] at CO ⊢
  obtain ⟨q4, q8, hb2⟩ : (((w.alloc (.cells #[.pointer (some ⟨g, 0, none⟩), .int .i64 (from_ : Int), .int .i64 (n : Int)] 59)).alloc (.cells #[.int .i64 0, .int .i64 0, .slice none 0 0] 77)).heap[w.heap.size]? = some (.cells #[.pointer (some ⟨g, 0, none⟩), .int .i64 (from_ : Int), .int .i64 (n : Int)] 59 (0, 0))) ∧ (((w.alloc (.cells #[.pointer (some ⟨g, 0, none⟩), .int .i64 (from_ : Int), .int .i64 (n : Int)] 59)).alloc (.cells #[.int .i64 0, .int .i64 0, .slice none 0 0] 77)).heap[w.heap.size + 1]? = some (.cells #[.int .i64 0, .int .i64 0, .slice none 0 0] 77 (0, 0))) ∧ Below w.heap.size w ((w.alloc (.cells #[.pointer (some ⟨g, 0, none⟩), .int .i64 (from_ : Int), .int .i64 (n : Int)] 59)).alloc (.cells #[.int .i64 0, .int .i64 0, .slice none 0 0] 77)) :=
    ⟨by rw [((Below.refl _ _).alloc (Nat.le_refl _) _ : Below (w.alloc (.cells #[.pointer (some ⟨g, 0, none⟩), .int .i64 (from_ : Int), .int .i64 (n : Int)] 59)).heap.size (w.alloc (.cells #[.pointer (some ⟨g, 0, none⟩), .int .i64 (from_ : Int), .int .i64 (n : Int)] 59)) _).block w.heap.size (by simp)]; exact heap_alloc_new w _, heap_alloc2_new w _ _, ((Below.refl _ w).alloc (Nat.le_refl _) _).alloc (by simp) _⟩
  clear h hl h64 hD hs hf
  go_enter Try.func63, Try.ntmps63
  go_upto_region 1 with fail
  obtain ⟨s4, e4⟩ : ∃ s, s = w.heap.size := ⟨_, rfl⟩
  obtain ⟨s8, e8⟩ : ∃ s, s = w.heap.size + 1 := ⟨_, rfl⟩
  rw [← e8] at q8 ⊢
  rw [← e4] at q4 ⊢
  generalize hw1 : (w.alloc _).alloc _ = w1 at *
  have hs1 : w1.heap.size = w.heap.size + 2 := by rw [← hw1]; simp
  have HQ := Lib.hid (And.intro q4 (And.intro q8 hb2))
  have HE := Lib.hid (And.intro e4 (And.intro e8 hs1))
  have h48 : s4 ≠ s8 := by omega
  have p2 := (blk_cell q4 2 (.int .i64 (n : Int)) rfl).1
  have z0 := blk_cell q8 0 (.int .i64 0) rfl
  have z1 := blk_cell q8 1 (.int .i64 0) rfl
  have z2 := blk_cell q8 2 (.slice none 0 0) rfl
  obtain ⟨n8, t8⟩ := set3 q8 (.int .i64 0) (.int .i64 0) (.slice none 0 0)
  have HZ := Lib.hid (And.intro n8 (t8.below (fun k hk => by omega : ∀ k, k = s8 → w.heap.size ≤ k) hb2 hb2.size))
  clear q4 q8 hb2 e4 e8 hw1 hs1 n8 t8
  by_cases hA : n ≤ at_
  · have hAi : (n : Int) ≤ (at_ : Int) := by omega
    have HX : Hid (Jr.find all at_ num s from_ = none) := Lib.hid (by
      unfold Jr.find
      rw [if_neg]
      intro hf
      have := hf.2.1
      rw [HH.out.2.1] at this
      omega)
    go_wp2_with fail
    refine ret_three rfl s8 _ _ _ _ rfl (load_record HZ.out.1) rfl rfl ?_
    exact ⟨HZ.out.2, .inl ⟨HX.out, rfl⟩⟩
  have hAi : ¬ (n : Int) ≤ (at_ : Int) := by omega
  have hat : at_ < all.length := by rw [HH.out.2.1]; omega
  obtain ⟨b, o, xb, xo, cv, rfl, f1, hcv, hcv9, hHl, hbH⟩ := HH.out.1.nth HH.out.2.2 hat
  have f1 := cell_later HQ.out.2.2 f1
  have CT1 := Lib.hid (fun W (hb : Below w.heap.size w W) => isTitled_w _ _ 72 num W (hbH.later hb) hHl)
  have HBH := Lib.hid (And.intro hbH hHl)
  obtain ⟨H, hHe⟩ : ∃ H, H = all.getD at_ [] := ⟨_, rfl⟩
  have HHE := Lib.hid hHe
  rw [← hHe] at CT1 HBH
  have HT1 : Hid (∀ T, T = (decide (H.getD 0 0 = 72) && decide (Jr.num ((H.drop 1).take 8) = num)) → T = false → Jr.find all at_ num s from_ = none) := Lib.hid (fun T h1 h2 => by
    unfold Jr.find
    rw [if_neg]
    intro hf
    rw [h2] at h1
    have x1 := hf.2.2.1
    have x2 := hf.2.2.2.1
    rw [← HHE.out] at x1 x2
    rw [decide_eq_true x1, decide_eq_true x2] at h1
    cases h1)
  obtain ⟨T1, hT1⟩ : ∃ T, T = (decide (H.getD 0 0 = 72) && decide (Jr.num ((H.drop 1).take 8) = num)) := ⟨_, rfl⟩
  have HT1e := Lib.hid hT1
  rw [← hT1] at CT1
  clear hT1 hHe hbH hHl
  go_wp2_with fail
  refine (CT1.out _ HQ.out.2.2).mono ?_
  rintro e w9 ⟨rfl, rfl⟩
  cases T1 with
  | false =>
    go_wp2_with fail
    refine ret_three rfl s8 _ _ _ _ rfl (load_record HZ.out.1) rfl rfl ?_
    exact ⟨HZ.out.2, .inl ⟨HT1.out _ HT1e.out rfl, rfl⟩⟩
  | true =>
  obtain ⟨c, hce⟩ : ∃ c, c = Jr.count H := ⟨_, rfl⟩
  have HCE := Lib.hid hce
  have hx9 := cell_later HQ.out.2.2 (HBH.out.1.cellAt 9 (by rw [HBH.out.2]; decide))
  rw [show (H[9]'(by rw [HBH.out.2]; decide)).toNat = c from by rw [hce]; unfold Jr.count; rw [get0 9 (by rw [HBH.out.2]; decide)]] at hx9
  have hc256 : c < 256 := by rw [hce]; exact (H.getD 9 0).toNat_lt
  have hci : (c : Int) < 256 := by omega
  have hc0 : (0 : Int) ≤ (c : Int) := by omega
  clear hce CT1 hc256
  have HNF : Hid (∀ P : Prop, ¬ P → (Jr.found all at_ num s from_ → P) → Jr.find all at_ num s from_ = none) := Lib.hid (fun P hP hi => by
    unfold Jr.find
    exact if_neg (fun hf => hP (hi hf)))
  by_cases hc1 : c < 1
  · have hc1i : (c : Int) < 1 := by omega
    go_wp2_with fail
    refine ret_three rfl s8 _ _ _ _ rfl (load_record HZ.out.1) rfl rfl ?_
    exact ⟨HZ.out.2, .inl ⟨HNF.out (1 ≤ c) (by omega) (fun hf => by have := hf.2.2.2.2.1; rw [← HHE.out, ← HCE.out] at this; exact this), rfl⟩⟩
  have hc1i : ¬ (c : Int) < 1 := by omega
  by_cases hc2 : 10 < c
  · have hc2i : (10 : Int) < (c : Int) := by omega
    go_wp2_with fail
    refine ret_three rfl s8 _ _ _ _ rfl (load_record HZ.out.1) rfl rfl ?_
    exact ⟨HZ.out.2, .inl ⟨HNF.out (c ≤ 10) (by omega) (fun hf => by have := hf.2.2.2.2.2.1; rw [← HHE.out, ← HCE.out] at this; exact this), rfl⟩⟩
  have hc2i : ¬ (10 : Int) < (c : Int) := by omega
  by_cases hc3 : n ≤ at_ + 1 + c
  · have hc3i : (n : Int) ≤ (at_ : Int) + 1 + (c : Int) := by omega
    go_wp2_with fail
    refine ret_three rfl s8 _ _ _ _ rfl (load_record HZ.out.1) rfl rfl ?_
    exact ⟨HZ.out.2, .inl ⟨HNF.out (at_ + c + 1 < n) (by omega) (fun hf => by have := hf.2.2.2.2.2.2.1; rw [← HHE.out, ← HCE.out, HH.out.2.1] at this; exact this), rfl⟩⟩
  have hc3i : ¬ (n : Int) ≤ (at_ : Int) + 1 + (c : Int) := by omega
  have hft : at_ + 1 + c < all.length := by rw [HH.out.2.1]; omega
  obtain ⟨b', o', yb, yo, dv, hao, g1, hdv, hdv9, hFl, hbF⟩ := HH.out.1.nth HH.out.2.2 hft
  cases hao
  have g1 := cell_later HQ.out.2.2 g1
  have CT2 := Lib.hid (fun W (hb : Below w.heap.size w W) => isTitled_w _ _ 67 num W (hbF.later hb) hFl)
  obtain ⟨T2, hT2⟩ : ∃ T, T = (decide ((all.getD (at_ + 1 + c) []).getD 0 0 = 67) && decide (Jr.num (((all.getD (at_ + 1 + c) []).drop 1).take 8) = num)) := ⟨_, rfl⟩
  have HT2 := Lib.hid hT2
  rw [← hT2] at CT2
  obtain ⟨ft, hfte⟩ : ∃ ft, ft = at_ + 1 + c := ⟨_, rfl⟩
  have hfi : ((at_ : Int) + 1 + (c : Int)) = (ft : Int) := by omega
  have hfn : ft < n := by omega
  have hfni : ¬ (n : Int) ≤ (ft : Int) := by omega
  have hfn2 : (ft : Int) ≤ 1000 := by omega
  rw [← hfte] at g1
  have HFT := Lib.hid hfte
  clear hT2 hbF hFl hft hc3i hc3 hfte
  go_wp2_with fail
  refine (CT2.out _ HQ.out.2.2).mono ?_
  rintro e w9 ⟨rfl, rfl⟩
  cases T2 with
  | false =>
    go_wp2_with fail
    refine ret_three rfl s8 _ _ _ _ rfl (load_record HZ.out.1) rfl rfl ?_
    exact ⟨HZ.out.2, .inl ⟨HNF.out False (fun h => h) (fun hf => by
      have x1 := hf.2.2.2.2.2.2.2.1
      have x2 := hf.2.2.2.2.2.2.2.2.1
      have h9 := HT2.out
      rw [← HHE.out, ← HCE.out, show at_ + c + 1 = at_ + 1 + c by omega] at x1 x2
      rw [decide_eq_true x1, decide_eq_true x2] at h9
      cases h9), rfl⟩⟩
  | true =>
  have hnew := heap_alloc_new w1 (.cells #[.int .i64 num, .int .i64 (at_ : Int), .slice none 0 0] 77)
  have hba : Below w1.heap.size w1 (w1.alloc (.cells #[.int .i64 num, .int .i64 (at_ : Int), .slice none 0 0] 77)) := (Below.refl _ w1).alloc (Nat.le_refl _) _
  clear z0 z1 z2 HZ p2 CT2 g1 hx9
  go_upto_region 9 with fail
  obtain ⟨r, hr⟩ : ∃ r, r = w1.heap.size := ⟨_, rfl⟩
  rw [← hr] at hnew ⊢
  have q4 := (hba.block s4 (lt_of_block HQ.out.1)).trans HQ.out.1
  have q8 := (hba.block s8 (lt_of_block HQ.out.2.1)).trans HQ.out.2.1
  have hbw := bt5 HQ.out.2.2 hba
  have hr4 : r ≠ s4 := by have := lt_of_block HQ.out.1; omega
  have hr8 : r ≠ s8 := by have := lt_of_block HQ.out.2.1; omega
  have hrw : w.heap.size ≤ r := by have := HQ.out.2.2.size; omega
  generalize w1.alloc _ = w2 at *
  obtain ⟨G, hG⟩ : ∃ G : Nat → Prop, G = fun k => w.heap.size ≤ k := ⟨_, rfl⟩
  have HGG : Hid (∀ k, w.heap.size ≤ k → G k) := Lib.hid (fun k hk => by rw [hG]; exact hk)
  have HGL : Hid (∀ k, G k → w.heap.size ≤ k) := Lib.hid (fun k hk => by rw [hG] at hk; exact hk)
  have HGE := Lib.hid hG
  have HX := Lib.hid (And.intro hnew (And.intro q8 (And.intro q4 hbw)))
  have HR := Lib.hid (And.intro hr4 (And.intro hr8 hrw))
  have HCN := Lib.hid (And.intro hc1 hc2)
  have HFN := Lib.hid hfn
  clear hnew q8 q4 hbw hba hr hG hc1 hc2 hc1i hfi hfn hfni hfn2 hc2i
  go_wp2_with fail
  rename (1 ≤ (c : Int) ∧ (c : Int) ≤ 10) ∧ ¬ n ≤ ft => hxx
  clear hxx
  go_loopw [69] (fun i wr => ∃ (k : Nat) (vr : Value), k ≤ c ∧ i = .int .i64 k ∧ wr.heap[r]? = some (.cells #[.int .i64 num, .int .i64 (at_ : Int), vr] 77 (0, 0)) ∧ PRow G wr vr ((List.range k).map (Jr.putAt all at_)) ∧ (∀ i, i < k → Jr.outside (Jr.putAt all at_ i).1 s from_ n) ∧ wr.heap[s8]? = some (.cells #[.int .i64 0, .int .i64 0, .slice none 0 0] 77 (0, 0)) ∧ wr.heap[s4]? = some (.cells #[.pointer (some ⟨g, 0, none⟩), .int .i64 (from_ : Int), .int .i64 (n : Int)] 59 (0, 0)) ∧ Below w.heap.size w wr) (fun i _ => c - (intOf i).toNat)
  case atStart => exact ⟨0, _, Nat.zero_le _, rfl, HX.out.1, PRow.nil _ _, (fun i hi => absurd hi (Nat.not_lt_zero _)), HX.out.2⟩
  case round =>
    obtain ⟨k, vr, hk, rfl, hr, hP, hout, h8, h4, hbr⟩ := hrel
    clear HX
    by_cases hlt : k < c
    · have hki : (k : Int) < c := by omega
      have hk10 : k < 10 := by have := HCN.out.2; omega
      have hki10 : (k : Int) < 10 := by omega
      have hkl : at_ + 1 + k < all.length := by rw [HH.out.2.1]; have := HFT.out; have := HFN.out; omega
      obtain ⟨b', o', yb, yo, dv, hao, g1, hdv, hdv9, hKl, hbK⟩ := HH.out.1.nth HH.out.2.2 hkl
      cases hao
      have g1 := cell_later hbr g1
      obtain ⟨kt, hkte⟩ : ∃ kt, kt = at_ + 1 + k := ⟨_, rfl⟩
      have hkti : ((at_ : Int) + 1 + (k : Int)) = (kt : Int) := by omega
      have hktn : kt < n := by have := HFN.out; have := HFT.out; omega
      rw [← hkte] at g1
      have hK10 : 10 + 5 * k + 5 ≤ 64 := by omega
      have b1 := (HBH.out.1.later hbr).part HBH.out.2 hcv (10 + 5 * k) 4 (by omega) (by decide)
      have b2 := (HBH.out.1.later hbr).cellAt (10 + 5 * k + 4) (by rw [HBH.out.2]; omega)
      have CS := Lib.hid (fun W => slot_w xb xo cv k W hcv hk10 hcv9)
      have hput : Jr.putAt all at_ k = (Jr.unum ((H.drop (10 + 5 * k)).take 4), H.getD (10 + 5 * k + 4) 0 :: (all.getD (at_ + 1 + k) []).drop 1) := by
        unfold Jr.putAt
        rw [← HHE.out, show 14 + 5 * k = 10 + 5 * k + 4 by omega]
      have hge : H[10 + 5 * k + 4]'(by rw [HBH.out.2]; omega) = H.getD (10 + 5 * k + 4) 0 := (get0 _ (by rw [HBH.out.2]; omega)).symm
      rw [hge] at b2
      have CN := Lib.hid (fun W (hb : Below wr.heap.size wr W) => numeral_w _ _ W (b1.later hb))
      rw [Jr.num_small _ (by rw [List.length_take, List.length_drop]; omega)] at CN
      have CC := Lib.hid (fun W (hb : Below wr.heap.size wr W) => contents_w (H.getD (10 + 5 * k + 4) 0) _ _ W ((hbK.later hbr).later hb) hKl)
      have HSN := Lib.hid (show (List.range (k + 1)).map (Jr.putAt all at_) = (List.range k).map (Jr.putAt all at_) ++ [Jr.putAt all at_ k] by rw [List.range_succ, List.map_append]; rfl)
      have hll : ((List.range k).map (Jr.putAt all at_)).length = k := by rw [List.length_map, List.length_range]
      have hpo : Jr.outside (Jr.putAt all at_ k).1 s from_ n ↔ Jr.outside (Jr.unum ((H.drop (10 + 5 * k)).take 4)) s from_ n := by rw [hput]
      have HPO := Lib.hid hpo
      rw [hput] at HSN
      have COK := Lib.hid (fun W (hb : Below wr.heap.size wr W) => CO.out W (bt5 hbr hb) (Jr.unum ((H.drop (10 + 5 * k)).take 4)))
      generalize Jr.unum ((H.drop (10 + 5 * k)).take 4) = PA at *
      generalize H.getD (10 + 5 * k + 4) 0 = x0 at *
      generalize (all.getD (at_ + 1 + k) []).drop 1 = pt at *
      have HB2 := Lib.hid b2
      have HRR := Lib.hid (And.intro hr (And.intro hP (And.intro h8 (And.intro h4 (And.intro hbr hll)))))
      have HOUT := Lib.hid hout
      have HG1 := Lib.hid g1
      have HKT := Lib.hid (And.intro hkte hktn)
      clear b1 b2 hr hP h8 h4 hbr hll hout hput hge hpo hbK hKl hkl hK10 g1 f1 hkti hkte
      obtain ⟨OB, hOB⟩ : ∃ OB, OB = decide (Jr.outside PA s from_ n) := ⟨_, rfl⟩
      have HOB := Lib.hid hOB
      rw [← hOB] at COK
      clear hOB
      go_wp2_with fail
      refine (CS.out _).mono ?_
      rintro e w3 ⟨rfl, hb3⟩
      have h4 := (hb3.block s4 (lt_of_block HRR.out.2.2.2.1)).trans HRR.out.2.2.2.1
      have HB3 := Lib.hid hb3
      have HP4 := Lib.hid h4
      clear hb3 h4
      go_upto_region 13 with fail
      refine Rel.region_of (by kernel_rfl) [some 78, some 79, some 80, some 81, some 82] (by kernel_rfl) (by kernel_rfl) [.eq (.agg #[.pointer (some ⟨g, 0, none⟩), .int .i64 (from_ : Int), .int .i64 (n : Int)]), .eq (.slice (some ⟨xb, xo + (10 + 5 * k), none⟩) 4 (cv - (10 + 5 * k))), .eq (.int .i64 (PA : Int)), .eq (.bool OB), .eq (.bool !OB)] ⟨?_, ?_, ?_, ?_, ?_, trivial⟩ ?_
      · intro u w9 hb9 hd9
        clear hd9
        have q9 := (hb9.block s4 (lt_of_block HP4.out)).trans HP4.out
        have c90 := (blk_cell q9 0 _ rfl).1
        have c91 := (blk_cell q9 1 _ rfl).1
        have c92 := (blk_cell q9 2 _ rfl).1
        clear q9
        simp only [List.getElem_toArray, List.getElem_cons_zero, List.getElem_cons_succ] at c90 c91 c92
        refine ⟨?_⟩
        simp only [Rel.canD, List.take_zero]
        go_wp2_with fail
        exact ⟨rfl, rfl, Below.refl _ _, rfl⟩
      · intro u w9 hb9 hd9
        clear hd9
        refine ⟨?_⟩
        simp only [Rel.canD, List.take_succ_cons, List.take_zero, Nat.reduceAdd]
        go_wp2_with fail
        exact ⟨rfl, rfl, Below.refl _ _, rfl⟩
      · intro u w9 hb9 hd9
        have e1 : u 1 = .slice (some ⟨xb, xo + (10 + 5 * k), none⟩) 4 (cv - (10 + 5 * k)) := hd9 1 (by kernel_rfl)
        clear hd9
        have c9 := CN.out w9 (bt5 HB3.out hb9)
        refine ⟨?_⟩
        simp only [Rel.canD, List.take_succ_cons, List.take_zero, Nat.reduceAdd]
        go_wp2_with fail
        refine c9.mono ?_
        rintro e w8 ⟨rfl, rfl⟩
        go_wp2_with fail
        exact ⟨rfl, rfl, Below.refl _ _, rfl⟩
      · intro u w9 hb9 hd9
        have e0 : u 0 = .agg #[.pointer (some ⟨g, 0, none⟩), .int .i64 (from_ : Int), .int .i64 (n : Int)] := hd9 0 (by kernel_rfl)
        have e2 : u 2 = .int .i64 (PA : Int) := hd9 2 (by kernel_rfl)
        clear hd9
        have c9 := COK.out w9 (bt5 HB3.out hb9)
        refine ⟨?_⟩
        simp only [Rel.canD, List.take_succ_cons, List.take_zero, Nat.reduceAdd]
        go_wp2_with fail
        refine c9.mono ?_
        rintro e w8 ⟨rfl, hb8⟩
        go_wp2_with fail
        exact ⟨rfl, rfl, hb8, rfl⟩
      · intro u w9 hb9 hd9
        have e3 : u 3 = .bool OB := hd9 3 (by kernel_rfl)
        clear hd9
        refine ⟨?_⟩
        simp only [Rel.canD, List.take_succ_cons, List.take_zero, Nat.reduceAdd]
        go_wp2_with fail
        exact ⟨rfl, rfl, Below.refl _ _, rfl⟩
      intro u w9 hb9 hR9
      have h4 : u 4 = .bool !OB := hR9 4 (by decide)
      simp only [Rel.canD, Nat.reduceAdd, h4]
      have HB9 := Lib.hid (bt5 HB3.out hb9)
      clear hR9 hb9
      go_simp
      cases OB with
      | false =>
        have h8 := (HB9.out.block s8 (lt_of_block HRR.out.2.2.1)).trans HRR.out.2.2.1
        have e0 := blk_cell h8 0 (.int .i64 0) rfl
        have e1 := blk_cell h8 1 (.int .i64 0) rfl
        have e2 := blk_cell h8 2 (.slice none 0 0) rfl
        have hbw := bt5 HRR.out.2.2.2.2.1 HB9.out
        obtain ⟨n8, t8⟩ := set3 h8 (.int .i64 0) (.int .i64 0) (.slice none 0 0)
        have HX := Lib.hid (And.intro n8 (t8.below (fun k hk => by have := HE.out.2.1; omega : ∀ k, k = s8 → w.heap.size ≤ k) hbw hbw.size))
        clear h8 hbw n8 t8
        go_wp2_with fail
        refine ret_three rfl s8 _ _ _ _ rfl (load_record HX.out.1) rfl rfl ?_
        exact ⟨HX.out.2, .inl ⟨HNF.out False (fun h => h) (fun hf => by
          have x := hf.2.2.2.2.2.2.2.2.2 k (by rw [← HHE.out, ← HCE.out]; exact hlt)
          rw [HH.out.2.1] at x
          have y := HPO.out.1 x
          have z := HOB.out
          rw [decide_eq_true y] at z
          cases z), rfl⟩⟩
      | true =>
        obtain ⟨va, vc, hve, hvc, hvc9⟩ := HRR.out.2.1.shape
        have hr := (HB9.out.block r (lt_of_block HRR.out.1)).trans HRR.out.1
        have hP := HRR.out.2.1.later HB9.out
        have h8 := (HB9.out.block s8 (lt_of_block HRR.out.2.2.1)).trans HRR.out.2.2.1
        have h4 := (HB9.out.block s4 (lt_of_block HRR.out.2.2.2.1)).trans HRR.out.2.2.2.1
        have hbw := bt5 HRR.out.2.2.2.2.1 HB9.out
        rw [hve, HRR.out.2.2.2.2.2] at hr hP
        rw [HRR.out.2.2.2.2.2] at hvc
        have HB4 := Lib.hid HB9.out
        have HBW := Lib.hid hbw
        have g2 := (blk_cell hr 2 (.slice va k vc) rfl).1
        have b2 := cell_later HB4.out HB2.out
        have g1 := cell_later HB4.out HG1.out
        rw [← Nat.add_assoc] at b2
        have hkti : ((at_ : Int) + 1 + (k : Int)) = (kt : Int) := by have := HKT.out.1; omega
        have hktn := HKT.out.2
        have hktl : (kt : Int) < (n : Int) := by omega
        have HS := Lib.hid (And.intro hr (And.intro hP (And.intro h8 (And.intro h4 hbw))))
        clear hr hP h8 h4 hbw hve
        go_upto_region 15 with fail
        refine Rel.region_tail 17 (by kernel_rfl) [some 84, some 85, some 86, some 87, some 88, some 89, some 90, some 91, some 92, some 93, some 94, some 95, some 96, some 97, some 98, some 99, some 100, some 101, some 102, none] (by kernel_rfl) (by kernel_rfl) (by kernel_rfl) [.eq (.pointer (some ⟨r, 2, none⟩)), .eq (.slice va k vc), .eq (.slice (some ⟨xb, xo + (10 + 5 * k), none⟩) 4 (cv - (10 + 5 * k))), .eq (.int .i64 (PA : Int)), .eq (.slice (some ⟨xb, xo + (10 + 5 * k) + 4, none⟩) 1 (cv - (10 + 5 * k) - 4)), .eq (.pointer (some ⟨xb, xo + (10 + 5 * k) + 4, none⟩)), .eq (.int .u8 (x0.toNat : Int)), .eq (.slice (some ⟨b, o, none⟩) n cap), .eq (.int .i64 (at_ : Int)), .eq (.int .i64 ((at_ : Int) + 1)), .eq (.int .i64 (k : Int)), .eq (.int .i64 (kt : Int)), .eq (.pointer (some ⟨b, o + kt, none⟩)), .eq (.slice (some ⟨yb, yo, none⟩) 64 dv), ⟨fun v w => ∃ g c, v = .slice (some ⟨g, 0, none⟩) 64 c ∧ OBk G w v (x0 :: pt), fun _ _ _ h hb => by obtain ⟨g, c, h1, h2⟩ := h; exact ⟨g, c, h1, h2.later hb⟩⟩, ⟨fun v w => ∃ g c, v = .agg #[.int .i64 (PA : Int), .slice (some ⟨g, 0, none⟩) 64 c] ∧ OBk G w (.slice (some ⟨g, 0, none⟩) 64 c) (x0 :: pt), fun _ _ _ h hb => by obtain ⟨g, c, h1, h2⟩ := h; exact ⟨g, c, h1, h2.later hb⟩⟩, ⟨fun v w => ∃ s g c, v = .slice (some ⟨s, 0, none⟩) 1 1 ∧ w.heap[s]? = some (.cells #[.int .i64 (PA : Int), .slice (some ⟨g, 0, none⟩) 64 c] 37 (0, 0)) ∧ OBk G w (.slice (some ⟨g, 0, none⟩) 64 c) (x0 :: pt), fun _ _ _ h hb => by obtain ⟨s, g, c, h1, h2, h3⟩ := h; exact ⟨s, g, c, h1, (hb.block s (lt_of_block h2)).trans h2, h3.later hb⟩⟩] ⟨?_, ?_, ?_, ?_, ?_, ?_, ?_, ?_, ?_, ?_, ?_, ?_, ?_, ?_, ?_, ?_, ?_, trivial⟩ ?_
        · intro u w9 hb9 hd9
          clear hd9
          refine ⟨?_⟩
          simp only [Rel.canD, List.take_zero]
          go_wp2_with fail
          exact ⟨rfl, rfl, Below.refl _ _, rfl⟩
        · intro u w9 hb9 hd9
          have e0 : u 0 = .pointer (some ⟨r, 2, none⟩) := hd9 0 (by kernel_rfl)
          clear hd9
          have q9 := cell_later hb9 g2
          refine ⟨?_⟩
          simp only [Rel.canD, List.take_succ_cons, List.take_zero, Nat.reduceAdd]
          go_wp2_with fail
          exact ⟨rfl, rfl, Below.refl _ _, rfl⟩
        · intro u w9 hb9 hd9
          clear hd9
          refine ⟨?_⟩
          simp only [Rel.canD, List.take_succ_cons, List.take_zero, Nat.reduceAdd]
          go_wp2_with fail
          exact ⟨rfl, rfl, Below.refl _ _, rfl⟩
        · intro u w9 hb9 hd9
          have e2 : u 2 = .slice (some ⟨xb, xo + (10 + 5 * k), none⟩) 4 (cv - (10 + 5 * k)) := hd9 2 (by kernel_rfl)
          clear hd9
          have c9 := CN.out w9 (bt5 HB4.out hb9)
          refine ⟨?_⟩
          simp only [Rel.canD, List.take_succ_cons, List.take_zero, Nat.reduceAdd]
          go_wp2_with fail
          refine c9.mono ?_
          rintro e w8 ⟨rfl, rfl⟩
          go_wp2_with fail
          exact ⟨rfl, rfl, Below.refl _ _, rfl⟩
        · intro u w9 hb9 hd9
          clear hd9
          refine ⟨?_⟩
          simp only [Rel.canD, List.take_succ_cons, List.take_zero, Nat.reduceAdd]
          go_wp2_with fail
          exact ⟨rfl, rfl, Below.refl _ _, rfl⟩
        · intro u w9 hb9 hd9
          have e4 : u 4 = .slice (some ⟨xb, xo + (10 + 5 * k) + 4, none⟩) 1 (cv - (10 + 5 * k) - 4) := hd9 4 (by kernel_rfl)
          clear hd9
          refine ⟨?_⟩
          simp only [Rel.canD, List.take_succ_cons, List.take_zero, Nat.reduceAdd]
          go_wp2_with fail
          exact ⟨rfl, rfl, Below.refl _ _, rfl⟩
        · intro u w9 hb9 hd9
          have e5 : u 5 = .pointer (some ⟨xb, xo + (10 + 5 * k) + 4, none⟩) := hd9 5 (by kernel_rfl)
          clear hd9
          have q9 := cell_later hb9 b2
          refine ⟨?_⟩
          simp only [Rel.canD, List.take_succ_cons, List.take_zero, Nat.reduceAdd]
          go_wp2_with fail
          exact ⟨rfl, rfl, Below.refl _ _, rfl⟩
        · intro u w9 hb9 hd9
          clear hd9
          refine ⟨?_⟩
          simp only [Rel.canD, List.take_succ_cons, List.take_zero, Nat.reduceAdd]
          go_wp2_with fail
          exact ⟨rfl, rfl, Below.refl _ _, rfl⟩
        · intro u w9 hb9 hd9
          clear hd9
          refine ⟨?_⟩
          simp only [Rel.canD, List.take_succ_cons, List.take_zero, Nat.reduceAdd]
          go_wp2_with fail
          exact ⟨rfl, rfl, Below.refl _ _, rfl⟩
        · intro u w9 hb9 hd9
          have e8 : u 8 = .int .i64 (at_ : Int) := hd9 8 (by kernel_rfl)
          clear hd9
          refine ⟨?_⟩
          simp only [Rel.canD, List.take_succ_cons, List.take_zero, Nat.reduceAdd]
          go_wp2_with fail
          exact ⟨rfl, rfl, Below.refl _ _, rfl⟩
        · intro u w9 hb9 hd9
          clear hd9
          refine ⟨?_⟩
          simp only [Rel.canD, List.take_succ_cons, List.take_zero, Nat.reduceAdd]
          go_wp2_with fail
          exact ⟨rfl, rfl, Below.refl _ _, rfl⟩
        · intro u w9 hb9 hd9
          have e9 : u 9 = .int .i64 ((at_ : Int) + 1) := hd9 9 (by kernel_rfl)
          have e10 : u 10 = .int .i64 (k : Int) := hd9 10 (by kernel_rfl)
          clear hd9
          refine ⟨?_⟩
          simp only [Rel.canD, List.take_succ_cons, List.take_zero, Nat.reduceAdd]
          go_wp2_with fail
          exact ⟨rfl, rfl, Below.refl _ _, rfl⟩
        · intro u w9 hb9 hd9
          have e7 : u 7 = .slice (some ⟨b, o, none⟩) n cap := hd9 7 (by kernel_rfl)
          have e11 : u 11 = .int .i64 (kt : Int) := hd9 11 (by kernel_rfl)
          clear hd9
          refine ⟨?_⟩
          simp only [Rel.canD, List.take_succ_cons, List.take_zero, Nat.reduceAdd]
          go_wp2_with fail
          exact ⟨rfl, rfl, Below.refl _ _, rfl⟩
        · intro u w9 hb9 hd9
          have e12 : u 12 = .pointer (some ⟨b, o + kt, none⟩) := hd9 12 (by kernel_rfl)
          clear hd9
          have q9 := cell_later hb9 g1
          refine ⟨?_⟩
          simp only [Rel.canD, List.take_succ_cons, List.take_zero, Nat.reduceAdd]
          go_wp2_with fail
          exact ⟨rfl, rfl, Below.refl _ _, rfl⟩
        · intro u w9 hb9 hd9
          have e6 : u 6 = .int .u8 (x0.toNat : Int) := hd9 6 (by kernel_rfl)
          have e13 : u 13 = .slice (some ⟨yb, yo, none⟩) 64 dv := hd9 13 (by kernel_rfl)
          clear hd9
          have c9 := CC.out w9 (bt5 HB4.out hb9)
          have hsz := (bt5 HBW.out hb9).size
          refine ⟨?_⟩
          simp only [Rel.canD, List.take_succ_cons, List.take_zero, Nat.reduceAdd]
          go_wp2_with fail
          refine c9.mono ?_
          rintro e w8 ⟨g, c, rfl, h8⟩
          have h7 : OBk G w8 (.slice (some ⟨g, 0, none⟩) 64 c) (x0 :: pt) := h8.obk (by simp) (fun k hk => HGG.out k (Nat.le_trans hsz hk))
          have h6 := h8.below
          clear h8 c9
          go_wp2_with fail
          exact ⟨rfl, rfl, h6, g, c, rfl, h7⟩
        · intro u w9 hb9 hd9
          have e3 : u 3 = .int .i64 (PA : Int) := hd9 3 (by kernel_rfl)
          have e14 := hd9 14 (by kernel_rfl)
          clear hd9
          obtain ⟨g, c, e14x, h10x⟩ := e14
          rw [e14x] at h10x
          refine ⟨?_⟩
          simp only [Rel.canD, List.take_succ_cons, List.take_zero, Nat.reduceAdd]
          go_wp2_with fail
          exact ⟨rfl, rfl, Below.refl _ _, g, c, rfl, h10x⟩
        · intro u w9 hb9 hd9
          have e15 := hd9 15 (by kernel_rfl)
          clear hd9
          obtain ⟨g, c, e15x, h11⟩ := e15
          have hbx : Below w9.heap.size w9 (w9.alloc (.cells #[.int .i64 (PA : Int), .slice (some ⟨g, 0, none⟩) 64 c] 37)) := (Below.refl _ w9).alloc (Nat.le_refl _) _
          have hnx := heap_alloc_new w9 (.cells #[.int .i64 (PA : Int), .slice (some ⟨g, 0, none⟩) 64 c] 37)
          have h12 := h11.later hbx
          refine ⟨?_⟩
          simp only [Rel.canD, List.take_succ_cons, List.take_zero, Nat.reduceAdd]
          go_wp2_with fail
          exact ⟨rfl, rfl, hbx, w9.heap.size, g, c, rfl, hnx, h12⟩
        intro u w9 hb9 hR9
        simp only [Rel.canD, Nat.reduceAdd, List.take_succ_cons, List.take_zero, List.drop_succ_cons, List.drop_zero]
        obtain ⟨sx, gx, cx, h16, hs9, hy9⟩ := hR9 16 (by decide)
        have h1 : u 1 = .slice va k vc := hR9 1 (by decide)
        rw [h16, h1]
        have hr9 := (hb9.block r (lt_of_block HS.out.1)).trans HS.out.1
        have hP9 := HS.out.2.1.later hb9
        have h89 := (hb9.block s8 (lt_of_block HS.out.2.2.1)).trans HS.out.2.2.1
        have h49 := (hb9.block s4 (lt_of_block HS.out.2.2.2.1)).trans HS.out.2.2.2.1
        have hbw9 := bt5 HS.out.2.2.2.2 hb9
        have HX := Lib.hid (And.intro hP9 (And.intro hr9 (And.intro h89 (And.intro h49 hbw9))))
        have HS9 := Lib.hid (And.intro hs9 hy9)
        have HG9 : Hid (∀ k, w9.heap.size ≤ k → G k) := Lib.hid (fun k hk => HGG.out k (Nat.le_trans hbw9.size hk))
        clear hP9 hr9 h89 h49 hbw9 hs9 hy9 hb9 hR9 g2 b2 g1 hkti hktn hktl
        go_simp
        refine PRow.app (p := (PA, x0 :: pt)) HX.out.1 HS9.out.1 HS9.out.2 (by rw [HRR.out.2.2.2.2.2]; omega) HG9.out rfl (.tmp 85) (.tmp 100) rfl rfl rfl ?_
        intro v7 w7 hS7 hg7
        have hrow : ∀ (q : Nat) (C : Array Value) (T : TypeId) (f : Nat × Nat), w9.heap[q]? = some (Obj.cells C T f) → T ≠ 37 → w7.heap[q]? = w9.heap[q]? := fun q C T f hC hT => hg7.block q (lt_of_block hC) (fun e => by
          obtain ⟨C9, hC9⟩ := HX.out.1.type e.symm
          exact ne_block hC hC9 hT rfl)
        have hr7 := (hrow r _ _ _ HX.out.2.1 (by decide)).trans HX.out.2.1
        have h87 := (hrow s8 _ _ _ HX.out.2.2.1 (by decide)).trans HX.out.2.2.1
        have h47 := (hrow s4 _ _ _ HX.out.2.2.2.1 (by decide)).trans HX.out.2.2.2.1
        have hb7 : Below w.heap.size w w7 := HX.out.2.2.2.2.grown hg7 HX.out.2.2.2.2.size (HX.out.1.own HGL.out)
        rw [← HSN.out] at hS7
        have hl7 : ((List.range (k + 1)).map (Jr.putAt all at_)).length = k + 1 := by rw [List.length_map, List.length_range]
        obtain ⟨va7, vc7, rfl, hvc7, hvc79⟩ := hS7.shape
        rw [hl7] at hS7 hvc7 ⊢
        obtain ⟨e2, f2⟩ := blk_cell hr7 2 (.slice va k vc) rfl
        have hr8 := heap_setCell_same w7 r 2 _ _ (.slice va7 (k + 1) vc7) hr7
        have hS8 : PRow G (w7.setCell ⟨r, 2, none⟩ (.slice va7 (k + 1) vc7)) (.slice va7 (k + 1) vc7) ((List.range (k + 1)).map (Jr.putAt all at_)) := hS7.keepT (fun _ h => h) (fun k9 C T f _ hc hT => heap_setCell_other w7 ⟨r, 2, none⟩ k9 _ (fun e => by
          have e9 : k9 = r := e
          subst e9
          rw [hr7] at hc
          cases hc
          rcases hT with h | h
          · exact absurd h (by decide)
          · exact absurd h (by decide)))
        have h88 := (heap_setCell_other w7 ⟨r, 2, none⟩ s8 (.slice va7 (k + 1) vc7) (fun e => HR.out.2.1 (show s8 = r from e).symm)).trans h87
        have h48 := (heap_setCell_other w7 ⟨r, 2, none⟩ s4 (.slice va7 (k + 1) vc7) (fun e => HR.out.1 (show s4 = r from e).symm)).trans h47
        have HR8 := Lib.hid (And.intro hr8 (And.intro hS8 (And.intro (show ∀ i, i < k + 1 → Jr.outside (Jr.putAt all at_ i).1 s from_ n from fun i hi => by
          by_cases hik : i < k
          · exact HOUT.out i hik
          · have e : i = k := by omega
            rw [e]
            exact HPO.out.2 (of_decide_eq_true HOB.out.symm)) (And.intro h88 (And.intro h48 (set_below (k := 2) (v := .slice va7 (k + 1) vc7) hb7 HR.out.2.2))))))
        clear hr8 hS8 h88 h48 hr7 hS7 h87 h47 hb7 hg7 hrow HX HS9
        go_wp2_with fail
        go_roundw
        case rel => exact ⟨k + 1, _, by omega, by go_num, HR8.out⟩
        case measure => simp [intOf]; omega
    · have hki : ¬ (k : Int) < c := by omega
      have hkc : k = c := by omega
      have hfnd : Jr.find all at_ num s from_ = some ((List.range k).map (Jr.putAt all at_)) := by
        unfold Jr.find
        rw [if_pos, ← HHE.out, ← HCE.out, hkc]
        have x1 := HT1e.out
        have x2 := HT2.out
        simp only [Bool.and_eq_true, decide_eq_true_eq, eq_comm (a := true)] at x1 x2
        have hcc := HCN.out
        unfold Jr.found
        rw [← HHE.out, ← HCE.out, show at_ + c + 1 = at_ + 1 + c by omega, HH.out.2.1]
        exact ⟨h2, by omega, x1.1, x1.2, by omega, by omega, by have := HFN.out; have := HFT.out; omega, x2.1, x2.2, fun i hi => hout i (by omega)⟩
      have HF9 := Lib.hid hfnd
      obtain ⟨va, vc, rfl, hvc, hvc9⟩ := hP.shape
      obtain ⟨LL, hLL⟩ : ∃ LL, LL = ((List.range k).map (Jr.putAt all at_)).length := ⟨_, rfl⟩
      rw [← hLL] at hr hP hvc
      have d0 := (blk_cell hr 0 (.int .i64 num) rfl).1
      have d1 := (blk_cell hr 1 (.int .i64 (at_ : Int)) rfl).1
      have d2 := (blk_cell hr 2 (.slice va LL vc) rfl).1
      have e0 := blk_cell h8 0 (.int .i64 0) rfl
      have e1 := blk_cell h8 1 (.int .i64 0) rfl
      have e2 := blk_cell h8 2 (.slice none 0 0) rfl
      obtain ⟨n8, t8⟩ := set3 h8 (.int .i64 num) (.int .i64 (at_ : Int)) (.slice va LL vc)
      have HX := Lib.hid (And.intro n8 (And.intro (t8.below (fun k hk => by have := HE.out.2.1; omega : ∀ k, k = s8 → w.heap.size ≤ k) hbr hbr.size) (hP.keepT (fun _ h => h) (fun k9 C T f _ hc hT => t8.block k9 (lt_of_block hc) (fun e => by
        subst e
        rw [h8] at hc
        cases hc
        rcases hT with h | h
        · exact absurd h (by decide)
        · exact absurd h (by decide))))))
      clear hr hP h8 h4 hbr hlt hk hout hfnd n8 t8 hkc hLL
      go_wp2_with fail
      refine ret_three rfl s8 _ _ _ _ rfl (load_record HX.out.1) rfl rfl ?_
      exact ⟨HX.out.2.1, .inr ⟨(List.range k).map (Jr.putAt all at_), HF9.out, .slice va LL vc, rfl, by rw [← HGE.out]; exact HX.out.2.2⟩⟩
end Go.Proofs.Ytjdmmnpfjbnhoaa
