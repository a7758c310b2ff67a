/- Package journal, the program: a transaction's record, on the first of two sectors. -/
import Derived.Test.YtjdmmnpfjbnhoaaJvM
namespace Go.Proofs.Ytjdmmnpfjbnhoaa
open Go.RowKit

set_option maxHeartbeats 6400000 in
set_option maxRecDepth 100000 in
theorem find_w (g from_ n a b : Nat) (num : Int) (d : Dv.S) (F : Nat → Prop) (v : Value) (all : List Dv.Sec) (w : World) (hD : Dev13 w g d F) (h : BsIn w v all) (hl : all.length = n) (h64 : ∀ x ∈ all, x.length = 64) (hn : n ≤ 1000) (hf : from_ ≤ 100000) (h2 : 2 ≤ a) (ha : a ≤ 1000)
    (hb : w.heap[b]? = some (.cells #[.int .i64 (a : Int), .int .i64 2] 3 (0, 0))) :
    Calls Try.prog 48 #[.agg #[.pointer (some ⟨g, 0, none⟩), .int .i64 (from_ : Int), .int .i64 (n : Int)], v, .int .i64 num, .slice (some ⟨b, 0, none⟩) 2 2] w fun e w' => Below w.heap.size w w' ∧
      ((Jr.find all a num d.safe.length from_ = none ∧ Jr.find all 2 num d.safe.length from_ = none ∧ e = .returned (.tuple #[.agg #[.int .i64 0, .int .i64 0, .slice none 0 0], .bool false])) ∨
       ∃ (ps : List Jr.Put) (vr : Value) (a' : Nat), Jr.find all a' num d.safe.length from_ = some ps ∧ (a' = a ∨ (a' = 2 ∧ Jr.find all a num d.safe.length from_ = none)) ∧ e = .returned (.tuple #[.agg #[.int .i64 num, .int .i64 (a' : Int), vr], .bool true]) ∧ PRow (fun k => w.heap.size ≤ k) w' vr ps) := by
  obtain ⟨ao, cap, rfl, hc, hc9, -⟩ := id h
  rw [hl] at hc h ⊢
  obtain ⟨s, hs⟩ : ∃ s, s = d.safe.length := ⟨_, rfl⟩
  have CR := Lib.hid (fun W (hb : Below w.heap.size w W) (ak : Nat) (h2 : 2 ≤ ak) (h3 : ak ≤ 1000) => recordOn_w g from_ n ak num d F _ all W (hD.later hb) (h.later hb) hl h64 hn hf h2 h3)
  rw [← hs] at CR ⊢
  have HA := Lib.hid (And.intro h2 ha)
  have hbl := lt_of_block hb
  have HBC := Lib.hid hb
  have q8 := heap_alloc2_new w (.cells #[.pointer (some ⟨g, 0, none⟩), .int .i64 (from_ : Int), .int .i64 (n : Int)] 59) (.cells #[.int .i64 0, .int .i64 0, .slice none 0 0] 77)
  have q4 : ((w.alloc (.cells #[.pointer (some ⟨g, 0, none⟩), .int .i64 (from_ : Int), .int .i64 (n : Int)] 59)).alloc (.cells #[.int .i64 0, .int .i64 0, .slice none 0 0] 77)).heap[w.heap.size]? = some (.cells #[.pointer (some ⟨g, 0, none⟩), .int .i64 (from_ : Int), .int .i64 (n : Int)] 59 (0, 0)) := by
    rw [((Below.refl _ _).alloc (Nat.le_refl _) _ : Below (w.alloc (.cells #[.pointer (some ⟨g, 0, none⟩), .int .i64 (from_ : Int), .int .i64 (n : Int)] 59)).heap.size (w.alloc (.cells #[.pointer (some ⟨g, 0, none⟩), .int .i64 (from_ : Int), .int .i64 (n : Int)] 59)) _).block w.heap.size (by simp)]
    exact heap_alloc_new w _
  have hb2 : Below w.heap.size w ((w.alloc (.cells #[.pointer (some ⟨g, 0, none⟩), .int .i64 (from_ : Int), .int .i64 (n : Int)] 59)).alloc (.cells #[.int .i64 0, .int .i64 0, .slice none 0 0] 77)) := ((Below.refl _ w).alloc (Nat.le_refl _) _).alloc (by simp) _
  clear h hl h64 hD hs hf h2 ha hb
  go_enter Try.func48, Try.ntmps48
  go_upto_region 1 with fail
  obtain ⟨s4, e4⟩ : ∃ s, s = w.heap.size := ⟨_, rfl⟩
  obtain ⟨s8, e8⟩ : ∃ s, s = w.heap.size + 1 := ⟨_, rfl⟩
  rw [← e8] at q8 ⊢
  rw [← e4] at q4 ⊢
  generalize (w.alloc _).alloc _ = w1 at *
  have HQ := Lib.hid (And.intro q8 (And.intro q4 hb2))
  have HE := Lib.hid (And.intro e4 e8)
  have h48 : s4 ≠ s8 := by omega
  clear q4 q8 hb2 e4 e8
  go_wp2_with fail
  go_loopw [16] (fun i wr => ∃ k : Nat, k ≤ 2 ∧ i = .int .i64 k ∧ (1 ≤ k → Jr.find all a num s from_ = none) ∧ (2 ≤ k → Jr.find all 2 num s from_ = none) ∧ wr.heap[s8]? = some (.cells #[.int .i64 0, .int .i64 0, .slice none 0 0] 77 (0, 0)) ∧ wr.heap[s4]? = some (.cells #[.pointer (some ⟨g, 0, none⟩), .int .i64 (from_ : Int), .int .i64 (n : Int)] 59 (0, 0)) ∧ Below w.heap.size w wr) (fun i _ => 2 - (intOf i).toNat)
  case atStart => exact ⟨0, by decide, rfl, (fun h => absurd h (by decide)), (fun h => absurd h (by decide)), HQ.out⟩
  case round =>
    obtain ⟨k, hk, rfl, hN1, hN2, h8, h4, hbr⟩ := hrel
    by_cases hlt : k < 2
    · have hki : (k : Int) < 2 := by omega
      obtain ⟨ak, hak, hca, ha2, ha9⟩ : ∃ ak : Nat, (k = 0 ∧ ak = a ∨ k = 1 ∧ ak = 2) ∧ w.cell? ⟨b, k, none⟩ = some (.int .i64 (ak : Int)) ∧ 2 ≤ ak ∧ ak ≤ 1000 := by
        rcases (show k = 0 ∨ k = 1 by omega) with rfl | rfl
        · exact ⟨a, .inl ⟨rfl, rfl⟩, (blk_cell HBC.out 0 _ rfl).1, HA.out.1, HA.out.2⟩
        · exact ⟨2, .inr ⟨rfl, rfl⟩, (blk_cell HBC.out 1 _ rfl).1, by decide, by decide⟩
      have hca := cell_later hbr hca
      have p0 := (blk_cell h4 0 (.pointer (some ⟨g, 0, none⟩)) rfl).1
      have p1 := (blk_cell h4 1 (.int .i64 (from_ : Int)) rfl).1
      have p2 := (blk_cell h4 2 (.int .i64 (n : Int)) rfl).1
      have cR := CR.out wr hbr ak ha2 ha9
      have HK := Lib.hid (And.intro hak (And.intro hN1 hN2))
      have HR := Lib.hid (And.intro h8 (And.intro h4 hbr))
      clear hak hN1 hN2 h8 h4 hbr ha2 ha9
      go_wp2_with fail
      refine cR.mono ?_
      rintro e w2 ⟨hb2, (⟨hf, rfl⟩ | ⟨ps, vr, hf, rfl, hP⟩)⟩
      · have hba : Below w2.heap.size w2 (w2.alloc (.cells #[.int .i64 0, .int .i64 0, .slice none 0 0] 77)) := (Below.refl _ w2).alloc (Nat.le_refl _) _
        have hb23 := bt5 hb2 hba
        have HX := Lib.hid (And.intro ((hb23.block s8 (lt_of_block HR.out.1)).trans HR.out.1) (And.intro ((hb23.block s4 (lt_of_block HR.out.2.1)).trans HR.out.2.1) (bt5 HR.out.2.2 hb23)))
        have HNF : Hid ((1 ≤ k + 1 → Jr.find all a num s from_ = none) ∧ (2 ≤ k + 1 → Jr.find all 2 num s from_ = none)) := Lib.hid (by
          obtain ⟨hak, hN1, hN2⟩ := HK.out
          rcases hak with ⟨rfl, rfl⟩ | ⟨rfl, rfl⟩
          · exact ⟨fun _ => hf, fun h => absurd h (by decide)⟩
          · exact ⟨fun _ => hN1 (by decide), fun _ => hf⟩)
        clear p0 p1 p2 hca cR hb2 hf hba hb23
        go_wp2_with fail
        go_roundw
        case rel => exact ⟨k + 1, by omega, by go_num, HNF.out.1, HNF.out.2, HX.out⟩
        case measure => simp [intOf]; omega
      · obtain ⟨va, vc, hve, hvc, hvc9⟩ := hP.shape
        obtain ⟨LL, hLL⟩ : ∃ LL, LL = ps.length := ⟨_, rfl⟩
        rw [← hLL] at hve hvc
        subst hve
        clear hLL
        have hnew := heap_alloc_new w2 (.cells #[.int .i64 num, .int .i64 (ak : Int), .slice va LL vc] 77)
        have hba : Below w2.heap.size w2 (w2.alloc (.cells #[.int .i64 num, .int .i64 (ak : Int), .slice va LL vc] 77)) := (Below.refl _ w2).alloc (Nat.le_refl _) _
        have hb23 := bt5 hb2 hba
        have h8 := (hb23.block s8 (lt_of_block HR.out.1)).trans HR.out.1
        have hbw := bt5 HR.out.2.2 hb23
        have hP3 := (hP.later hba).keep (G' := fun k => w.heap.size ≤ k) (fun k hk => Nat.le_trans HR.out.2.2.size hk) (fun _ _ _ => rfl)
        have h8l := lt_of_block HR.out.1
        have hsz := hb2.size
        go_upto_region 5 with fail
        obtain ⟨r, hre⟩ : ∃ r, r = w2.heap.size := ⟨_, rfl⟩
        rw [← hre] at hnew ⊢
        have hr8 : r ≠ s8 := by omega
        generalize w2.alloc _ = w3 at *
        have m0 := (blk_cell hnew 0 (.int .i64 num) rfl).1
        have m1 := (blk_cell hnew 1 (.int .i64 (ak : Int)) rfl).1
        have m2 := (blk_cell hnew 2 (.slice va LL vc) rfl).1
        have e0 := blk_cell h8 0 (.int .i64 0) rfl
        have e1 := blk_cell h8 1 (.int .i64 0) rfl
        have e2 := blk_cell h8 2 (.slice none 0 0) rfl
        obtain ⟨n8, t8⟩ := set3 h8 (.int .i64 num) (.int .i64 (ak : Int)) (.slice va LL vc)
        have HX := Lib.hid (And.intro n8 (And.intro (t8.below (fun k hk => by have := HE.out.2; omega : ∀ k, k = s8 → w.heap.size ≤ k) hbw hbw.size) (hP3.keepT (fun _ h => h) (fun k9 C T f _ hc hT => t8.block k9 (lt_of_block hc) (fun e => by
          subst e
          rw [h8] at hc
          cases hc
          rcases hT with h | h
          · exact absurd h (by decide)
          · exact absurd h (by decide))))))
        have HF := Lib.hid hf
        clear p0 p1 p2 hca cR hb2 hf hba hb23 hP hP3 h8 hbw hnew n8 t8 h8l hsz hre
        go_wp2_with fail
        refine ret_three rfl s8 _ _ _ _ rfl (load_record HX.out.1) rfl rfl ?_
        refine ⟨HX.out.2.1, .inr ?_⟩
        refine ⟨ps, .slice va LL vc, ak, HF.out, ?_, rfl, HX.out.2.2⟩
        rcases HK.out.1 with ⟨_, h⟩ | ⟨hk1, h⟩
        · exact .inl h
        · exact .inr ⟨h, HK.out.2.1 (by omega)⟩
    · have hki : ¬ (k : Int) < 2 := by omega
      obtain rfl : k = 2 := by omega
      have HX := Lib.hid (And.intro (hN1 (by decide)) (hN2 (by decide)))
      have e0 := blk_cell h8 0 (.int .i64 0) rfl
      have e1 := blk_cell h8 1 (.int .i64 0) rfl
      have e2 := blk_cell h8 2 (.slice none 0 0) rfl
      obtain ⟨n8, t8⟩ := set3 h8 (.int .i64 0) (.int .i64 0) (.slice none 0 0)
      have HY := Lib.hid (And.intro n8 (t8.below (fun k hk => by have := HE.out.2; omega : ∀ k, k = s8 → w.heap.size ≤ k) hbr hbr.size))
      clear h8 h4 hbr n8 t8 hN1 hN2 hlt hk
      go_wp2_with fail
      refine ret_three rfl s8 _ _ _ _ rfl (load_record HY.out.1) rfl rfl ?_
      exact ⟨HY.out.2, .inl ⟨HX.out.1, HX.out.2, rfl⟩⟩
end Go.Proofs.Ytjdmmnpfjbnhoaa
