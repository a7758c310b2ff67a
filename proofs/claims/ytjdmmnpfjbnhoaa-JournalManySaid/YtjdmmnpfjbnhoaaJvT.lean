/- Package journal, the program: a journal takes a record as its latest one. -/
import Derived.Test.YtjdmmnpfjbnhoaaJvO
import Derived.Test.YtjdmmnpfjbnhoaaRelU
import Derived.Test.YtjdmmnpfjbnhoaaRelE
namespace Go.Proofs.Ytjdmmnpfjbnhoaa
open Go.RowKit

theorem Recs.other {w w' : World} {G : Nat → Prop} {v : Value} {rs : List Rec} (h : Recs G w v rs) (hg : w.grownBy w' v.ownBlock) {k : Nat} {C : Array Value} {T : TypeId} {f : Nat × Nat} (hk : w.heap[k]? = some (.cells C T f)) (hT : T ≠ 77) : w'.heap[k]? = some (.cells C T f) :=
  (hg.block k (lt_of_block hk) (fun e => by
    obtain ⟨C9, hC9⟩ := h.type e.symm
    exact ne_block hk hC9 hT rfl)).trans hk
set_option maxHeartbeats 12800000 in
set_option maxRecDepth 100000 in
theorem add_w (q g from_ n at_ : Nat) (m next : Int) (G : Nat → Prop) (rs : List Rec) (x : Rec) (ao : Option Addr) (c : Nat) (w : World) (h : JIn w q g G from_ n m next at_ rs) (hx : PRow G w (.slice ao x.2.2.length c) x.2.2) (hl : rs.length ≤ 1000000) (hn : -1000000 ≤ next ∧ next ≤ 1000000) (ha : x.2.1 ≤ 1000000) (hp : x.2.2.length ≤ 1000000) (hG : ∀ k, w.heap.size ≤ k → G k) :
    Calls Try.prog 37 #[.pointer (some ⟨q, 0, none⟩), .agg #[.int .i64 x.1, .int .i64 (x.2.1 : Int), .slice ao x.2.2.length c]] w fun e w' => e = .returned (.tuple #[]) ∧ JIn w' q g G from_ n m (next + 1) (x.2.1 + x.2.2.length + 2) (rs ++ [x]) ∧ Touch G w w' := by
  obtain ⟨⟨ov, hq, hR⟩, hGq⟩ := h
  obtain ⟨N, X, ps⟩ := x
  simp only at hx ha hp ⊢
  obtain ⟨pl, hpl⟩ : ∃ pl, pl = ps.length := ⟨_, rfl⟩
  rw [← hpl] at hx hp ⊢
  have hr := heap_alloc_new w (.cells #[.int .i64 N, .int .i64 (X : Int), .slice ao pl c] 77)
  have hb0 : Below w.heap.size w (w.alloc (.cells #[.int .i64 N, .int .i64 (X : Int), .slice ao pl c] 77)) := (Below.refl _ w).alloc (Nat.le_refl _) _
  have CE := Lib.hid (fun W => end_w (.int .i64 N) X pl c ao W ha hp)
  have HN := Lib.hid hn
  have hnw : IntKind.i64.wrap (next + 1) = next + 1 := by rw [IntKind.wrap_i64]; omega
  have HW := Lib.hid hnw
  have HPL := Lib.hid hpl
  have HL := Lib.hid hl
  clear hn hnw hpl ha hp hl
  go_enter Try.func37, Try.ntmps37
  go_upto_region 1 with fail
  obtain ⟨s3, e3⟩ : ∃ s, s = w.heap.size := ⟨_, rfl⟩
  rw [← e3] at hr ⊢
  generalize w.alloc _ = w1 at hr hb0 ⊢
  have hq1 := (hb0.block q (lt_of_block hq)).trans hq
  have hR1 : Recs G w1 ov rs := hR.keep (fun _ h => h) (fun k _ hk => hb0.block k hk)
  have hx1 := hx.later hb0
  have hq3 : q ≠ s3 := fun e => by have := lt_of_block hq; omega
  have HQ := Lib.hid (And.intro hq1 (And.intro hr hb0))
  have HR := Lib.hid (And.intro hR1 hx1)
  have HE := Lib.hid (And.intro e3 (And.intro hq3 hGq))
  have HG := Lib.hid hG
  have HOL : Hid (∀ k, ov.ownBlock = some k → G k ∧ k ≠ s3) := Lib.hid (fun k hk => ⟨hR.choose_spec.2.2.1 k hk, fun e => by
    obtain ⟨C, hC⟩ := hR.type hk
    have := lt_of_block hC
    omega⟩)
  clear hq hR hx hq1 hr hb0 hR1 hx1 e3 hq3 hGq hG
  refine Rel.region_tail1 7 (.pointer (some ⟨q, 0, none⟩)) (by kernel_rfl) [some 4, some 5, some 6, some 7, some 8, some 9, some 10, some 11, some 12, some 13, none] (by kernel_rfl) (by kernel_rfl) (by decide) (by kernel_rfl) [.eq (.pointer (some ⟨q, 0, none⟩)), .eq (.pointer (some ⟨q, 0, none⟩)), .eq (.pointer (some ⟨q, 0, none⟩)), .eq (.pointer (some ⟨q, 6, none⟩)), .eq (ov), .eq (.agg #[.int .i64 N, .int .i64 (X : Int), .slice ao pl c]), ⟨fun v w => ∃ s, v = .slice (some ⟨s, 0, none⟩) 1 1 ∧ w.heap[s]? = some (.cells #[.int .i64 N, .int .i64 (X : Int), .slice ao pl c] 77 (0, 0)), fun _ _ _ h hb => by obtain ⟨s, h1, h2⟩ := h; exact ⟨s, h1, (hb.block s (lt_of_block h2)).trans h2⟩⟩] (fun o ho => by cases ho; exact .inl ⟨rfl, fun _ => rfl⟩) (fun _ => rfl) ⟨?_, ?_, ?_, ?_, ?_, ?_, ?_, trivial⟩ ?_
  · intro u w9 hb9 hd9
    clear hd9
    refine ⟨?_⟩
    simp only [Rel.canD, List.take_zero]
    go_wp2_with fail
    exact ⟨rfl, rfl, Below.refl _ _, rfl⟩
  · intro u w9 hb9 hd9
    clear hd9
    refine ⟨?_⟩
    simp only [Rel.canD, List.take_succ_cons, List.take_zero, Nat.reduceAdd]
    go_wp2_with fail
    exact ⟨rfl, rfl, Below.refl _ _, rfl⟩
  · intro u w9 hb9 hd9
    have e1 : u 1 = .pointer (some ⟨q, 0, none⟩) := hd9 1 (by kernel_rfl)
    clear hd9
    refine ⟨?_⟩
    simp only [Rel.canD, List.take_succ_cons, List.take_zero, Nat.reduceAdd]
    go_wp2_with fail
    exact ⟨rfl, rfl, Below.refl _ _, rfl⟩
  · intro u w9 hb9 hd9
    have e2 : u 2 = .pointer (some ⟨q, 0, none⟩) := hd9 2 (by kernel_rfl)
    clear hd9
    refine ⟨?_⟩
    simp only [Rel.canD, List.take_succ_cons, List.take_zero, Nat.reduceAdd]
    go_wp2_with fail
    exact ⟨rfl, rfl, Below.refl _ _, rfl⟩
  · intro u w9 hb9 hd9
    have e3 : u 3 = .pointer (some ⟨q, 6, none⟩) := hd9 3 (by kernel_rfl)
    clear hd9
    have q9 := (hb9.block q (lt_of_block HQ.out.1)).trans HQ.out.1
    have c96 := (blk_cell q9 6 _ rfl).1
    clear q9
    simp only [List.getElem_toArray, List.getElem_cons_zero, List.getElem_cons_succ] at c96
    refine ⟨?_⟩
    simp only [Rel.canD, List.take_succ_cons, List.take_zero, Nat.reduceAdd]
    go_wp2_with fail
    exact ⟨rfl, rfl, Below.refl _ _, rfl⟩
  · intro u w9 hb9 hd9
    clear hd9
    have q9 := (hb9.block s3 (lt_of_block HQ.out.2.1)).trans HQ.out.2.1
    have c90 := (blk_cell q9 0 _ rfl).1
    have c91 := (blk_cell q9 1 _ rfl).1
    have c92 := (blk_cell q9 2 _ rfl).1
    clear q9
    simp only [List.getElem_toArray, List.getElem_cons_zero, List.getElem_cons_succ] at c90 c91 c92
    refine ⟨?_⟩
    simp only [Rel.canD, List.take_succ_cons, List.take_zero, Nat.reduceAdd]
    go_wp2_with fail
    exact ⟨rfl, rfl, Below.refl _ _, rfl⟩
  · intro u w9 hb9 hd9
    have e5 : u 5 = .agg #[.int .i64 N, .int .i64 (X : Int), .slice ao pl c] := hd9 5 (by kernel_rfl)
    clear hd9
    have hbx : Below w9.heap.size w9 (w9.alloc (.cells #[.int .i64 N, .int .i64 (X : Int), .slice ao pl c] 77)) := (Below.refl _ w9).alloc (Nat.le_refl _) _
    have hnx := heap_alloc_new w9 (.cells #[.int .i64 N, .int .i64 (X : Int), .slice ao pl c] 77)
    refine ⟨?_⟩
    simp only [Rel.canD, List.take_succ_cons, List.take_zero, Nat.reduceAdd]
    go_wp2_with fail
    exact ⟨rfl, rfl, hbx, w9.heap.size, rfl, hnx⟩
  intro u w9 hb9 hR9
  simp only [Rel.canD, Nat.reduceAdd, List.take_succ_cons, List.take_zero, List.drop_succ_cons, List.drop_zero]
  obtain ⟨sx, h6, hs9⟩ := hR9 6 (by decide)
  have h0 : u 0 = .pointer (some ⟨q, 0, none⟩) := hR9 0 (by decide)
  have h4 : u 4 = ov := hR9 4 (by decide)
  rw [h6, h4, h0]
  have hq9 := (hb9.block q (lt_of_block HQ.out.1)).trans HQ.out.1
  have hr9 := (hb9.block s3 (lt_of_block HQ.out.2.1)).trans HQ.out.2.1
  have hR9' : Recs G w9 ov rs := HR.out.1.keep (fun _ h => h) (fun k _ hk => hb9.block k hk)
  have hx9 := HR.out.2.later hb9
  have hb09 := bt5 HQ.out.2.2 hb9
  have HX := Lib.hid (And.intro hR9' (And.intro hs9 (And.intro hx9 (And.intro hq9 (And.intro hr9 hb09)))))
  clear hR9 hb9 hs9 hq9 hr9 hR9' hx9 hb09
  go_simp
  refine Recs.app (x := (N, X, ps)) HX.out.1 (by rw [HPL.out] at HX; exact HX.out.2.1) (by have := HX.out.2.2.1; rw [HPL.out] at this; rw [HPL.out] at HX; exact this) HL.out (fun k hk => HG.out k (Nat.le_trans HX.out.2.2.2.2.2.size hk)) rfl (.tmp 8) (.tmp 10) rfl rfl rfl ?_
  intro v7 w7 hS7 hg7
  have hq7 := HX.out.1.other hg7 HX.out.2.2.2.1 (by decide)
  have hr7 := (hg7.block s3 (lt_of_block HX.out.2.2.2.2.1) (fun e => (HOL.out s3 e.symm).2 rfl)).trans HX.out.2.2.2.2.1
  have ht7 : Touch G w w7 := (Touch.of HX.out.2.2.2.2.2).trans (Touch.grown hg7 (fun k hk => (HOL.out k hk).1))
  have hq8 := heap_setCell_same w7 q 6 _ _ v7 hq7
  have hr8 := (heap_setCell_other w7 ⟨q, 6, none⟩ s3 v7 (fun e => HE.out.2.1 (show s3 = q from e).symm)).trans hr7
  have hS8 : Recs G (w7.setCell ⟨q, 6, none⟩ v7) v7 (rs ++ [(N, X, ps)]) := hS7.keepT (fun _ h => h) (fun k9 C T f _ hc hT => heap_setCell_other w7 ⟨q, 6, none⟩ k9 _ (fun e => by
    have e9 : k9 = q := e
    subst e9
    rw [hq7] at hc
    cases hc
    rcases hT with h | h | h <;> exact absurd h (by decide)))
  have ht8 : Touch G w (w7.setCell ⟨q, 6, none⟩ v7) := ht7.trans (Touch.cell HE.out.2.2 6 v7)
  obtain ⟨a7, c7, rfl, -⟩ := hS7.shape
  rw [show (rs ++ [(N, X, ps)]).length = rs.length + 1 from List.length_append] at hq8 hr8 hS8 ht8
  have g6 := blk_cell hq7 6 ov rfl
  have HX8 := Lib.hid (And.intro hq8 (And.intro hr8 (And.intro hS8 ht8)))
  clear hq7 hr7 ht7 hq8 hr8 hS8 ht8 hS7 hg7 HX
  go_wp2_with fail
  refine NoPanic.normal ?_
  clear g6
  generalize w7.setCell ⟨q, 6, none⟩ _ = w8 at HX8 ⊢
  have k4 := blk_cell HX8.out.1 4 (.int .i64 next) rfl
  have hq5 := heap_setCell_same w8 q 4 _ _ (.int .i64 (next + 1)) HX8.out.1
  have hr5 := (heap_setCell_other w8 ⟨q, 4, none⟩ s3 (.int .i64 (next + 1)) (fun e => HE.out.2.1 (show s3 = q from e).symm)).trans HX8.out.2.1
  have hS5 : Recs G (w8.setCell ⟨q, 4, none⟩ (.int .i64 (next + 1))) (.slice a7 (rs.length + 1) c7) (rs ++ [(N, X, ps)]) := HX8.out.2.2.1.keepT (fun _ h => h) (fun k9 C T f _ hc hT => heap_setCell_other w8 ⟨q, 4, none⟩ k9 _ (fun e => by
    have e9 : k9 = q := e
    subst e9
    rw [HX8.out.1] at hc
    cases hc
    rcases hT with h | h | h <;> exact absurd h (by decide)))
  have ht5 := HX8.out.2.2.2.trans (Touch.cell HE.out.2.2 4 (.int .i64 (next + 1)))
  have HX5 := Lib.hid (And.intro hq5 (And.intro hr5 (And.intro hS5 ht5)))
  have hnw := HW.out
  have hn := HN.out
  clear hq5 hr5 hS5 ht5
  go_upto_region 3 with fail
  generalize w8.setCell ⟨q, 4, none⟩ _ = w5 at HX5 ⊢
  clear k4 hnw hn
  have p0 := (blk_cell HX5.out.2.1 0 (.int .i64 N) rfl).1
  have p1 := (blk_cell HX5.out.2.1 1 (.int .i64 (X : Int)) rfl).1
  have p2 := (blk_cell HX5.out.2.1 2 (.slice ao pl c) rfl).1
  go_wp2_with fail
  refine (CE.out w5).mono ?_
  rintro e w6 ⟨rfl, hb6⟩
  clear p0 p1 p2
  have hq6 := (hb6.block q (lt_of_block HX5.out.1)).trans HX5.out.1
  have hS6 : Recs G w6 (.slice a7 (rs.length + 1) c7) (rs ++ [(N, X, ps)]) := HX5.out.2.2.1.keep (fun _ h => h) (fun k _ hk => hb6.block k hk)
  have hq4 := heap_setCell_same w6 q 5 _ _ (.int .i64 ((X + pl + 2 : Nat) : Int)) hq6
  have hS4 : Recs G (w6.setCell ⟨q, 5, none⟩ (.int .i64 ((X + pl + 2 : Nat) : Int))) (.slice a7 (rs.length + 1) c7) (rs ++ [(N, X, ps)]) := hS6.keepT (fun _ h => h) (fun k9 C T f _ hc hT => heap_setCell_other w6 ⟨q, 5, none⟩ k9 _ (fun e => by
    have e9 : k9 = q := e
    subst e9
    rw [hq6] at hc
    cases hc
    rcases hT with h | h | h <;> exact absurd h (by decide)))
  have ht4 := (HX5.out.2.2.2.trans (Touch.of hb6)).trans (Touch.cell HE.out.2.2 5 (.int .i64 ((X + pl + 2 : Nat) : Int)))
  have k5 := blk_cell hq6 5 (.int .i64 (at_ : Int)) rfl
  have HX4 := Lib.hid (And.intro hq4 (And.intro hS4 ht4))
  clear hq6 hS6 hq4 hS4 ht4 hb6
  go_wp2_with fail
  go_end0
  exact ⟨rfl, ⟨⟨_, HX4.out.1, HX4.out.2.1⟩, HE.out.2.2⟩, HX4.out.2.2⟩
end Go.Proofs.Ytjdmmnpfjbnhoaa
namespace Go.Proofs.Ytjdmmnpfjbnhoaa
open Go.RowKit

theorem Scans_stop {all : List Dv.Sec} {s f a a' k : Nat} {n n' : Int} {ps : List Jr.Put} (h : Jr.Scans all s f n a n' a' ps k) (h1 : Jr.find all a n s f = none) (h2 : Jr.find all 2 n s f = none) : n' = n ∧ a' = a ∧ ps = [] ∧ k = 0 := by
  cases h with
  | done _ _ => exact ⟨rfl, rfl, rfl, rfl⟩
  | here hf _ => rw [h1] at hf; cases hf
  | two _ hf _ => rw [h2] at hf; cases hf
theorem Scans_go {all : List Dv.Sec} {s f a a' k b : Nat} {n n' : Int} {ps x : List Jr.Put} (h : Jr.Scans all s f n a n' a' ps k) (hf : Jr.find all b n s f = some x) (hb : b = a ∨ (b = 2 ∧ Jr.find all a n s f = none)) :
    ∃ ps' k', Jr.Scans all s f (n + 1) (b + x.length + 2) n' a' ps' k' ∧ ps = x ++ ps' ∧ k = k' + 1 := by
  cases h with
  | done h1 h2 =>
    rcases hb with rfl | ⟨rfl, _⟩
    · rw [h1] at hf; cases hf
    · rw [h2] at hf; cases hf
  | here hf' hr =>
    rcases hb with rfl | ⟨rfl, hn⟩
    · rw [hf'] at hf; cases hf; exact ⟨_, _, hr, rfl, rfl⟩
    · rw [hf'] at hn; cases hn
  | two hn hf' hr =>
    rcases hb with rfl | ⟨rfl, _⟩
    · rw [hn] at hf; cases hf
    · rw [hf'] at hf; cases hf; exact ⟨_, _, hr, rfl, rfl⟩
theorem Scans_num {all : List Dv.Sec} {s f a a' k : Nat} {n n' : Int} {ps : List Jr.Put} (h : Jr.Scans all s f n a n' a' ps k) : n' = n + k := by
  induction h with
  | done _ _ => simp
  | here _ _ ih => rw [ih]; omega
  | two _ _ _ ih => rw [ih]; omega
theorem find_le {all : List Dv.Sec} {s f b : Nat} {n : Int} {x : List Jr.Put} (h : Jr.find all b n s f = some x) : 2 ≤ b ∧ b + x.length + 2 ≤ all.length ∧ x.length ≤ 10 := by
  unfold Jr.find at h
  by_cases hf : Jr.found all b n s f
  · rw [if_pos hf] at h
    cases h
    rw [List.length_map, List.length_range]
    exact ⟨hf.1, by have := hf.2.2.2.2.2.2.1; omega, hf.2.2.2.2.2.1⟩
  · rw [if_neg hf] at h; cases h
theorem find_which {all : List Dv.Sec} {s f a : Nat} {n : Int} : (Jr.find all a n s f = none ∧ Jr.find all 2 n s f = none) ∨ ∃ b x, Jr.find all b n s f = some x ∧ (b = a ∨ (b = 2 ∧ Jr.find all a n s f = none)) := by
  cases h1 : Jr.find all a n s f with
  | some x => exact .inr ⟨a, x, h1, .inl rfl⟩
  | none =>
    cases h2 : Jr.find all 2 n s f with
    | some x => exact .inr ⟨2, x, h2, .inr ⟨rfl, rfl⟩⟩
    | none => exact .inl ⟨rfl, rfl⟩
theorem find_same {all : List Dv.Sec} {s f a b c : Nat} {n : Int} {x y : List Jr.Put} (h1 : Jr.find all b n s f = some x) (h1' : b = a ∨ (b = 2 ∧ Jr.find all a n s f = none)) (h2 : Jr.find all c n s f = some y) (h2' : c = a ∨ (c = 2 ∧ Jr.find all a n s f = none)) : c = b ∧ y = x := by
  have e : c = b := by
    rcases h1' with rfl | ⟨rfl, hn⟩
    · rcases h2' with rfl | ⟨rfl, hn⟩
      · rfl
      · rw [hn] at h1; cases h1
    · rcases h2' with rfl | ⟨rfl, _⟩
      · rw [hn] at h2; cases h2
      · rfl
  subst e
  rw [h1] at h2
  exact ⟨rfl, (Option.some.inj h2).symm⟩
/-- A record's block: what the two numbers and the puts are. -/
def RecV (G : Nat → Prop) (N : Int) (b : Nat) (x : List Jr.Put) (v : Value) (w : World) : Prop := ∃ ao c, v = .agg #[.int .i64 N, .int .i64 (b : Int), .slice ao x.length c] ∧ PRow G w (.slice ao x.length c) x
def RecT (G : Nat → Prop) (N : Int) (b : Nat) (x : List Jr.Put) (v : Value) (w : World) : Prop := ∃ ao c, v = .tuple #[.agg #[.int .i64 N, .int .i64 (b : Int), .slice ao x.length c], .bool true] ∧ PRow G w (.slice ao x.length c) x

set_option maxHeartbeats 12800000 in
set_option maxRecDepth 100000 in
theorem gather_w (q g from_ n at_ : Nat) (m next : Int) (G : Nat → Prop) (v : Value) (all : List Dv.Sec) (d : Dv.S) (F : Nat → Prop) (N' : Int) (A' : Nat) (PS : List Jr.Put) (K : Nat) (w : World) (h : JIn w q g G from_ n m next at_ []) (hl : all.length = n) (h64 : ∀ x ∈ all, x.length = 64) (hn : n ≤ 1000) (hf : from_ ≤ 100000) (h2 : 2 ≤ at_) (ha : at_ ≤ n) (hG : ∀ k, w.heap.size ≤ k → G k)
    (hK : ∀ W, Touch G w W → Dev13 W g d F ∧ BsIn W v all) (hs : Jr.Scans all d.safe.length from_ next at_ N' A' PS K) (h0 : 0 ≤ next) (hN : N' ≤ 1000000) (hK9 : K ≤ 1000000) :
    Calls Try.prog 23 #[.pointer (some ⟨q, 0, none⟩), v] w fun e w' => e = .returned (.tuple #[]) ∧ ∃ rs, JIn w' q g G from_ n m N' A' rs ∧ rs.flatMap (·.2.2) = PS ∧ rs.length = K ∧ Touch G w w' := by
  obtain ⟨s, hse⟩ : ∃ s, s = d.safe.length := ⟨_, rfl⟩
  have CF := Lib.hid (fun W (ht : Touch G w W) (N : Int) a b (h2 : 2 ≤ a) (h9 : a ≤ 1000) (hb : W.heap[b]? = some (.cells #[.int .i64 (a : Int), .int .i64 2] 3 (0, 0))) => find_w g from_ n a b N d F v all W (hK W ht).1 (hK W ht).2 hl h64 hn hf h2 h9 hb)
  rw [← hse] at CF hs
  have HS : Hid (∃ (next' : Int) (at' : Nat) (rs : List Rec) (ps : List Jr.Put) (k : Nat), JIn w q g G from_ n m next' at' rs ∧ Jr.Scans all s from_ next' at' N' A' ps k ∧ rs.flatMap (·.2.2) ++ ps = PS ∧ rs.length + k = K ∧ 2 ≤ at' ∧ at' ≤ n ∧ 0 ≤ next' ∧ Touch G w w) := Lib.hid ⟨next, at_, [], PS, K, h, hs, rfl, Nat.zero_add _, h2, ha, h0, Touch.refl _ _⟩
  have HL := Lib.hid (And.intro hl (And.intro hn (And.intro hN hK9)))
  have HG := Lib.hid hG
  clear h hl h64 hn hf h2 ha hG hK hs hN hK9 hse h0
  go_enter Try.func23, Try.ntmps23
  go_wp2_with fail
  go_loopw [] (fun wr => ∃ (next' : Int) (at' : Nat) (rs : List Rec) (ps : List Jr.Put) (k : Nat), JIn wr q g G from_ n m next' at' rs ∧ Jr.Scans all s from_ next' at' N' A' ps k ∧ rs.flatMap (·.2.2) ++ ps = PS ∧ rs.length + k = K ∧ 2 ≤ at' ∧ at' ≤ n ∧ 0 ≤ next' ∧ Touch G w wr) (fun wr => (N' - intOf ((wr.cell? ⟨q, 4, none⟩).getD undef)).toNat)
  case atStart => exact HS.out
  case round =>
    obtain ⟨next', at', rs, ps, k, hJ, hS, hPS, hKK, h2, ha, h0, ht⟩ := hrel
    obtain ⟨⟨ov, hq, hR⟩, hGq⟩ := id hJ
    have HJ := Lib.hid (And.intro hJ (And.intro ht (And.intro hPS hKK)))
    have HQ := Lib.hid hq
    have HX := Lib.hid hS
    have HB := Lib.hid (And.intro h2 (And.intro ha h0))
    have CF1 := Lib.hid (fun W (hb : Below wr.heap.size wr W) b hbb => CF.out W (ht.trans (Touch.of hb)) next' at' b h2 (Nat.le_trans ha HL.out.2.1) hbb)
    clear hq hR hJ ht hPS hKK h2 ha h0 hS HS
    go_upto_region 0 with fail
    rcases find_which (all := all) (s := s) (f := from_) (a := at') (n := next') with ⟨hf1, hf2⟩ | ⟨b, x, hf1, hf2⟩
    · have CS := Lib.hid (fun W (hb : Below wr.heap.size wr W) b hbb => (CF1.out W hb b hbb).mono fun e w' h => (show Below W.heap.size W w' ∧ e = .returned (.tuple #[.agg #[.int .i64 0, .int .i64 0, .slice none 0 0], .bool false]) from ⟨h.1, by
        rcases h.2 with ⟨_, _, h⟩ | ⟨ps, vr, a', h1, h2, _⟩
        · exact h
        · rcases h2 with rfl | ⟨rfl, _⟩
          · rw [hf1] at h1; cases h1
          · rw [hf2] at h1; cases h1⟩))
      have HF := Lib.hid (And.intro hf1 hf2)
      clear hf1 hf2 CF1
      refine Rel.region_tailE 21 19 (by kernel_rfl) [some 7, some 8, some 9, some 10, some 11, some 12, some 13, some 14, some 15, some 16, some 17, some 18, some 19, some 20, some 21, some 22, some 23, some 6, some 24, some 25, some 4, none, some 5] (by kernel_rfl) (by kernel_rfl) (by kernel_rfl) [.eq (.pointer (some ⟨q, 0, none⟩)), .eq (.pointer (some ⟨q, 0, none⟩)), .eq (.pointer (some ⟨q, 0, none⟩)), .eq (.agg #[.pointer (some ⟨g, 0, none⟩), .int .i64 (from_ : Int), .int .i64 (n : Int)]), .eq (v), .eq (.pointer (some ⟨q, 0, none⟩)), .eq (.pointer (some ⟨q, 0, none⟩)), .eq (.pointer (some ⟨q, 3, none⟩)), .eq (.pointer (some ⟨q, 4, none⟩)), .eq (.int .i64 next'), .eq (.pointer (some ⟨q, 0, none⟩)), .eq (.pointer (some ⟨q, 0, none⟩)), .eq (.pointer (some ⟨q, 3, none⟩)), .eq (.pointer (some ⟨q, 5, none⟩)), .eq (.int .i64 (at' : Int)), ⟨fun v w => ∃ b, v = .slice (some ⟨b, 0, none⟩) 2 2 ∧ w.heap[b]? = some (.cells #[.int .i64 (at' : Int), .int .i64 2] 3 (0, 0)), fun _ _ _ h hb => by obtain ⟨b, h1, h2⟩ := h; exact ⟨b, h1, (hb.block b (lt_of_block h2)).trans h2⟩⟩, .eq (.tuple #[.agg #[.int .i64 0, .int .i64 0, .slice none 0 0], .bool false]), .eq (.tuple #[.agg #[.int .i64 0, .int .i64 0, .slice none 0 0], .bool false]), .eq (.agg #[.int .i64 0, .int .i64 0, .slice none 0 0]), .eq (.bool false), ⟨fun v w => ∃ r, v = .pointer (some ⟨r, 0, none⟩) ∧ wr.heap.size ≤ r ∧ w.heap[r]? = some (.cells #[.int .i64 0, .int .i64 0, .slice none 0 0] 77 (0, 0)), fun _ _ _ h hb => by obtain ⟨r, h1, h2, h3⟩ := h; exact ⟨r, h1, h2, (hb.block r (lt_of_block h3)).trans h3⟩⟩] (fun o ho u w hd => by cases ho; have e17 : u 17 = .tuple #[.agg #[.int .i64 0, .int .i64 0, .slice none 0 0], .bool false] := hd 17 (by kernel_rfl); exact ⟨.bool false, .inl ⟨rfl, fun w => by simp only [Rel.canD, List.take_succ_cons, List.take_zero, Nat.reduceAdd, e17]; go_simp⟩, rfl⟩) ⟨?_, ?_, ?_, ?_, ?_, ?_, ?_, ?_, ?_, ?_, ?_, ?_, ?_, ?_, ?_, ?_, ?_, ?_, ?_, ?_, ?_, trivial⟩ ?_
      · intro u w9 hb9 hd9
        clear hd9
        refine ⟨?_⟩
        simp only [Rel.canD, List.take_zero]
        go_wp2_with fail
        exact ⟨rfl, rfl, Below.refl _ _, rfl⟩
      · intro u w9 hb9 hd9
        have e0 : u 0 = .pointer (some ⟨q, 0, none⟩) := hd9 0 (by kernel_rfl)
        clear hd9
        refine ⟨?_⟩
        simp only [Rel.canD, List.take_succ_cons, List.take_zero, Nat.reduceAdd]
        go_wp2_with fail
        exact ⟨rfl, rfl, Below.refl _ _, rfl⟩
      · intro u w9 hb9 hd9
        have e1 : u 1 = .pointer (some ⟨q, 0, none⟩) := hd9 1 (by kernel_rfl)
        clear hd9
        refine ⟨?_⟩
        simp only [Rel.canD, List.take_succ_cons, List.take_zero, Nat.reduceAdd]
        go_wp2_with fail
        exact ⟨rfl, rfl, Below.refl _ _, rfl⟩
      · intro u w9 hb9 hd9
        have e2 : u 2 = .pointer (some ⟨q, 0, none⟩) := hd9 2 (by kernel_rfl)
        clear hd9
        have q9 := (hb9.block q (lt_of_block HQ.out)).trans HQ.out
        have c90 := (blk_cell q9 0 _ rfl).1
        have c91 := (blk_cell q9 1 _ rfl).1
        have c92 := (blk_cell q9 2 _ rfl).1
        clear q9
        simp only [List.getElem_toArray, List.getElem_cons_zero, List.getElem_cons_succ] at c90 c91 c92
        refine ⟨?_⟩
        simp only [Rel.canD, List.take_succ_cons, List.take_zero, Nat.reduceAdd]
        go_wp2_with fail
        exact ⟨rfl, rfl, Below.refl _ _, rfl⟩
      · intro u w9 hb9 hd9
        clear hd9
        refine ⟨?_⟩
        simp only [Rel.canD, List.take_succ_cons, List.take_zero, Nat.reduceAdd]
        go_wp2_with fail
        exact ⟨rfl, rfl, Below.refl _ _, rfl⟩
      · intro u w9 hb9 hd9
        clear hd9
        refine ⟨?_⟩
        simp only [Rel.canD, List.take_succ_cons, List.take_zero, Nat.reduceAdd]
        go_wp2_with fail
        exact ⟨rfl, rfl, Below.refl _ _, rfl⟩
      · intro u w9 hb9 hd9
        have e5 : u 5 = .pointer (some ⟨q, 0, none⟩) := hd9 5 (by kernel_rfl)
        clear hd9
        refine ⟨?_⟩
        simp only [Rel.canD, List.take_succ_cons, List.take_zero, Nat.reduceAdd]
        go_wp2_with fail
        exact ⟨rfl, rfl, Below.refl _ _, rfl⟩
      · intro u w9 hb9 hd9
        have e6 : u 6 = .pointer (some ⟨q, 0, none⟩) := hd9 6 (by kernel_rfl)
        clear hd9
        refine ⟨?_⟩
        simp only [Rel.canD, List.take_succ_cons, List.take_zero, Nat.reduceAdd]
        go_wp2_with fail
        exact ⟨rfl, rfl, Below.refl _ _, rfl⟩
      · intro u w9 hb9 hd9
        have e7 : u 7 = .pointer (some ⟨q, 3, none⟩) := hd9 7 (by kernel_rfl)
        clear hd9
        refine ⟨?_⟩
        simp only [Rel.canD, List.take_succ_cons, List.take_zero, Nat.reduceAdd]
        go_wp2_with fail
        exact ⟨rfl, rfl, Below.refl _ _, rfl⟩
      · intro u w9 hb9 hd9
        have e8 : u 8 = .pointer (some ⟨q, 4, none⟩) := hd9 8 (by kernel_rfl)
        clear hd9
        have q9 := (hb9.block q (lt_of_block HQ.out)).trans HQ.out
        have c94 := (blk_cell q9 4 _ rfl).1
        clear q9
        simp only [List.getElem_toArray, List.getElem_cons_zero, List.getElem_cons_succ] at c94
        refine ⟨?_⟩
        simp only [Rel.canD, List.take_succ_cons, List.take_zero, Nat.reduceAdd]
        go_wp2_with fail
        exact ⟨rfl, rfl, Below.refl _ _, rfl⟩
      · intro u w9 hb9 hd9
        clear hd9
        refine ⟨?_⟩
        simp only [Rel.canD, List.take_succ_cons, List.take_zero, Nat.reduceAdd]
        go_wp2_with fail
        exact ⟨rfl, rfl, Below.refl _ _, rfl⟩
      · intro u w9 hb9 hd9
        have e10 : u 10 = .pointer (some ⟨q, 0, none⟩) := hd9 10 (by kernel_rfl)
        clear hd9
        refine ⟨?_⟩
        simp only [Rel.canD, List.take_succ_cons, List.take_zero, Nat.reduceAdd]
        go_wp2_with fail
        exact ⟨rfl, rfl, Below.refl _ _, rfl⟩
      · intro u w9 hb9 hd9
        have e11 : u 11 = .pointer (some ⟨q, 0, none⟩) := hd9 11 (by kernel_rfl)
        clear hd9
        refine ⟨?_⟩
        simp only [Rel.canD, List.take_succ_cons, List.take_zero, Nat.reduceAdd]
        go_wp2_with fail
        exact ⟨rfl, rfl, Below.refl _ _, rfl⟩
      · intro u w9 hb9 hd9
        have e12 : u 12 = .pointer (some ⟨q, 3, none⟩) := hd9 12 (by kernel_rfl)
        clear hd9
        refine ⟨?_⟩
        simp only [Rel.canD, List.take_succ_cons, List.take_zero, Nat.reduceAdd]
        go_wp2_with fail
        exact ⟨rfl, rfl, Below.refl _ _, rfl⟩
      · intro u w9 hb9 hd9
        have e13 : u 13 = .pointer (some ⟨q, 5, none⟩) := hd9 13 (by kernel_rfl)
        clear hd9
        have q9 := (hb9.block q (lt_of_block HQ.out)).trans HQ.out
        have c95 := (blk_cell q9 5 _ rfl).1
        clear q9
        simp only [List.getElem_toArray, List.getElem_cons_zero, List.getElem_cons_succ] at c95
        refine ⟨?_⟩
        simp only [Rel.canD, List.take_succ_cons, List.take_zero, Nat.reduceAdd]
        go_wp2_with fail
        exact ⟨rfl, rfl, Below.refl _ _, rfl⟩
      · intro u w9 hb9 hd9
        have e14 : u 14 = .int .i64 (at' : Int) := hd9 14 (by kernel_rfl)
        clear hd9
        have hbx : Below w9.heap.size w9 (w9.alloc (.cells #[.int .i64 (at' : Int), .int .i64 2] 3)) := (Below.refl _ w9).alloc (Nat.le_refl _) _
        have hnx := heap_alloc_new w9 (.cells #[.int .i64 (at' : Int), .int .i64 2] 3)
        refine ⟨?_⟩
        simp only [Rel.canD, List.take_succ_cons, List.take_zero, Nat.reduceAdd]
        go_wp2_with fail
        exact ⟨rfl, rfl, hbx, w9.heap.size, rfl, hnx⟩
      · intro u w9 hb9 hd9
        have e3 : u 3 = .agg #[.pointer (some ⟨g, 0, none⟩), .int .i64 (from_ : Int), .int .i64 (n : Int)] := hd9 3 (by kernel_rfl)
        have e4 : u 4 = v := hd9 4 (by kernel_rfl)
        have e9 : u 9 = .int .i64 next' := hd9 9 (by kernel_rfl)
        have e15 := hd9 15 (by kernel_rfl)
        clear hd9
        obtain ⟨b, e15x, hbb⟩ := e15
        have c9 := CS.out w9 hb9 b hbb
        clear hbb
        refine ⟨?_⟩
        simp only [Rel.canD, List.take_succ_cons, List.take_zero, Nat.reduceAdd]
        go_wp2_with fail
        refine c9.mono ?_
        rintro e w8 ⟨hb8, rfl⟩
        go_wp2_with fail
        exact ⟨rfl, rfl, hb8, rfl⟩
      · intro u w9 hb9 hd9
        have e16 : u 16 = .tuple #[.agg #[.int .i64 0, .int .i64 0, .slice none 0 0], .bool false] := hd9 16 (by kernel_rfl)
        clear hd9
        refine ⟨?_⟩
        simp only [Rel.canD, List.take_succ_cons, List.take_zero, Nat.reduceAdd]
        go_wp2_with fail
        exact ⟨rfl, rfl, Below.refl _ _, rfl⟩
      · intro u w9 hb9 hd9
        have e17 : u 17 = .tuple #[.agg #[.int .i64 0, .int .i64 0, .slice none 0 0], .bool false] := hd9 17 (by kernel_rfl)
        clear hd9
        refine ⟨?_⟩
        simp only [Rel.canD, List.take_succ_cons, List.take_zero, Nat.reduceAdd]
        go_wp2_with fail
        exact ⟨rfl, rfl, Below.refl _ _, rfl⟩
      · intro u w9 hb9 hd9
        have e17 : u 17 = .tuple #[.agg #[.int .i64 0, .int .i64 0, .slice none 0 0], .bool false] := hd9 17 (by kernel_rfl)
        clear hd9
        refine ⟨?_⟩
        simp only [Rel.canD, List.take_succ_cons, List.take_zero, Nat.reduceAdd]
        go_wp2_with fail
        exact ⟨rfl, rfl, Below.refl _ _, rfl⟩
      · intro u w9 hb9 hd9
        clear hd9
        have hbx : Below w9.heap.size w9 (w9.alloc (.cells #[.int .i64 0, .int .i64 0, .slice none 0 0] 77)) := (Below.refl _ w9).alloc (Nat.le_refl _) _
        have hnx := heap_alloc_new w9 (.cells #[.int .i64 0, .int .i64 0, .slice none 0 0] 77)
        have hsz := hb9.size
        refine ⟨?_⟩
        simp only [Rel.canD, List.take_succ_cons, List.take_zero, Nat.reduceAdd]
        go_wp2_with fail
        exact ⟨rfl, rfl, hbx, w9.heap.size, rfl, hsz, hnx⟩
      intro u w9 hb9 hR9
      simp only [Rel.canD, Nat.reduceAdd, List.take_succ_cons, List.take_zero, List.drop_succ_cons, List.drop_zero]
      obtain ⟨r, h20, hrge, hr9⟩ := hR9 20 (by decide)
      have h18 : u 18 = .agg #[.int .i64 0, .int .i64 0, .slice none 0 0] := hR9 18 (by decide)
      have h19 : u 19 = .bool false := hR9 19 (by decide)
      rw [h20, h18, h19]
      have x0 := blk_cell hr9 0 (.int .i64 0) rfl
      have x1 := blk_cell hr9 1 (.int .i64 0) rfl
      have x2 := blk_cell hr9 2 (.slice none 0 0) rfl
      obtain ⟨nr, tr⟩ := set3 hr9 (.int .i64 0) (.int .i64 0) (.slice none 0 0)
      have HY := Lib.hid (tr.below (fun k hk => by rw [hk]; exact hrge : ∀ k, k = r → wr.heap.size ≤ k) hb9 hb9.size)
      clear hR9 hb9 hr9 nr tr
      go_wp2_with fail
      refine NoPanic.normal ?_
      clear x0 x1 x2
      go_wp2_with fail
      refine bodyPost_ret (results_none rfl _ _ _) rfl ?_
      obtain ⟨e1, e2, e3, e4⟩ := Scans_stop HX.out HF.out.1 HF.out.2
      obtain ⟨hJ, ht, hPS, hKK⟩ := HJ.out
      rw [e3, List.append_nil] at hPS
      rw [e4, Nat.add_zero] at hKK
      rw [e1, e2]
      exact ⟨rfl, rs, hJ.keep (fun _ h => h) (fun k _ hk => HY.out.block k hk), hPS, hKK, ht.trans (Touch.of HY.out)⟩
    · have CS := Lib.hid (fun W (hb : Below wr.heap.size wr W) b2 hbb => (CF1.out W hb b2 hbb).mono fun e w' h => (show Below W.heap.size W w' ∧ ∃ v, e = .returned v ∧ RecT (fun k => W.heap.size ≤ k) next' b x v w' from ⟨h.1, by
        rcases h.2 with ⟨h1, h2, _⟩ | ⟨ps, vr, a', h1, h2, h3, h4⟩
        · rcases hf2 with rfl | ⟨rfl, _⟩
          · rw [hf1] at h1; cases h1
          · rw [hf1] at h2; cases h2
        · obtain ⟨rfl, rfl⟩ := find_same hf1 hf2 h1 h2
          obtain ⟨ao, c, rfl, _⟩ := h4.shape
          exact ⟨_, h3, ao, c, rfl, h4⟩⟩))
      have HF := Lib.hid (And.intro hf1 hf2)
      clear hf1 hf2 CF1
      refine Rel.region_tailE 21 19 (by kernel_rfl) [some 7, some 8, some 9, some 10, some 11, some 12, some 13, some 14, some 15, some 16, some 17, some 18, some 19, some 20, some 21, some 22, some 23, some 6, some 24, some 25, some 4, none, some 5] (by kernel_rfl) (by kernel_rfl) (by kernel_rfl) [.eq (.pointer (some ⟨q, 0, none⟩)), .eq (.pointer (some ⟨q, 0, none⟩)), .eq (.pointer (some ⟨q, 0, none⟩)), .eq (.agg #[.pointer (some ⟨g, 0, none⟩), .int .i64 (from_ : Int), .int .i64 (n : Int)]), .eq (v), .eq (.pointer (some ⟨q, 0, none⟩)), .eq (.pointer (some ⟨q, 0, none⟩)), .eq (.pointer (some ⟨q, 3, none⟩)), .eq (.pointer (some ⟨q, 4, none⟩)), .eq (.int .i64 next'), .eq (.pointer (some ⟨q, 0, none⟩)), .eq (.pointer (some ⟨q, 0, none⟩)), .eq (.pointer (some ⟨q, 3, none⟩)), .eq (.pointer (some ⟨q, 5, none⟩)), .eq (.int .i64 (at' : Int)), ⟨fun v w => ∃ b, v = .slice (some ⟨b, 0, none⟩) 2 2 ∧ w.heap[b]? = some (.cells #[.int .i64 (at' : Int), .int .i64 2] 3 (0, 0)), fun _ _ _ h hb => by obtain ⟨b, h1, h2⟩ := h; exact ⟨b, h1, (hb.block b (lt_of_block h2)).trans h2⟩⟩, ⟨fun v w => RecT G next' b x v w, fun _ _ _ h hb => by obtain ⟨ao, c, h1, h2⟩ := h; exact ⟨ao, c, h1, h2.later hb⟩⟩, ⟨fun v w => RecT G next' b x v w, fun _ _ _ h hb => by obtain ⟨ao, c, h1, h2⟩ := h; exact ⟨ao, c, h1, h2.later hb⟩⟩, ⟨fun v w => RecV G next' b x v w, fun _ _ _ h hb => by obtain ⟨ao, c, h1, h2⟩ := h; exact ⟨ao, c, h1, h2.later hb⟩⟩, .eq (.bool true), ⟨fun v w => ∃ r, v = .pointer (some ⟨r, 0, none⟩) ∧ wr.heap.size ≤ r ∧ w.heap[r]? = some (.cells #[.int .i64 0, .int .i64 0, .slice none 0 0] 77 (0, 0)), fun _ _ _ h hb => by obtain ⟨r, h1, h2, h3⟩ := h; exact ⟨r, h1, h2, (hb.block r (lt_of_block h3)).trans h3⟩⟩] (fun o ho u w hd => by cases ho; obtain ⟨ao, c, e17, _⟩ := hd 17 (by kernel_rfl); exact ⟨.bool true, .inl ⟨rfl, fun w => by simp only [Rel.canD, List.take_succ_cons, List.take_zero, Nat.reduceAdd, e17]; go_simp⟩, rfl⟩) ⟨?_, ?_, ?_, ?_, ?_, ?_, ?_, ?_, ?_, ?_, ?_, ?_, ?_, ?_, ?_, ?_, ?_, ?_, ?_, ?_, ?_, trivial⟩ ?_
      · intro u w9 hb9 hd9
        clear hd9
        refine ⟨?_⟩
        simp only [Rel.canD, List.take_zero]
        go_wp2_with fail
        exact ⟨rfl, rfl, Below.refl _ _, rfl⟩
      · intro u w9 hb9 hd9
        have e0 : u 0 = .pointer (some ⟨q, 0, none⟩) := hd9 0 (by kernel_rfl)
        clear hd9
        refine ⟨?_⟩
        simp only [Rel.canD, List.take_succ_cons, List.take_zero, Nat.reduceAdd]
        go_wp2_with fail
        exact ⟨rfl, rfl, Below.refl _ _, rfl⟩
      · intro u w9 hb9 hd9
        have e1 : u 1 = .pointer (some ⟨q, 0, none⟩) := hd9 1 (by kernel_rfl)
        clear hd9
        refine ⟨?_⟩
        simp only [Rel.canD, List.take_succ_cons, List.take_zero, Nat.reduceAdd]
        go_wp2_with fail
        exact ⟨rfl, rfl, Below.refl _ _, rfl⟩
      · intro u w9 hb9 hd9
        have e2 : u 2 = .pointer (some ⟨q, 0, none⟩) := hd9 2 (by kernel_rfl)
        clear hd9
        have q9 := (hb9.block q (lt_of_block HQ.out)).trans HQ.out
        have c90 := (blk_cell q9 0 _ rfl).1
        have c91 := (blk_cell q9 1 _ rfl).1
        have c92 := (blk_cell q9 2 _ rfl).1
        clear q9
        simp only [List.getElem_toArray, List.getElem_cons_zero, List.getElem_cons_succ] at c90 c91 c92
        refine ⟨?_⟩
        simp only [Rel.canD, List.take_succ_cons, List.take_zero, Nat.reduceAdd]
        go_wp2_with fail
        exact ⟨rfl, rfl, Below.refl _ _, rfl⟩
      · intro u w9 hb9 hd9
        clear hd9
        refine ⟨?_⟩
        simp only [Rel.canD, List.take_succ_cons, List.take_zero, Nat.reduceAdd]
        go_wp2_with fail
        exact ⟨rfl, rfl, Below.refl _ _, rfl⟩
      · intro u w9 hb9 hd9
        clear hd9
        refine ⟨?_⟩
        simp only [Rel.canD, List.take_succ_cons, List.take_zero, Nat.reduceAdd]
        go_wp2_with fail
        exact ⟨rfl, rfl, Below.refl _ _, rfl⟩
      · intro u w9 hb9 hd9
        have e5 : u 5 = .pointer (some ⟨q, 0, none⟩) := hd9 5 (by kernel_rfl)
        clear hd9
        refine ⟨?_⟩
        simp only [Rel.canD, List.take_succ_cons, List.take_zero, Nat.reduceAdd]
        go_wp2_with fail
        exact ⟨rfl, rfl, Below.refl _ _, rfl⟩
      · intro u w9 hb9 hd9
        have e6 : u 6 = .pointer (some ⟨q, 0, none⟩) := hd9 6 (by kernel_rfl)
        clear hd9
        refine ⟨?_⟩
        simp only [Rel.canD, List.take_succ_cons, List.take_zero, Nat.reduceAdd]
        go_wp2_with fail
        exact ⟨rfl, rfl, Below.refl _ _, rfl⟩
      · intro u w9 hb9 hd9
        have e7 : u 7 = .pointer (some ⟨q, 3, none⟩) := hd9 7 (by kernel_rfl)
        clear hd9
        refine ⟨?_⟩
        simp only [Rel.canD, List.take_succ_cons, List.take_zero, Nat.reduceAdd]
        go_wp2_with fail
        exact ⟨rfl, rfl, Below.refl _ _, rfl⟩
      · intro u w9 hb9 hd9
        have e8 : u 8 = .pointer (some ⟨q, 4, none⟩) := hd9 8 (by kernel_rfl)
        clear hd9
        have q9 := (hb9.block q (lt_of_block HQ.out)).trans HQ.out
        have c94 := (blk_cell q9 4 _ rfl).1
        clear q9
        simp only [List.getElem_toArray, List.getElem_cons_zero, List.getElem_cons_succ] at c94
        refine ⟨?_⟩
        simp only [Rel.canD, List.take_succ_cons, List.take_zero, Nat.reduceAdd]
        go_wp2_with fail
        exact ⟨rfl, rfl, Below.refl _ _, rfl⟩
      · intro u w9 hb9 hd9
        clear hd9
        refine ⟨?_⟩
        simp only [Rel.canD, List.take_succ_cons, List.take_zero, Nat.reduceAdd]
        go_wp2_with fail
        exact ⟨rfl, rfl, Below.refl _ _, rfl⟩
      · intro u w9 hb9 hd9
        have e10 : u 10 = .pointer (some ⟨q, 0, none⟩) := hd9 10 (by kernel_rfl)
        clear hd9
        refine ⟨?_⟩
        simp only [Rel.canD, List.take_succ_cons, List.take_zero, Nat.reduceAdd]
        go_wp2_with fail
        exact ⟨rfl, rfl, Below.refl _ _, rfl⟩
      · intro u w9 hb9 hd9
        have e11 : u 11 = .pointer (some ⟨q, 0, none⟩) := hd9 11 (by kernel_rfl)
        clear hd9
        refine ⟨?_⟩
        simp only [Rel.canD, List.take_succ_cons, List.take_zero, Nat.reduceAdd]
        go_wp2_with fail
        exact ⟨rfl, rfl, Below.refl _ _, rfl⟩
      · intro u w9 hb9 hd9
        have e12 : u 12 = .pointer (some ⟨q, 3, none⟩) := hd9 12 (by kernel_rfl)
        clear hd9
        refine ⟨?_⟩
        simp only [Rel.canD, List.take_succ_cons, List.take_zero, Nat.reduceAdd]
        go_wp2_with fail
        exact ⟨rfl, rfl, Below.refl _ _, rfl⟩
      · intro u w9 hb9 hd9
        have e13 : u 13 = .pointer (some ⟨q, 5, none⟩) := hd9 13 (by kernel_rfl)
        clear hd9
        have q9 := (hb9.block q (lt_of_block HQ.out)).trans HQ.out
        have c95 := (blk_cell q9 5 _ rfl).1
        clear q9
        simp only [List.getElem_toArray, List.getElem_cons_zero, List.getElem_cons_succ] at c95
        refine ⟨?_⟩
        simp only [Rel.canD, List.take_succ_cons, List.take_zero, Nat.reduceAdd]
        go_wp2_with fail
        exact ⟨rfl, rfl, Below.refl _ _, rfl⟩
      · intro u w9 hb9 hd9
        have e14 : u 14 = .int .i64 (at' : Int) := hd9 14 (by kernel_rfl)
        clear hd9
        have hbx : Below w9.heap.size w9 (w9.alloc (.cells #[.int .i64 (at' : Int), .int .i64 2] 3)) := (Below.refl _ w9).alloc (Nat.le_refl _) _
        have hnx := heap_alloc_new w9 (.cells #[.int .i64 (at' : Int), .int .i64 2] 3)
        refine ⟨?_⟩
        simp only [Rel.canD, List.take_succ_cons, List.take_zero, Nat.reduceAdd]
        go_wp2_with fail
        exact ⟨rfl, rfl, hbx, w9.heap.size, rfl, hnx⟩
      · intro u w9 hb9 hd9
        have e3 : u 3 = .agg #[.pointer (some ⟨g, 0, none⟩), .int .i64 (from_ : Int), .int .i64 (n : Int)] := hd9 3 (by kernel_rfl)
        have e4 : u 4 = v := hd9 4 (by kernel_rfl)
        have e9 : u 9 = .int .i64 next' := hd9 9 (by kernel_rfl)
        have e15 := hd9 15 (by kernel_rfl)
        clear hd9
        obtain ⟨b2, e15x, hbb⟩ := e15
        have c9 := CS.out w9 hb9 b2 hbb
        have hg9 := fun k (hk : w9.heap.size ≤ k) => HG.out k (Nat.le_trans HJ.out.2.1.size (Nat.le_trans hb9.size hk))
        clear hbb
        refine ⟨?_⟩
        simp only [Rel.canD, List.take_succ_cons, List.take_zero, Nat.reduceAdd]
        go_wp2_with fail
        refine c9.mono ?_
        rintro e w8 ⟨hb8, v8, rfl, ao, c, rfl, h8⟩
        go_wp2_with fail
        exact ⟨rfl, rfl, hb8, ao, c, rfl, h8.keep hg9 (fun _ _ _ => rfl)⟩
      · intro u w9 hb9 hd9
        have e16 := hd9 16 (by kernel_rfl)
        clear hd9
        obtain ⟨ao, c, e16x, h8⟩ := e16
        refine ⟨?_⟩
        simp only [Rel.canD, List.take_succ_cons, List.take_zero, Nat.reduceAdd]
        go_wp2_with fail
        exact ⟨rfl, rfl, Below.refl _ _, ao, c, rfl, h8⟩
      · intro u w9 hb9 hd9
        have e17 := hd9 17 (by kernel_rfl)
        clear hd9
        obtain ⟨ao, c, e17x, h8⟩ := e17
        refine ⟨?_⟩
        simp only [Rel.canD, List.take_succ_cons, List.take_zero, Nat.reduceAdd]
        go_wp2_with fail
        exact ⟨rfl, rfl, Below.refl _ _, ao, c, rfl, h8⟩
      · intro u w9 hb9 hd9
        have e17 := hd9 17 (by kernel_rfl)
        clear hd9
        obtain ⟨ao, c, e17x, h8⟩ := e17
        clear h8
        refine ⟨?_⟩
        simp only [Rel.canD, List.take_succ_cons, List.take_zero, Nat.reduceAdd]
        go_wp2_with fail
        exact ⟨rfl, rfl, Below.refl _ _, rfl⟩
      · intro u w9 hb9 hd9
        clear hd9
        have hbx : Below w9.heap.size w9 (w9.alloc (.cells #[.int .i64 0, .int .i64 0, .slice none 0 0] 77)) := (Below.refl _ w9).alloc (Nat.le_refl _) _
        have hnx := heap_alloc_new w9 (.cells #[.int .i64 0, .int .i64 0, .slice none 0 0] 77)
        have hsz := hb9.size
        refine ⟨?_⟩
        simp only [Rel.canD, List.take_succ_cons, List.take_zero, Nat.reduceAdd]
        go_wp2_with fail
        exact ⟨rfl, rfl, hbx, w9.heap.size, rfl, hsz, hnx⟩
      intro u w9 hb9 hR9
      simp only [Rel.canD, Nat.reduceAdd, List.take_succ_cons, List.take_zero, List.drop_succ_cons, List.drop_zero]
      obtain ⟨r, h20, hrge, hr9⟩ := hR9 20 (by decide)
      obtain ⟨ao, c, h18, hP9⟩ := hR9 18 (by decide)
      have h19 : u 19 = .bool true := hR9 19 (by decide)
      rw [h20, h18, h19]
      obtain ⟨XL, hXL⟩ : ∃ XL, XL = x.length := ⟨_, rfl⟩
      rw [← hXL] at hP9 ⊢
      have HXL := Lib.hid hXL
      have x0 := blk_cell hr9 0 (.int .i64 0) rfl
      have x1 := blk_cell hr9 1 (.int .i64 0) rfl
      have x2 := blk_cell hr9 2 (.slice none 0 0) rfl
      obtain ⟨nr, tr⟩ := set3 hr9 (.int .i64 next') (.int .i64 (b : Int)) (.slice ao XL c)
      have hP8 := hP9.keepT (G' := G) (fun _ h => h) (fun k9 C T f _ hc hT => tr.block k9 (lt_of_block hc) (fun e => by
        subst e
        rw [hr9] at hc
        cases hc
        rcases hT with h | h
        · exact absurd h (by decide)
        · exact absurd h (by decide)))
      have hb8 := tr.below (fun k hk => by rw [hk]; exact hrge : ∀ k, k = r → wr.heap.size ≤ k) hb9 hb9.size
      have HY := Lib.hid (And.intro hb8 (And.intro nr hP8))
      clear hR9 hb9 hr9 nr tr hP9 hP8 hb8 hXL
      go_wp2_with fail
      refine NoPanic.normal ?_
      clear x0 x1 x2
      generalize (((w9.setCell ⟨r, 0, none⟩ (.int .i64 next')).setCell ⟨r, 1, none⟩ (.int .i64 (b : Int))).setCell ⟨r, 2, none⟩ (.slice ao XL c)) = w8 at HY ⊢
      have p0 := (blk_cell HY.out.2.1 0 (.int .i64 next') rfl).1
      have p1 := (blk_cell HY.out.2.1 1 (.int .i64 (b : Int)) rfl).1
      have p2 := (blk_cell HY.out.2.1 2 (.slice ao XL c) rfl).1
      have CA := Lib.hid (add_w q g from_ n at' m next' G rs (next', b, x) ao c w8 (HJ.out.1.keep (fun _ h => h) (fun k _ hk => HY.out.1.block k hk)) (by rw [← HXL.out]; exact HY.out.2.2) (by have := HJ.out.2.2.2; have := HL.out.2.2.2; omega) ⟨by have := HB.out.2.2; omega, by have := Scans_num HX.out; have := HL.out.2.2.1; omega⟩ (by have := (find_le HF.out.1).2.1; have := HL.out.1; have := HL.out.2.1; show b ≤ _; omega) (by have := (find_le HF.out.1).2.2; show x.length ≤ _; omega) (fun k hk => HG.out k (Nat.le_trans HJ.out.2.1.size (Nat.le_trans HY.out.1.size hk))))
      rw [← HXL.out] at CA
      go_wp2_with fail
      refine CA.out.mono ?_
      rintro e w7 ⟨rfl, hJ7, ht7⟩
      obtain ⟨ps', k', hS', hps, hk⟩ := Scans_go HX.out HF.out.1 HF.out.2
      have hR : ∃ (next' : Int) (at' : Nat) (rs : List Rec) (ps : List Jr.Put) (k : Nat), JIn w7 q g G from_ n m next' at' rs ∧ Jr.Scans all s from_ next' at' N' A' ps k ∧ rs.flatMap (·.2.2) ++ ps = PS ∧ rs.length + k = K ∧ 2 ≤ at' ∧ at' ≤ n ∧ 0 ≤ next' ∧ Touch G w w7 := by
        rw [HXL.out] at hJ7
        refine ⟨_, _, _, ps', k', hJ7, hS', ?_, ?_, by omega, ?_, by have := HB.out.2.2; omega, HJ.out.2.1.trans ((Touch.of HY.out.1).trans ht7)⟩
        · rw [List.flatMap_append, List.flatMap_cons, List.flatMap_nil, List.append_nil, List.append_assoc, ← hps]; exact HJ.out.2.2.1
        · rw [List.length_append, List.length_singleton]; have := HJ.out.2.2.2; omega
        · have := (find_le HF.out.1).2.1; have := HL.out.1; show b + x.length + 2 ≤ n; omega
      have HREL := Lib.hid hR
      have hM : (N' - intOf ((w7.cell? ⟨q, 4, none⟩).getD undef)).toNat < (N' - intOf ((wr.cell? ⟨q, 4, none⟩).getD undef)).toNat := by
        obtain ⟨⟨ov7, hq7, _⟩, _⟩ := hJ7
        rw [(blk_cell hq7 4 _ rfl).1, (blk_cell HQ.out 4 _ rfl).1]
        have := Scans_num HX.out
        show (N' - (next' + 1)).toNat < (N' - next').toNat
        omega
      have HM := Lib.hid hM
      clear hR hM hJ7 ht7 hS' hps hk p0 p1 p2 CA
      go_wp2_with fail
      go_roundw
      case rel => exact HREL.out
      case measure => exact HM.out
end Go.Proofs.Ytjdmmnpfjbnhoaa
namespace Go.Proofs.Ytjdmmnpfjbnhoaa
open Go.RowKit

set_option maxHeartbeats 1600000 in
set_option maxRecDepth 100000 in
theorem owed_w (q g from_ n at_ : Nat) (m next : Int) (G : Nat → Prop) (rs : List Rec) (w : World) (h : JIn w q g G from_ n m next at_ rs) :
    Calls Try.prog 24 #[.pointer (some ⟨q, 0, none⟩)] w fun e w' => e = .returned (.int .i64 (rs.length : Int)) ∧ w = w' := by
  obtain ⟨⟨ov, hq, hR⟩, hGq⟩ := h
  obtain ⟨a, c, rfl, -⟩ := hR.shape
  have c6 := (blk_cell hq 6 _ rfl).1
  simp only [List.getElem_toArray, List.getElem_cons_zero, List.getElem_cons_succ] at c6
  clear hq hR hGq
  generalize rs.length = k at *
  go_enter Try.func24, Try.ntmps24
  go_wp2_with fail
  go_ret
  exact ⟨rfl, rfl⟩
set_option maxHeartbeats 1600000 in
set_option maxRecDepth 100000 in
theorem number_w (q g from_ n at_ : Nat) (m next : Int) (G : Nat → Prop) (rs : List Rec) (w : World) (h : JIn w q g G from_ n m next at_ rs) :
    Calls Try.prog 10 #[.pointer (some ⟨q, 0, none⟩)] w fun e w' => e = .returned (.int .i64 next) ∧ w = w' := by
  obtain ⟨⟨ov, hq, hR⟩, hGq⟩ := h
  have c4 := (blk_cell hq 4 _ rfl).1
  simp only [List.getElem_toArray, List.getElem_cons_zero, List.getElem_cons_succ] at c4
  clear hq hR hGq
  go_enter Try.func10, Try.ntmps10
  go_wp2_with fail
  go_ret
  exact ⟨rfl, rfl⟩
set_option maxHeartbeats 1600000 in
set_option maxRecDepth 100000 in
theorem forget_w (q g from_ n at_ : Nat) (m next : Int) (G : Nat → Prop) (rs : List Rec) (w : World) (h : JIn w q g G from_ n m next at_ rs) :
    Calls Try.prog 51 #[.pointer (some ⟨q, 0, none⟩)] w fun e w' => e = .returned (.int .i64 0) ∧ JIn w' q g G from_ n m next at_ [] ∧ Touch G w w' := by
  obtain ⟨⟨ov, hq, hR⟩, hGq⟩ := h
  obtain ⟨a, c, rfl, -⟩ := hR.shape
  have c6 := blk_cell hq 6 _ rfl
  simp only [List.getElem_toArray, List.getElem_cons_zero, List.getElem_cons_succ] at c6
  have hq8 := heap_setCell_same w q 6 _ _ (.slice none 0 0) hq
  have HX := Lib.hid (And.intro hq8 (And.intro hGq (Touch.cell (w := w) hGq 6 (.slice none 0 0))))
  clear hq hR hq8 hGq
  go_enter Try.func51, Try.ntmps51
  go_wp2_with fail
  go_ret
  exact ⟨rfl, ⟨⟨_, HX.out.1, Recs.nil G _⟩, HX.out.2.1⟩, HX.out.2.2⟩
end Go.Proofs.Ytjdmmnpfjbnhoaa
namespace Go.Proofs.Ytjdmmnpfjbnhoaa
open Go.RowKit

theorem writes_app (d : Dv.S) (a b : List Jr.Put) : Jr.writes d (a ++ b) = Jr.seqE (Jr.writes d a) (fun d => Jr.writes d b) := by
  induction a generalizing d with
  | nil => show Jr.writes d b = Jr.seqE (d, 0) _; unfold Jr.seqE; rfl
  | cons p l ih =>
    show Jr.seqE (Dv.write d p.1 [p.2]) (fun d => Jr.writes d (l ++ b)) = Jr.seqE (Jr.seqE (Dv.write d p.1 [p.2]) (fun d => Jr.writes d l)) _
    unfold Jr.seqE
    by_cases h : (Dv.write d p.1 [p.2]).2 = 0
    · simp only [h, if_true]
      exact ih _
    · simp only [h, if_false]
theorem PRow.nth {G : Nat → Prop} {w : World} {a : Option Addr} {n cap : Nat} {puts : List Jr.Put} (h : PRow G w (.slice a n cap) puts) {k : Nat} {p : Jr.Put} (hx : puts[k]? = some p) : ∃ (b : Nat) (u : Value), a = some ⟨b, 0, none⟩ ∧ G b ∧ w.cell? ⟨b, k * 2, none⟩ = some (.int .i64 (p.1 : Int)) ∧ w.cell? ⟨b, k * 2 + 1, none⟩ = some u ∧ OBk G w u p.2 := by
  obtain ⟨us, h1, h2, h3, h4⟩ := h
  obtain ⟨hk, he⟩ := List.getElem?_eq_some_iff.1 hx
  rcases h2.2 with ⟨hv, h0⟩ | ⟨g, cap', cur, hv, hg, hh, h5, h6, h7, h8⟩
  · rw [h0] at hk; cases hk
  · cases hv
    have hz : k < (puts.zip us).length := by rw [List.length_zip]; omega
    have hfl := fun j (hj : j < 2) => Dv.flat_at (f := pc) (c := 2) (ls := puts.zip us) (fun x _ => rfl) k j hz hj
    have h9 : ∀ j, j < 2 → cur[k * 2 + j]? = (pc (puts.zip us)[k])[j]? := fun j hj => by
      rw [← hfl j hj, ← h8, List.getElem?_take_of_lt (by omega)]
      simp
    have e : (puts.zip us)[k] = (p, us[k]'(by omega)) := by simp [he]
    rw [e] at h9
    have hP := h4 k (by omega) hk
    rw [he] at hP
    refine ⟨g, us[k]'(by omega), rfl, h3 g rfl, ?_, ?_, hP⟩
    · have := h9 0 (by decide)
      simp only [World.cell?, hh]
      simpa [pc] using this
    · have := h9 1 (by decide)
      simp only [World.cell?, hh]
      simpa [pc] using this
theorem obk_bs2 {F : Nat → Prop} {w : World} {q g o n c : Nat} {x : List UInt8} {f : Nat × Nat} (hq : w.heap[q]? = some (.cells #[.slice (some ⟨g, o, none⟩) n c] 22 f)) (hF : ¬ F q) (hy : OBk (fun k => ¬ F k) w (.slice (some ⟨g, o, none⟩) n c) x) : BsOut F w (.slice (some ⟨q, 0, none⟩) 1 1) [x] := by
  refine ⟨_, 1, rfl, Nat.le_refl _, by decide, .inr ⟨q, 0, rfl, lt_of_block hq, hF, fun j hj => ?_⟩⟩
  obtain rfl : j = 0 := by simpa using hj
  exact ⟨_, by simp [World.cell?, hq], hy.bout (fun k h => h)⟩
/-- No call fails: so far it is written. -/
def PayS (wb : World) (F : Nat → Prop) (g : Nat) (d : Dv.S) (s k0 q0 : Nat) (ps : List Jr.Put) (W : World) : Prop := ∃ d', Jr.writes d ps = (d', 0) ∧ Cl d' s (k0 + ps.length) (q0 + ps.length) ∧ St wb F g d' W
section
variable {wb W W' : World} {F : Nat → Prop} {g : Nat} {d : Dv.S} {s k0 q0 : Nat} {ps : List Jr.Put}
theorem PayS.start (h : Dev13 wb g d F) (hc : Cl d s k0 q0) : PayS wb F g d s k0 q0 [] wb := ⟨d, rfl, hc, St.refl h⟩
theorem PayS.block (h : PayS wb F g d s k0 q0 ps W) {b : Nat} (hb : b < wb.heap.size) (hF : ¬ F b) : W.heap[b]? = wb.heap[b]? := by
  obtain ⟨d', _, _, hS⟩ := h
  exact hS.block hb hF
theorem PayS.cell (h : PayS wb F g d s k0 q0 ps W) {b c : Nat} {v : Value} (hF : ¬ F b) (hc : wb.cell? ⟨b, c, none⟩ = some v) : W.cell? ⟨b, c, none⟩ = some v := by
  rw [← hc]
  exact World.cell?_of_block (a := ⟨b, c, none⟩) (h.block (World.block_lt_of_cell? wb _ hc) hF)
theorem PayS.later (h : PayS wb F g d s k0 q0 ps W) (hb : Below W.heap.size W W') : PayS wb F g d s k0 q0 ps W' := by
  obtain ⟨d', h1, h2, F', hD, ht, hm⟩ := h
  exact ⟨d', h1, h2, F', hD.later hb, ht.trans (Touch.of hb), hm⟩
theorem PayS.write (h : PayS wb F g d s k0 q0 ps W) (hb : Below W.heap.size W W') (p : Jr.Put) (v : Value) (hp : p.1 < s) (h64 : p.2.length = 64) (hk : k0 + ps.length ≤ 1000000) (hq : q0 + ps.length ≤ 100000) (hs : s ≤ 65536)
    (hv : ∀ F', (∀ k, F' k → (F k ∨ wb.heap.size ≤ k) ∧ k < W.heap.size) → BsOut F' W' v [p.2]) :
    Calls Try.prog 56 #[.pointer (some ⟨g, 0, none⟩), .int .i64 (p.1 : Int), v] W' fun e w' => e = .returned (.int .i64 0) ∧ PayS wb F g d s k0 q0 (ps ++ [p]) w' := by
  obtain ⟨d', h1, h2, F', hD, ht, hm⟩ := h
  obtain ⟨d2, e2, c2⟩ := h2.write p.1 [p.2] (by rw [List.length_singleton]; omega) (fun x hx => by rw [List.mem_singleton.1 hx]; exact h64)
  refine (write_w g d' F' p.1 v [p.2] W' (hD.later hb) (Nat.le_trans h2.n hk) (Nat.le_trans h2.wait hq) (hv F' (fun k hk => ⟨hm k hk, hD.lt k hk⟩)) (by rw [List.length_singleton]; decide) (by omega)).mono fun e w' ⟨F'', he, hD', ht', hm'⟩ => ?_
  rw [e2] at he hD'
  refine ⟨he, d2, ?_, ?_, St.next (ht.trans (Touch.of hb)) hm hD' ht' hm'⟩
  · rw [writes_app, h1]
    unfold Jr.seqE
    simp only [if_true]
    show Jr.seqE (Dv.write d' p.1 [p.2]) (fun d => (d, 0)) = _
    rw [e2]
    rfl
  · rw [List.length_append, ← Nat.add_assoc, ← Nat.add_assoc]
    exact c2
end
set_option maxHeartbeats 12800000 in
set_option maxRecDepth 100000 in
theorem pay_w (q g from_ n at_ : Nat) (m next : Int) (G : Nat → Prop) (rs : List Rec) (d : Dv.S) (F : Nat → Prop) (s k0 q0 : Nat) (w : World) (hJ : JIn w q g G from_ n m next at_ rs) (hD : Dev13 w g d F) (hGF : ∀ k, G k → ¬ F k) (hGl : ∀ k, G k → k < w.heap.size) (hc : Cl d s k0 q0) (hs : s ≤ 65536) (hk : k0 + (rs.flatMap (·.2.2)).length ≤ 1000000) (hq0 : q0 + (rs.flatMap (·.2.2)).length ≤ 100000) (hp : ∀ x ∈ rs, ∀ p ∈ x.2.2, p.1 < s ∧ p.2.length = 64) :
    Calls Try.prog 49 #[.pointer (some ⟨q, 0, none⟩)] w fun e w' => e = .returned (.int .i64 0) ∧ PayS w F g d s k0 q0 (rs.flatMap (·.2.2)) w' := by
  obtain ⟨⟨ov, hq, hR⟩, hGq⟩ := hJ
  obtain ⟨oa, oc, rfl, hoc, hoc9, hob⟩ := hR.shape
  obtain ⟨L, hL⟩ : ∃ L, L = rs.length := ⟨_, rfl⟩
  rw [← hL] at hoc hq hR
  have c6 := (blk_cell hq 6 _ rfl).1
  simp only [List.getElem_toArray, List.getElem_cons_zero, List.getElem_cons_succ] at c6
  have HJ := Lib.hid (And.intro hq (And.intro hGq hR))
  have HP := Lib.hid (And.intro hp (And.intro hob (And.intro hk (And.intro hq0 (And.intro hs hL)))))
  have HGF := Lib.hid hGF
  have HGL := Lib.hid hGl
  have HS0 := Lib.hid (PayS.start hD hc)
  have hli : (L : Int) ≤ 9223372036854775807 := by omega
  clear hq hR hGq hD hc hGF hGl hp hob hk hq0 hs hL
  go_enter Try.func49, Try.ntmps49
  go_wp2_with fail
  go_loopw [13] (fun i wr => ∃ k : Nat, k ≤ L ∧ i = .int .i64 k ∧ PayS w F g d s k0 q0 ((rs.take k).flatMap (·.2.2)) wr) (fun i _ => L - (intOf i).toNat)
  case atStart => exact ⟨0, Nat.zero_le _, rfl, HS0.out⟩
  case round =>
    obtain ⟨k, hk, rfl, hS⟩ := hrel
    clear HS0 c6
    by_cases hlt : k < L
    · have hki : (k : Int) < L := by omega
      have hkl : k < rs.length := by rw [← HP.out.2.2.2.2.2]; exact hlt
      obtain ⟨b, hoa⟩ := HP.out.2.1 (fun e => by rw [e] at hkl; cases hkl)
      subst hoa
      obtain ⟨pv, r0, r1, r2, hPR⟩ := HJ.out.2.2.nth (List.getElem?_eq_getElem hkl)
      obtain ⟨X, hX⟩ : ∃ X, X = rs[k] := ⟨_, rfl⟩
      have hpX := HP.out.1 _ (List.getElem_mem hkl)
      have hTK : (rs.take (k + 1)).flatMap (·.2.2) = (rs.take k).flatMap (·.2.2) ++ rs[k].2.2 := by
        rw [List.take_add_one, List.getElem?_eq_getElem hkl, List.flatMap_append]; simp
      have hLE : ((rs.take k).flatMap (·.2.2)).length + rs[k].2.2.length ≤ (rs.flatMap (·.2.2)).length := by
        rw [← List.length_append, ← hTK]
        conv => rhs; rw [← List.take_append_drop (k + 1) rs, List.flatMap_append, List.length_append]
        omega
      rw [← hX] at r0 r1 hPR hpX hTK hLE
      clear hX
      obtain ⟨N, Y, ps⟩ := X
      simp only at r0 r1 hPR hpX hTK hLE
      have hGb : ¬ F b := HGF.out b (HJ.out.2.2.choose_spec.2.2.1 b rfl)
      have r0 := hS.cell hGb r0
      have r1 := hS.cell hGb r1
      have r2 := hS.cell hGb r2
      obtain ⟨pa, pc, rfl, hpc, hpc9⟩ := hPR.shape
      obtain ⟨M, hM⟩ : ∃ M, M = ps.length := ⟨_, rfl⟩
      rw [← hM] at r2 hPR hpc
      obtain ⟨DK, hDK⟩ : ∃ DK, DK = (rs.take k).flatMap (·.2.2) := ⟨_, rfl⟩
      rw [← hDK] at hS hTK hLE
      have hnr := heap_alloc_new wr (.cells #[.int .i64 N, .int .i64 (Y : Int), .slice pa M pc] 77)
      have hba : Below wr.heap.size wr (wr.alloc (.cells #[.int .i64 N, .int .i64 (Y : Int), .slice pa M pc] 77)) := (Below.refl _ wr).alloc (Nat.le_refl _) _
      have HK := Lib.hid (And.intro hTK (And.intro hLE (And.intro hpX (And.intro hM hPR))))
      have HS := Lib.hid (hS.later hba)
      clear hS hTK hLE hpX hM hPR hDK hkl
      go_upto_region 4 with fail
      have c2 := (blk_cell hnr 2 (.slice pa M pc) rfl).1
      generalize wr.alloc _ = w3 at *
      clear r0 r1 r2 hba
      go_wp2_with fail
      have hMi : (M : Int) ≤ 9223372036854775807 := by omega
      go_loopw [20] (fun i wr => ∃ j : Nat, j ≤ M ∧ i = .int .i64 j ∧ PayS w F g d s k0 q0 (DK ++ ps.take j) wr) (fun i _ => M - (intOf i).toNat)
      case atStart => exact ⟨0, Nat.zero_le _, rfl, by rw [List.take_zero, List.append_nil]; exact HS.out⟩
      case round =>
        obtain ⟨j, hj, rfl, hS⟩ := hrel
        clear HS c2 hnr
        by_cases hjt : j < M
        · have hji : (j : Int) < M := by omega
          have hjl : j < ps.length := by rw [← HK.out.2.2.2.1]; exact hjt
          obtain ⟨pb, u, rfl, hGpb, f1, f2, hu⟩ := HK.out.2.2.2.2.nth (List.getElem?_eq_getElem hjl)
          have hp1 := HK.out.2.2.1 _ (List.getElem_mem hjl)
          have hTJ : DK ++ ps.take (j + 1) = (DK ++ ps.take j) ++ [ps[j]] := by
            rw [List.take_add_one, List.getElem?_eq_getElem hjl, List.append_assoc]; rfl
          have hLJ : (DK ++ ps.take j).length + 1 ≤ (rs.flatMap (·.2.2)).length := by
            have := HK.out.2.1
            rw [List.length_append, List.length_take]
            omega
          generalize ps[j] = p at *
          obtain ⟨pa, px⟩ := p
          simp only at f1 hu hp1
          have hFp : ¬ F pb := HGF.out pb hGpb
          have f1 := hS.cell hFp f1
          have f2 := hS.cell hFp f2
          have h64 := hp1.2
          obtain ⟨xb, xo, xc, XC, xf, rfl, hx1, hx2, hGx, -, -⟩ := id hu
          rw [h64] at f2 hu hx1
          have hnp := heap_alloc_new wr (.cells #[.int .i64 (pa : Int), .slice (some ⟨xb, xo, none⟩) 64 xc] 37)
          have hbp : Below wr.heap.size wr (wr.alloc (.cells #[.int .i64 (pa : Int), .slice (some ⟨xb, xo, none⟩) 64 xc] 37)) := (Below.refl _ wr).alloc (Nat.le_refl _) _
          have hS4 := hS.later hbp
          have hq4 := (hS4.block (lt_of_block HJ.out.1) (HGF.out q HJ.out.2.1)).trans HJ.out.1
          go_upto_region 7 with fail
          obtain ⟨r6, hr6⟩ : ∃ r, r = wr.heap.size := ⟨_, rfl⟩
          rw [← hr6] at hnp ⊢
          generalize wr.alloc _ = w4 at hnp hbp hS4 hq4 ⊢
          have HS4 := Lib.hid (And.intro hS4 (And.intro hu (And.intro hTJ (And.intro hLJ hp1))))
          have HQ4 := Lib.hid hq4
          have HNP := Lib.hid hnp
          clear hnp hbp hS4 hq4 hS hr6 hu hTJ hLJ hp1 h64 hx1 hx2 hGx f1 f2 hjl hFp hGpb
          refine Rel.region_tail 10 (by kernel_rfl) [some 24, some 25, some 26, some 27, some 28, some 29, some 30, some 31, some 32, some 33, some 34, some 7] (by kernel_rfl) (by kernel_rfl) (by kernel_rfl) [.eq (.pointer (some ⟨q, 0, none⟩)), .eq (.pointer (some ⟨q, 0, none⟩)), .eq (.pointer (some ⟨q, 0, none⟩)), .eq (.pointer (some ⟨q, 0, none⟩)), .eq (.pointer (some ⟨g, 0, none⟩)), .eq (.pointer (some ⟨r6, 0, none⟩)), .eq (.int .i64 (pa : Int)), .eq (.pointer (some ⟨r6, 1, none⟩)), .eq (.slice (some ⟨xb, xo, none⟩) 64 xc), ⟨fun v w => ∃ b, v = .slice (some ⟨b, 0, none⟩) 1 1 ∧ w4.heap.size ≤ b ∧ w.heap[b]? = some (.cells #[.slice (some ⟨xb, xo, none⟩) 64 xc] 22 (0, 0)), fun _ _ _ h hb => by obtain ⟨b, h1, h2, h3⟩ := h; exact ⟨b, h1, h2, (hb.block b (lt_of_block h3)).trans h3⟩⟩] ⟨?_, ?_, ?_, ?_, ?_, ?_, ?_, ?_, ?_, ?_, trivial⟩ ?_
          · intro u w9 hb9 hd9
            clear hd9
            refine ⟨?_⟩
            simp only [Rel.canD, List.take_zero]
            go_wp2_with fail
            exact ⟨rfl, rfl, Below.refl _ _, rfl⟩
          · intro u w9 hb9 hd9
            have e0 : u 0 = .pointer (some ⟨q, 0, none⟩) := hd9 0 (by kernel_rfl)
            clear hd9
            refine ⟨?_⟩
            simp only [Rel.canD, List.take_succ_cons, List.take_zero, Nat.reduceAdd]
            go_wp2_with fail
            exact ⟨rfl, rfl, Below.refl _ _, rfl⟩
          · intro u w9 hb9 hd9
            have e1 : u 1 = .pointer (some ⟨q, 0, none⟩) := hd9 1 (by kernel_rfl)
            clear hd9
            refine ⟨?_⟩
            simp only [Rel.canD, List.take_succ_cons, List.take_zero, Nat.reduceAdd]
            go_wp2_with fail
            exact ⟨rfl, rfl, Below.refl _ _, rfl⟩
          · intro u w9 hb9 hd9
            have e2 : u 2 = .pointer (some ⟨q, 0, none⟩) := hd9 2 (by kernel_rfl)
            clear hd9
            refine ⟨?_⟩
            simp only [Rel.canD, List.take_succ_cons, List.take_zero, Nat.reduceAdd]
            go_wp2_with fail
            exact ⟨rfl, rfl, Below.refl _ _, rfl⟩
          · intro u w9 hb9 hd9
            have e3 : u 3 = .pointer (some ⟨q, 0, none⟩) := hd9 3 (by kernel_rfl)
            clear hd9
            have q9 := (hb9.block q (lt_of_block HQ4.out)).trans HQ4.out
            have c90 := (blk_cell q9 0 _ rfl).1
            clear q9
            simp only [List.getElem_toArray, List.getElem_cons_zero, List.getElem_cons_succ] at c90
            refine ⟨?_⟩
            simp only [Rel.canD, List.take_succ_cons, List.take_zero, Nat.reduceAdd]
            go_wp2_with fail
            exact ⟨rfl, rfl, Below.refl _ _, rfl⟩
          · intro u w9 hb9 hd9
            clear hd9
            refine ⟨?_⟩
            simp only [Rel.canD, List.take_succ_cons, List.take_zero, Nat.reduceAdd]
            go_wp2_with fail
            exact ⟨rfl, rfl, Below.refl _ _, rfl⟩
          · intro u w9 hb9 hd9
            have e5 : u 5 = .pointer (some ⟨r6, 0, none⟩) := hd9 5 (by kernel_rfl)
            clear hd9
            have q9 := (hb9.block r6 (lt_of_block HNP.out)).trans HNP.out
            have c90 := (blk_cell q9 0 _ rfl).1
            clear q9
            simp only [List.getElem_toArray, List.getElem_cons_zero, List.getElem_cons_succ] at c90
            refine ⟨?_⟩
            simp only [Rel.canD, List.take_succ_cons, List.take_zero, Nat.reduceAdd]
            go_wp2_with fail
            exact ⟨rfl, rfl, Below.refl _ _, rfl⟩
          · intro u w9 hb9 hd9
            clear hd9
            refine ⟨?_⟩
            simp only [Rel.canD, List.take_succ_cons, List.take_zero, Nat.reduceAdd]
            go_wp2_with fail
            exact ⟨rfl, rfl, Below.refl _ _, rfl⟩
          · intro u w9 hb9 hd9
            have e7 : u 7 = .pointer (some ⟨r6, 1, none⟩) := hd9 7 (by kernel_rfl)
            clear hd9
            have q9 := (hb9.block r6 (lt_of_block HNP.out)).trans HNP.out
            have c91 := (blk_cell q9 1 _ rfl).1
            clear q9
            simp only [List.getElem_toArray, List.getElem_cons_zero, List.getElem_cons_succ] at c91
            refine ⟨?_⟩
            simp only [Rel.canD, List.take_succ_cons, List.take_zero, Nat.reduceAdd]
            go_wp2_with fail
            exact ⟨rfl, rfl, Below.refl _ _, rfl⟩
          · intro u w9 hb9 hd9
            have e8 : u 8 = .slice (some ⟨xb, xo, none⟩) 64 xc := hd9 8 (by kernel_rfl)
            clear hd9
            have hbx : Below w9.heap.size w9 (w9.alloc (.cells #[.slice (some ⟨xb, xo, none⟩) 64 xc] 22)) := (Below.refl _ w9).alloc (Nat.le_refl _) _
            have hnx := heap_alloc_new w9 (.cells #[.slice (some ⟨xb, xo, none⟩) 64 xc] 22)
            have hsz := hb9.size
            refine ⟨?_⟩
            simp only [Rel.canD, List.take_succ_cons, List.take_zero, Nat.reduceAdd]
            go_wp2_with fail
            exact ⟨rfl, rfl, hbx, w9.heap.size, rfl, hsz, hnx⟩
          intro u w9 hb9 hR9
          simp only [Rel.canD, Nat.reduceAdd, List.take_succ_cons, List.take_zero, List.drop_succ_cons, List.drop_zero]
          obtain ⟨b9, h9, hb9s, hc9⟩ := hR9 9 (by decide)
          have h4 : u 4 = .pointer (some ⟨g, 0, none⟩) := hR9 4 (by decide)
          have h6 : u 6 = .int .i64 (pa : Int) := hR9 6 (by decide)
          rw [h9, h4, h6]
          have CW := Lib.hid (HS4.out.1.write hb9 (pa, px) (.slice (some ⟨b9, 0, none⟩) 1 1) HS4.out.2.2.2.2.1 HS4.out.2.2.2.2.2 (by have := HS4.out.2.2.2.1; have := HP.out.2.2.1; omega) (by have := HS4.out.2.2.2.1; have := HP.out.2.2.2.1; omega) HP.out.2.2.2.2.1
            (fun F' hF' => obk_bs2 hc9 (fun hf => by have := (hF' b9 hf).2; omega) (HS4.out.2.1.keep (fun k hk hf => (hF' k hf).1.elim (HGF.out k hk) (fun h => by have := HGL.out k hk; omega)) (fun k C fr hk hcc => by
              have hb4 := HS4.out.1.block (HGL.out k hk) (HGF.out k hk)
              rw [← hb4] at hcc ⊢
              exact hb9.block k (lt_of_block hcc)))))
          clear hR9 hb9 hb9s hc9 h9 h4 h6
          go_wp2_with fail
          refine CW.out.mono ?_
          rintro e w8 ⟨rfl, hS8⟩
          rw [← HS4.out.2.2.1] at hS8
          have HS8 := Lib.hid hS8
          clear hS8 CW
          go_wp2_with fail
          go_roundw
          case rel => exact ⟨j + 1, by omega, by go_num, HS8.out⟩
          case measure => simp [intOf]; omega
        · have hji : ¬ (j : Int) < M := by omega
          obtain rfl : j = M := by omega
          have HY : Hid (PayS w F g d s k0 q0 ((rs.take (k + 1)).flatMap (·.2.2)) wr) := Lib.hid (by
            rw [HK.out.1]
            rw [HK.out.2.2.2.1, List.take_length] at hS
            exact hS)
          clear hS hj hjt
          go_wp2_with fail
          go_roundw
          case rel => exact ⟨k + 1, by omega, by go_num, HY.out⟩
          case measure => simp [intOf]; omega
    · have hki : ¬ (k : Int) < L := by omega
      obtain rfl : k = L := by omega
      rw [HP.out.2.2.2.2.2, List.take_length] at hS
      have HY := Lib.hid hS
      clear hS hk hlt
      go_wp2_with fail
      go_ret
      exact ⟨rfl, HY.out⟩
end Go.Proofs.Ytjdmmnpfjbnhoaa
