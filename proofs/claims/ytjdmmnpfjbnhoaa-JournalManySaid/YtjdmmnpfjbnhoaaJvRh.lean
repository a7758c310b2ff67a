/- Package journal, the program: which puts are refused. -/
import Derived.Test.YtjdmmnpfjbnhoaaJvZ
import Derived.Test.YtjdmmnpfjbnhoaaJrP
namespace Go.Proofs.Ytjdmmnpfjbnhoaa
open Go.RowKit

set_option maxHeartbeats 6400000 in
set_option maxRecDepth 100000 in
theorem wrong_w (g q jb from_ n at_ pa : Nat) (m next : Int) (rs : List Rec) (G : Nat → Prop) (d : Dv.S) (F : Nat → Prop) (ao : Option Addr) (c : Nat) (w : World) (hJ : JIn w q g G from_ n m next at_ rs) (hD : Dev13 w g d F) (hjb : w.heap[jb]? = some (.cells #[.pointer (some ⟨q, 0, none⟩)] 29 (0, 0))) (hf : from_ + n ≤ 1000000) (hp : Jr.outside pa d.safe.length from_ n) :
    Calls Try.prog 52 #[.agg #[.int .i64 (pa : Int), .slice ao 64 c], .pointer (some ⟨jb, 0, none⟩)] w fun e w' => e = .returned (.bool false) ∧ Below w.heap.size w w' := by
  obtain ⟨ov, hq, -⟩ := id hJ.ex
  have hba : Below w.heap.size w (w.alloc (.cells #[.int .i64 (pa : Int), .slice ao 64 c] 37)) := (Below.refl _ w).alloc (Nat.le_refl _) _
  have hnp := heap_alloc_new w (.cells #[.int .i64 (pa : Int), .slice ao 64 c] 37)
  have CO := Lib.hid (fun W (hb : Below w.heap.size w W) => by
    have := outside_w g from_ n pa d F W (hD.later hb) hf
    rw [decide_eq_true hp] at this
    exact this)
  have hq1 := (hba.block q (lt_of_block hq)).trans hq
  have hjb1 := (hba.block jb (lt_of_block hjb)).trans hjb
  clear hJ hD hf hp hq hjb
  go_enter Try.func52, Try.ntmps52
  go_upto_region 1 with fail
  generalize w.alloc _ = w1 at *
  obtain ⟨r, hr⟩ : ∃ r, r = w.heap.size := ⟨_, rfl⟩
  rw [← hr] at hnp ⊢
  clear hr
  have l0 := fun p : LateOf w1 => p.cell (blk_cell hjb1 0 (.pointer (some ⟨q, 0, none⟩)) rfl).1
  have l1 := fun p : LateOf w1 => p.cell (blk_cell hq1 0 (.pointer (some ⟨g, 0, none⟩)) rfl).1
  have l2 := fun p : LateOf w1 => p.cell (blk_cell hq1 1 (.int .i64 (from_ : Int)) rfl).1
  have l3 := fun p : LateOf w1 => p.cell (blk_cell hq1 2 (.int .i64 (n : Int)) rfl).1
  have l4 := fun p : LateOf w1 => p.cell (blk_cell hnp 0 (.int .i64 (pa : Int)) rfl).1
  have l5 := fun p : LateOf w1 => p.cell (blk_cell hnp 1 (.slice ao 64 c) rfl).1
  have HB := Lib.hid hba
  clear hba hq1 hjb1 hnp
  refine wp_region_late (by kernel_rfl) (by kernel_rfl) ?_
  iterate 6 quiet_step (fail)
  quiet_step (exact late _ (CO.out _ (bt5 HB.out (LateOf.h _))))
  iterate 8 quiet_step (fail)
  refine wpQuiet_nil ?_
  intro w2 hw'
  have hb2 : Below w1.heap.size w1 w2 := (by obtain ⟨p, rfl⟩ := hw'; exact p.h)
  have HB2 := Lib.hid (bt5 HB.out hb2)
  clear hw' l0 l1 l2 l3 l4 l5 hb2 HB
  go_wp2_with fail
  go_ret
  exact ⟨rfl, HB2.out⟩
end Go.Proofs.Ytjdmmnpfjbnhoaa
namespace Go.Proofs.Ytjdmmnpfjbnhoaa
open Go.RowKit

set_option maxHeartbeats 6400000 in
set_option maxRecDepth 100000 in
theorem index_w (g q jb from_ n at_ : Nat) (m next : Int) (rs : List Rec) (G : Nat → Prop) (d : Dv.S) (F : Nat → Prop) (v : Value) (puts : List Jr.Put) (w : World) (hJ : JIn w q g G from_ n m next at_ rs) (hD : Dev13 w g d F) (hjb : w.heap[jb]? = some (.cells #[.pointer (some ⟨q, 0, none⟩)] 29 (0, 0))) (hf : from_ + n ≤ 1000000) (hv : PRd w v puts) (hp : ∀ p ∈ puts, Jr.outside p.1 d.safe.length from_ n ∧ p.2.length = 64) :
    Calls Try.prog 65 #[v, .func (.func 52) #[] #[.pointer (some ⟨jb, 0, none⟩)]] w fun e w' => e = .returned (.int .i64 (-1)) ∧ Below w.heap.size w w' := by
  obtain ⟨ao, cap, rfl, hc, hc9, -⟩ := id hv
  have CW := Lib.hid (fun W (hb : Below w.heap.size w W) pa xa xc hp => wrong_w g q jb from_ n at_ pa m next rs G d F xa xc W (hJ.keep (fun _ h => h) (fun k _ hk => hb.block k hk)) (hD.later hb) ((hb.block jb (lt_of_block hjb)).trans hjb) hf hp)
  have HP := Lib.hid (And.intro hv hp)
  obtain ⟨L, hL⟩ : ∃ L, L = puts.length := ⟨_, rfl⟩
  rw [← hL] at hc ⊢
  have HL := Lib.hid hL
  have hli : (L : Int) ≤ 9223372036854775807 := by omega
  clear hJ hD hjb hf hv hp hL
  go_enter Try.func65, Try.ntmps65
  go_wp2_with fail
  go_loopw [8] (fun i wr => ∃ k : Nat, k ≤ L ∧ i = .int .i64 k ∧ Below w.heap.size w wr) (fun i _ => L - (intOf i).toNat)
  case atStart => exact ⟨0, Nat.zero_le _, rfl, Below.refl _ _⟩
  case round =>
    obtain ⟨k, hk, rfl, hbr⟩ := hrel
    by_cases hlt : k < L
    · have hki : (k : Int) < L := by omega
      have hkl : k < puts.length := by rw [← HL.out]; exact hlt
      have hpk := HP.out.2 _ (List.getElem_mem hkl)
      have hpe : puts[k]? = some puts[k] := List.getElem?_eq_getElem hkl
      generalize puts[k] = p at *
      obtain ⟨pa, px⟩ := p
      have hv := HP.out.1
      rw [← HL.out] at hv
      obtain ⟨b, o, xb, xo, cv, rfl, f1, f2, -, -, -, -, -⟩ := hv.nth (fun p hp => (HP.out.2 p hp).2) hpe
      have f1 := cell_later hbr f1
      have f2 := cell_later hbr f2
      have cW := CW.out wr hbr pa (some ⟨xb, xo, none⟩) cv hpk.1
      have HB := Lib.hid hbr
      clear hbr hv hpk hpe hkl
      go_wp2_with fail
      refine cW.mono ?_
      rintro e w2 ⟨rfl, hb2⟩
      have HB2 := Lib.hid (bt5 HB.out hb2)
      clear hb2 cW f1 f2
      go_wp2_with fail
      go_roundw
      case rel => exact ⟨k + 1, by omega, by go_num, HB2.out⟩
      case measure => simp [intOf]; omega
    · have hki : ¬ (k : Int) < L := by omega
      have HB := Lib.hid hbr
      clear hbr
      go_wp2_with fail
      go_ret
      exact ⟨rfl, HB.out⟩
set_option maxHeartbeats 1600000 in
set_option maxRecDepth 100000 in
theorem contains_w (g q jb from_ n at_ : Nat) (m next : Int) (rs : List Rec) (G : Nat → Prop) (d : Dv.S) (F : Nat → Prop) (v : Value) (puts : List Jr.Put) (w : World) (hJ : JIn w q g G from_ n m next at_ rs) (hD : Dev13 w g d F) (hjb : w.heap[jb]? = some (.cells #[.pointer (some ⟨q, 0, none⟩)] 29 (0, 0))) (hf : from_ + n ≤ 1000000) (hv : PRd w v puts) (hp : ∀ p ∈ puts, Jr.outside p.1 d.safe.length from_ n ∧ p.2.length = 64) :
    Calls Try.prog 54 #[v, .func (.func 52) #[] #[.pointer (some ⟨jb, 0, none⟩)]] w fun e w' => e = .returned (.bool false) ∧ Below w.heap.size w w' := by
  have CI := Lib.hid (index_w g q jb from_ n at_ m next rs G d F v puts w hJ hD hjb hf hv hp)
  clear hJ hD hjb hf hv hp
  go_enter Try.func54, Try.ntmps54
  go_wp2_with fail
  refine CI.out.mono ?_
  rintro e w2 ⟨rfl, hb2⟩
  have HB := Lib.hid hb2
  clear hb2
  go_wp2_with fail
  go_ret
  exact ⟨rfl, HB.out⟩
set_option maxHeartbeats 6400000 in
set_option maxRecDepth 100000 in
theorem refusal_w (g q from_ n at_ : Nat) (m next : Int) (rs : List Rec) (G : Nat → Prop) (d : Dv.S) (F : Nat → Prop) (v : Value) (puts : List Jr.Put) (w : World) (hJ : JIn w q g G from_ n m next at_ rs) (hD : Dev13 w g d F) (hf : from_ + n ≤ 1000000) (hv : PRd w v puts) (hp : ∀ p ∈ puts, Jr.outside p.1 d.safe.length from_ n ∧ p.2.length = 64) (h1 : 1 ≤ puts.length) (h10 : puts.length ≤ 10) (hn : puts.length + 4 ≤ n) :
    Calls Try.prog 26 #[.pointer (some ⟨q, 0, none⟩), v] w fun e w' => e = .returned (.int .i64 0) ∧ Below w.heap.size w w' := by
  obtain ⟨ov, hq, -⟩ := id hJ.ex
  have hba : Below w.heap.size w (w.alloc (.cells #[.pointer (some ⟨q, 0, none⟩)] 29)) := (Below.refl _ w).alloc (Nat.le_refl _) _
  have hnj := heap_alloc_new w (.cells #[.pointer (some ⟨q, 0, none⟩)] 29)
  have CC := Lib.hid (contains_w g q w.heap.size from_ n at_ m next rs G d F v puts _ (hJ.keep (fun _ h => h) (fun k _ hk => hba.block k hk)) (hD.later hba) hnj hf (hv.later hba) hp)
  obtain ⟨ao, cap, rfl, hc, hc9, -⟩ := id hv
  have CZ := Lib.hid (fun W => sizeOf_w ao puts.length cap W (by omega))
  obtain ⟨L, hL⟩ : ∃ L, L = puts.length := ⟨_, rfl⟩
  rw [← hL] at CC CZ h1 h10 hn hc ⊢
  have i1 : ¬ (L : Int) = 0 := by omega
  have i2 : ¬ (10 : Int) < (L : Int) := by omega
  have i3 : ¬ (n : Int) - 2 < (L : Int) + 2 := by omega
  have i4 : (n : Int) ≤ 1000000 := by omega
  have i5 : (L : Int) ≤ 10 := by omega
  have i6 : (0 : Int) ≤ (n : Int) := by omega
  have hw9 : IntKind.i64.wrap ((n : Int) - 2) = (n : Int) - 2 := by rw [IntKind.wrap_i64]; omega
  have HW := Lib.hid (And.intro hba (And.intro hnj hq))
  clear hJ hD hf hv hp hba hnj hq hL h1 h10 hn hc
  go_enter Try.func26, Try.ntmps26
  go_wp2_with fail
  refine CC.out.mono ?_
  rintro e w2 ⟨rfl, hb2⟩
  have hb := bt5 HW.out.1 hb2
  have hq2 := (hb.block q (lt_of_block HW.out.2.2)).trans HW.out.2.2
  have hj2 := (hb2.block _ (lt_of_block HW.out.2.1)).trans HW.out.2.1
  have HB := Lib.hid hb
  clear hb2 hb
  go_upto_region 6 with fail
  obtain ⟨jb, hjb⟩ : ∃ r, r = w.heap.size := ⟨_, rfl⟩
  rw [← hjb] at hj2 ⊢
  clear hjb
  have l0 := fun p : LateOf w2 => p.cell (blk_cell hj2 0 (.pointer (some ⟨q, 0, none⟩)) rfl).1
  have l1 := fun p : LateOf w2 => p.cell (blk_cell hq2 2 (.int .i64 (n : Int)) rfl).1
  clear hq2 hj2
  refine wp_region_late (by kernel_rfl) (by kernel_rfl) ?_
  quiet_step (fail)
  quiet_step (exact late_same _ (CZ.out _))
  iterate 8 quiet_step (fail)
  refine wpQuiet_nil ?_
  intro w3 hw'
  have hb3 : Below w2.heap.size w2 w3 := (by obtain ⟨p, rfl⟩ := hw'; exact p.h)
  have HB3 := Lib.hid (bt5 HB.out hb3)
  clear hw' l0 l1 hb3
  go_wp2_with fail
  go_ret
  exact ⟨rfl, HB3.out⟩
end Go.Proofs.Ytjdmmnpfjbnhoaa
namespace Go.Proofs.Ytjdmmnpfjbnhoaa
open Go.RowKit

set_option maxHeartbeats 6400000 in
set_option maxRecDepth 100000 in
theorem commit1_w (g q jb ab rb from_ n a nx L : Nat) (x3 x4 x5 x6 : Value) (pa : Option Addr) (pc : Nat) (puts : List Jr.Put) (d : Dv.S) (F : Nat → Prop) (w : World) (hD : Dev13 w g d F)
    (hq : w.heap[q]? = some (.cells #[.pointer (some ⟨g, 0, none⟩), .int .i64 (from_ : Int), .int .i64 (n : Int), x3, x4, x5, x6] 69 (0, 0))) (hjb : w.heap[jb]? = some (.cells #[.pointer (some ⟨q, 0, none⟩)] 29 (0, 0))) (hab : w.heap[ab]? = some (.cells #[.int .i64 (a : Int)] 3 (0, 0)))
    (hrb : w.heap[rb]? = some (.cells #[.int .i64 (nx : Int), .int .i64 (a : Int), .slice pa L pc] 77 (0, 0))) (hP : PRd w (.slice pa L pc) puts) (h64 : ∀ p ∈ puts, p.2.length = 64) (hp : ∀ p ∈ puts, p.1 < 9223372036854775808) (h10 : puts.length ≤ 10) (hu : nx < 9223372036854775808) (hn : d.n ≤ 1000000) (hw : d.wait.length ≤ 100000) (hf : from_ + a ≤ 1000000) :
    Calls Try.prog 31 #[.pointer (some ⟨jb, 0, none⟩), .pointer (some ⟨ab, 0, none⟩), .pointer (some ⟨rb, 0, none⟩)] w fun e w' => e = .returned (.int .i64 (Dv.write d ((from_ : Int) + a) (Jr.front (nx : Int) puts)).2) ∧ St w F g (Dv.write d ((from_ : Int) + a) (Jr.front (nx : Int) puts)).1 w' := by
  have CB := Lib.hid (fun W (hb : Below w.heap.size w W) => body_w F nx (.int .i64 (a : Int)) (.slice pa L pc) puts W (hP.later hb) (fun k hk => Nat.lt_of_lt_of_le (hD.lt k hk) hb.size) h64 hp h10 hu rfl)
  have CW := Lib.hid (fun W v (hb : Below w.heap.size w W) hv => pwrite_w g from_ n a d F v (Jr.front (nx : Int) puts) W (hD.later hb) hn hw hv (by unfold Jr.front; simp; omega) hf)
  have HQ := Lib.hid hq
  have HJB := Lib.hid hjb
  have HAB := Lib.hid hab
  have HRB := Lib.hid hrb
  clear hD hq hjb hab hrb hP h64 hp h10 hu hn hw hf
  go_enter Try.func31, Try.ntmps31
  go_upto_region 1 with fail
  refine Rel.region_tail 7 (by kernel_rfl) [some 4, some 5, some 6, some 7, some 8, some 9, some 10, some 11, some 3] (by kernel_rfl) (by kernel_rfl) (by kernel_rfl) [.eq (.pointer (some ⟨q, 0, none⟩)), .eq (.pointer (some ⟨q, 0, none⟩)), .eq (.pointer (some ⟨q, 0, none⟩)), .eq (.agg #[.pointer (some ⟨g, 0, none⟩), .int .i64 (from_ : Int), .int .i64 (n : Int)]), .eq (.int .i64 (a : Int)), .eq (.agg #[.int .i64 (nx : Int), .int .i64 (a : Int), .slice pa L pc]), ⟨fun v w => BsOut F w v (Jr.front (nx : Int) puts), fun _ _ _ h hb => h.later hb⟩] ⟨?_, ?_, ?_, ?_, ?_, ?_, ?_, trivial⟩ ?_
  · intro u w9 hb9 hd9
    clear hd9
    have q9 := (hb9.block jb (lt_of_block HJB.out)).trans HJB.out
    have c90 := (blk_cell q9 0 _ rfl).1
    clear q9
    simp only [List.getElem_toArray, List.getElem_cons_zero, List.getElem_cons_succ] at c90
    refine ⟨?_⟩
    simp only [Rel.canD, List.take_zero]
    go_wp2_with fail
    exact ⟨rfl, rfl, Below.refl _ _, rfl⟩
  · intro u w9 hb9 hd9
    have e0 : u 0 = .pointer (some ⟨q, 0, none⟩) := hd9 0 (by kernel_rfl)
    clear hd9
    refine ⟨?_⟩
    simp only [Rel.canD, List.take_succ_cons, List.take_zero, Nat.reduceAdd]
    go_wp2_with fail
    exact ⟨rfl, rfl, Below.refl _ _, rfl⟩
  · intro u w9 hb9 hd9
    have e1 : u 1 = .pointer (some ⟨q, 0, none⟩) := hd9 1 (by kernel_rfl)
    clear hd9
    refine ⟨?_⟩
    simp only [Rel.canD, List.take_succ_cons, List.take_zero, Nat.reduceAdd]
    go_wp2_with fail
    exact ⟨rfl, rfl, Below.refl _ _, rfl⟩
  · intro u w9 hb9 hd9
    have e2 : u 2 = .pointer (some ⟨q, 0, none⟩) := hd9 2 (by kernel_rfl)
    clear hd9
    have q9 := (hb9.block q (lt_of_block HQ.out)).trans HQ.out
    have c90 := (blk_cell q9 0 _ rfl).1
    have c91 := (blk_cell q9 1 _ rfl).1
    have c92 := (blk_cell q9 2 _ rfl).1
    clear q9
    simp only [List.getElem_toArray, List.getElem_cons_zero, List.getElem_cons_succ] at c90 c91 c92
    refine ⟨?_⟩
    simp only [Rel.canD, List.take_succ_cons, List.take_zero, Nat.reduceAdd]
    go_wp2_with fail
    exact ⟨rfl, rfl, Below.refl _ _, rfl⟩
  · intro u w9 hb9 hd9
    clear hd9
    have q9 := (hb9.block ab (lt_of_block HAB.out)).trans HAB.out
    have c90 := (blk_cell q9 0 _ rfl).1
    clear q9
    simp only [List.getElem_toArray, List.getElem_cons_zero, List.getElem_cons_succ] at c90
    refine ⟨?_⟩
    simp only [Rel.canD, List.take_succ_cons, List.take_zero, Nat.reduceAdd]
    go_wp2_with fail
    exact ⟨rfl, rfl, Below.refl _ _, rfl⟩
  · intro u w9 hb9 hd9
    clear hd9
    have q9 := (hb9.block rb (lt_of_block HRB.out)).trans HRB.out
    have c90 := (blk_cell q9 0 _ rfl).1
    have c91 := (blk_cell q9 1 _ rfl).1
    have c92 := (blk_cell q9 2 _ rfl).1
    clear q9
    simp only [List.getElem_toArray, List.getElem_cons_zero, List.getElem_cons_succ] at c90 c91 c92
    refine ⟨?_⟩
    simp only [Rel.canD, List.take_succ_cons, List.take_zero, Nat.reduceAdd]
    go_wp2_with fail
    exact ⟨rfl, rfl, Below.refl _ _, rfl⟩
  · intro u w9 hb9 hd9
    have e5 : u 5 = .agg #[.int .i64 (nx : Int), .int .i64 (a : Int), .slice pa L pc] := hd9 5 (by kernel_rfl)
    clear hd9
    have c9 := CB.out w9 hb9
    refine ⟨?_⟩
    simp only [Rel.canD, List.take_succ_cons, List.take_zero, Nat.reduceAdd]
    go_wp2_with fail
    refine c9.mono ?_
    rintro e w8 ⟨vr, rfl, hB8, hb8⟩
    go_wp2_with fail
    exact ⟨rfl, rfl, hb8, hB8⟩
  intro u w9 hb9 hR9
  simp only [Rel.canD, Nat.reduceAdd, List.take_succ_cons, List.take_zero, List.drop_succ_cons, List.drop_zero]
  have h3 : u 3 = .agg #[.pointer (some ⟨g, 0, none⟩), .int .i64 (from_ : Int), .int .i64 (n : Int)] := hR9 3 (by decide)
  have h4 : u 4 = .int .i64 (a : Int) := hR9 4 (by decide)
  have h6 : BsOut F w9 (u 6) (Jr.front (nx : Int) puts) := hR9 6 (by decide)
  rw [h3, h4]
  have cW := CW.out w9 _ hb9 h6
  have HB9 := Lib.hid hb9
  clear hR9 hb9 h3 h4 h6
  generalize u 6 = vr at *
  go_wp2_with fail
  refine cW.mono ?_
  rintro e w5 ⟨F', rfl, hD5, ht5, hm5⟩
  have HX := Lib.hid (show St w F g _ w5 from ⟨F', hD5, (Touch.of HB9.out).trans ht5, fun k hk => (hm5 k hk).imp id (fun h => Nat.le_trans HB9.out.size h)⟩)
  clear cW hD5 ht5 hm5
  go_wp2_with fail
  go_ret
  exact ⟨rfl, HX.out⟩
set_option maxHeartbeats 6400000 in
set_option maxRecDepth 100000 in
theorem commit2_w (g q jb rb from_ n a nx L : Nat) (x3 x4 x5 x6 : Value) (pa : Option Addr) (pc : Nat) (d : Dv.S) (F : Nat → Prop) (w : World) (hD : Dev13 w g d F)
    (hq : w.heap[q]? = some (.cells #[.pointer (some ⟨g, 0, none⟩), .int .i64 (from_ : Int), .int .i64 (n : Int), x3, x4, x5, x6] 69 (0, 0))) (hjb : w.heap[jb]? = some (.cells #[.pointer (some ⟨q, 0, none⟩)] 29 (0, 0)))
    (hrb : w.heap[rb]? = some (.cells #[.int .i64 (nx : Int), .int .i64 (a : Int), .slice pa L pc] 77 (0, 0))) (hL : L ≤ 1000) (hu : nx < 9223372036854775808) (hn : d.n ≤ 1000000) (hw : d.wait.length ≤ 100000) (hf : from_ + a + L + 1 ≤ 1000000) :
    Calls Try.prog 34 #[.pointer (some ⟨jb, 0, none⟩), .pointer (some ⟨rb, 0, none⟩)] w fun e w' => e = .returned (.int .i64 (Dv.write d ((from_ : Int) + ((a + L + 1 : Nat) : Int)) [Jr.foot (nx : Int)]).2) ∧ St w F g (Dv.write d ((from_ : Int) + ((a + L + 1 : Nat) : Int)) [Jr.foot (nx : Int)]).1 w' := by
  have CE := Lib.hid (fun W => end_w (.int .i64 (nx : Int)) a L pc pa W (by omega) (by omega))
  have CF := Lib.hid (fun W => foot_w nx (.int .i64 (a : Int)) (.slice pa L pc) W hu)
  have CW := Lib.hid (fun W v (hb : Below w.heap.size w W) hv => pwrite_w g from_ n (a + L + 1) d F v [Jr.foot (nx : Int)] W (hD.later hb) hn hw hv (by simp) (by omega))
  have HQ := Lib.hid hq
  have HJB := Lib.hid hjb
  have HRB := Lib.hid hrb
  have HLT := Lib.hid hD.lt
  have IW : Hid (wrap64 ((a : Int) + (L : Int) + 2 - 1) = ((a + L + 1 : Nat) : Int)) := Lib.hid (by unfold wrap64; omega)
  clear hD hq hjb hrb hL hu hn hw hf
  go_enter Try.func34, Try.ntmps34
  go_upto_region 1 with fail
  refine Rel.region_tail 10 (by kernel_rfl) [some 3, some 4, some 5, some 6, some 7, some 8, some 9, some 10, some 11, some 12, some 13, some 2] (by kernel_rfl) (by kernel_rfl) (by kernel_rfl) [.eq (.pointer (some ⟨q, 0, none⟩)), .eq (.pointer (some ⟨q, 0, none⟩)), .eq (.pointer (some ⟨q, 0, none⟩)), .eq (.agg #[.pointer (some ⟨g, 0, none⟩), .int .i64 (from_ : Int), .int .i64 (n : Int)]), .eq (.agg #[.int .i64 (nx : Int), .int .i64 (a : Int), .slice pa L pc]), .eq (.int .i64 ((a + L + 2 : Nat) : Int)), .eq (.int .i64 ((a + L + 1 : Nat) : Int)), .eq (.agg #[.int .i64 (nx : Int), .int .i64 (a : Int), .slice pa L pc]), ⟨fun v w9 => ∃ k, v = .slice (some ⟨k, 0, none⟩) 64 64 ∧ w.heap.size ≤ k ∧ OBk (fun k => w.heap.size ≤ k) w9 v (Jr.foot (nx : Int)), fun _ _ _ h hb => by obtain ⟨k, h1, h2, h3⟩ := h; exact ⟨k, h1, h2, h3.later hb⟩⟩, ⟨fun v w => BsOut F w v ([Jr.foot (nx : Int)]), fun _ _ _ h hb => h.later hb⟩] ⟨?_, ?_, ?_, ?_, ?_, ?_, ?_, ?_, ?_, ?_, trivial⟩ ?_
  · intro u w9 hb9 hd9
    clear hd9
    have q9 := (hb9.block jb (lt_of_block HJB.out)).trans HJB.out
    have c90 := (blk_cell q9 0 _ rfl).1
    clear q9
    simp only [List.getElem_toArray, List.getElem_cons_zero, List.getElem_cons_succ] at c90
    refine ⟨?_⟩
    simp only [Rel.canD, List.take_zero]
    go_wp2_with fail
    exact ⟨rfl, rfl, Below.refl _ _, rfl⟩
  · intro u w9 hb9 hd9
    have e0 : u 0 = .pointer (some ⟨q, 0, none⟩) := hd9 0 (by kernel_rfl)
    clear hd9
    refine ⟨?_⟩
    simp only [Rel.canD, List.take_succ_cons, List.take_zero, Nat.reduceAdd]
    go_wp2_with fail
    exact ⟨rfl, rfl, Below.refl _ _, rfl⟩
  · intro u w9 hb9 hd9
    have e1 : u 1 = .pointer (some ⟨q, 0, none⟩) := hd9 1 (by kernel_rfl)
    clear hd9
    refine ⟨?_⟩
    simp only [Rel.canD, List.take_succ_cons, List.take_zero, Nat.reduceAdd]
    go_wp2_with fail
    exact ⟨rfl, rfl, Below.refl _ _, rfl⟩
  · intro u w9 hb9 hd9
    have e2 : u 2 = .pointer (some ⟨q, 0, none⟩) := hd9 2 (by kernel_rfl)
    clear hd9
    have q9 := (hb9.block q (lt_of_block HQ.out)).trans HQ.out
    have c90 := (blk_cell q9 0 _ rfl).1
    have c91 := (blk_cell q9 1 _ rfl).1
    have c92 := (blk_cell q9 2 _ rfl).1
    clear q9
    simp only [List.getElem_toArray, List.getElem_cons_zero, List.getElem_cons_succ] at c90 c91 c92
    refine ⟨?_⟩
    simp only [Rel.canD, List.take_succ_cons, List.take_zero, Nat.reduceAdd]
    go_wp2_with fail
    exact ⟨rfl, rfl, Below.refl _ _, rfl⟩
  · intro u w9 hb9 hd9
    clear hd9
    have q9 := (hb9.block rb (lt_of_block HRB.out)).trans HRB.out
    have c90 := (blk_cell q9 0 _ rfl).1
    have c91 := (blk_cell q9 1 _ rfl).1
    have c92 := (blk_cell q9 2 _ rfl).1
    clear q9
    simp only [List.getElem_toArray, List.getElem_cons_zero, List.getElem_cons_succ] at c90 c91 c92
    refine ⟨?_⟩
    simp only [Rel.canD, List.take_succ_cons, List.take_zero, Nat.reduceAdd]
    go_wp2_with fail
    exact ⟨rfl, rfl, Below.refl _ _, rfl⟩
  · intro u w9 hb9 hd9
    have e4 : u 4 = .agg #[.int .i64 (nx : Int), .int .i64 (a : Int), .slice pa L pc] := hd9 4 (by kernel_rfl)
    clear hd9
    have c9 := CE.out w9
    refine ⟨?_⟩
    simp only [Rel.canD, List.take_succ_cons, List.take_zero, Nat.reduceAdd]
    go_wp2_with fail
    refine c9.mono ?_
    rintro e w8 ⟨rfl, hb8⟩
    go_wp2_with fail
    exact ⟨rfl, rfl, hb8, rfl⟩
  · intro u w9 hb9 hd9
    have e5 : u 5 = .int .i64 ((a + L + 2 : Nat) : Int) := hd9 5 (by kernel_rfl)
    clear hd9
    refine ⟨?_⟩
    simp only [Rel.canD, List.take_succ_cons, List.take_zero, Nat.reduceAdd]
    go_wp2_with fail
    exact ⟨rfl, rfl, Below.refl _ _, congrArg (Value.int .i64) IW.out⟩
  · intro u w9 hb9 hd9
    clear hd9
    have q9 := (hb9.block rb (lt_of_block HRB.out)).trans HRB.out
    have c90 := (blk_cell q9 0 _ rfl).1
    have c91 := (blk_cell q9 1 _ rfl).1
    have c92 := (blk_cell q9 2 _ rfl).1
    clear q9
    simp only [List.getElem_toArray, List.getElem_cons_zero, List.getElem_cons_succ] at c90 c91 c92
    refine ⟨?_⟩
    simp only [Rel.canD, List.take_succ_cons, List.take_zero, Nat.reduceAdd]
    go_wp2_with fail
    exact ⟨rfl, rfl, Below.refl _ _, rfl⟩
  · intro u w9 hb9 hd9
    have e7 : u 7 = .agg #[.int .i64 (nx : Int), .int .i64 (a : Int), .slice pa L pc] := hd9 7 (by kernel_rfl)
    clear hd9
    have c9 := CF.out w9
    have hsz := hb9.size
    refine ⟨?_⟩
    simp only [Rel.canD, List.take_succ_cons, List.take_zero, Nat.reduceAdd]
    go_wp2_with fail
    refine c9.mono ?_
    rintro e w8 ⟨k, rfl, hk, hB8, hb8⟩
    go_wp2_with fail
    exact ⟨rfl, rfl, hb8, k, rfl, Nat.le_trans hsz hk, hB8.obk (Jr.foot_length _).symm (by decide) (Nat.le_trans hsz hk)⟩
  · intro u w9 hb9 hd9
    have e8 := hd9 8 (by kernel_rfl)
    clear hd9
    obtain ⟨k, e8x, hk, hob⟩ := e8
    have hnx := heap_alloc_new w9 (.cells #[.slice (some ⟨k, 0, none⟩) 64 64] 22)
    have hbx : Below w9.heap.size w9 (w9.alloc (.cells #[.slice (some ⟨k, 0, none⟩) 64 64] 22)) := (Below.refl _ w9).alloc (Nat.le_refl _) _
    rw [e8x] at hob
    have hsz := hb9.size
    have hbs : BsOut F (w9.alloc (.cells #[.slice (some ⟨k, 0, none⟩) 64 64] 22)) (.slice (some ⟨w9.heap.size, 0, none⟩) 1 1) [Jr.foot (nx : Int)] := obk_bs hnx (fun hf => by have := HLT.out _ hf; omega) ((hob.later hbx).mono (fun k hk hf => by have := HLT.out _ hf; omega))
    clear hob hnx
    refine ⟨?_⟩
    simp only [Rel.canD, List.take_succ_cons, List.take_zero, Nat.reduceAdd]
    go_wp2_with fail
    exact ⟨rfl, rfl, hbx, hbs⟩
  intro u w9 hb9 hR9
  simp only [Rel.canD, Nat.reduceAdd, List.take_succ_cons, List.take_zero, List.drop_succ_cons, List.drop_zero]
  have h3 : u 3 = .agg #[.pointer (some ⟨g, 0, none⟩), .int .i64 (from_ : Int), .int .i64 (n : Int)] := hR9 3 (by decide)
  have h6 : u 6 = .int .i64 ((a + L + 1 : Nat) : Int) := hR9 6 (by decide)
  have h9 : BsOut F w9 (u 9) [Jr.foot (nx : Int)] := hR9 9 (by decide)
  rw [h3, h6]
  have cW := CW.out w9 _ hb9 h9
  have HB9 := Lib.hid hb9
  clear hR9 hb9 h3 h6 h9
  generalize u 9 = vr at *
  go_wp2_with fail
  refine cW.mono ?_
  rintro e w5 ⟨F', rfl, hD5, ht5, hm5⟩
  have HX := Lib.hid (show St w F g _ w5 from ⟨F', hD5, (Touch.of HB9.out).trans ht5, fun k hk => (hm5 k hk).imp id (fun h => Nat.le_trans HB9.out.size h)⟩)
  clear cW hD5 ht5 hm5
  go_wp2_with fail
  go_ret
  exact ⟨rfl, HX.out⟩
end Go.Proofs.Ytjdmmnpfjbnhoaa
namespace Go.Proofs.Ytjdmmnpfjbnhoaa
open Go.RowKit

theorem OBk.cap {G : Nat → Prop} {w : World} {v : Value} {l : List UInt8} (h : OBk G w v l) : OBk (fun k => G k ∧ k < w.heap.size) w v l := by
  obtain ⟨b, o, cap, C, fr, h1, h2, h3, h4, h5, h6⟩ := h
  exact ⟨b, o, cap, C, fr, h1, h2, h3, ⟨h4, lt_of_block h5⟩, h5, h6⟩
theorem PRow.cap {G : Nat → Prop} {w : World} {v : Value} {l : List Jr.Put} (h : PRow G w v l) : PRow (fun k => G k ∧ k < w.heap.size) w v l := by
  obtain ⟨us, h1, h2, h3, h4⟩ := h
  exact ⟨us, h1, h2, fun k hk => ⟨h3 k hk, (World.ownsRow.lt h2 k hk).2⟩, fun i i1 i2 => (h4 i i1 i2).cap⟩
theorem Recs.cap {G : Nat → Prop} {w : World} {v : Value} {l : List Rec} (h : Recs G w v l) : Recs (fun k => G k ∧ k < w.heap.size) w v l := by
  obtain ⟨us, h1, h2, h3, h4⟩ := h
  exact ⟨us, h1, h2, fun k hk => ⟨h3 k hk, (World.ownsRow.lt h2 k hk).2⟩, fun i i1 i2 => (h4 i i1 i2).cap⟩
theorem JIn.cap {w : World} {q g : Nat} {G : Nat → Prop} {from_ n : Nat} {m next : Int} {at_ : Nat} {rs : List Rec} (h : JIn w q g G from_ n m next at_ rs) : JIn w q g (fun k => G k ∧ k < w.heap.size) from_ n m next at_ rs := by
  obtain ⟨⟨ov, h1, h2⟩, h3⟩ := h
  exact ⟨⟨ov, h1, h2.cap⟩, h3, lt_of_block h1⟩
theorem putOn_steps {d : Dv.S} {j : Jr.J} {s k q nx a : Nat} {puts : List Jr.Put} (h : Cl d s k q) (hx : j.next = (nx : Int)) (ha : j.from_ + a + puts.length + 2 ≤ s) (h10 : puts.length ≤ 10) (h64 : ∀ p ∈ puts, p.2.length = 64) :
    ∃ e1 e2 e3 e4, Dv.write d ((j.from_ : Int) + a) (Jr.front (nx : Int) puts) = (e1, 0) ∧ Dv.flush e1 = (e2, 0) ∧ Dv.write e2 ((j.from_ : Int) + ((a + puts.length + 1 : Nat) : Int)) [Jr.foot (nx : Int)] = (e3, 0) ∧ Dv.flush e3 = (e4, 0) ∧ Jr.putOn d j a puts = (e4, Jr.added j a puts, true, 0) ∧
      Cl e1 s (k + 1) (q + 20) ∧ Cl e2 s (k + 1 + 1) 0 ∧ Cl e3 s (k + 1 + 1 + 1) 1 ∧ Cl e4 s (k + 1 + 1 + 1 + 1) 0 := by
  have hfl : (Jr.front (nx : Int) puts).length = puts.length + 2 := by unfold Jr.front; simp
  obtain ⟨e1, h1, c1⟩ := h.write (j.from_ + a) (Jr.front (nx : Int) puts) (by rw [hfl]; omega) (fun x hx9 => Jr.front_64 h10 h64 x hx9)
  have c1' : Cl e1 s (k + 1) (q + 20) := ⟨c1.calm, c1.len, c1.n, Nat.le_trans c1.wait (by rw [hfl]; omega)⟩
  obtain ⟨e2, h2, c2⟩ := c1.flush
  obtain ⟨e3, h3, c3⟩ := c2.write (j.from_ + (a + puts.length + 1)) [Jr.foot (nx : Int)] (by rw [List.length_singleton]; omega) (fun x hx9 => by rw [List.mem_singleton.1 hx9]; exact Jr.foot_length _)
  obtain ⟨e4, h4, c4⟩ := c3.flush
  rw [show ((j.from_ + a : Nat) : Int) = (j.from_ : Int) + (a : Int) by omega] at h1
  rw [show ((j.from_ + (a + puts.length + 1) : Nat) : Int) = (j.from_ : Int) + ((a + puts.length + 1 : Nat) : Int) by omega] at h3
  refine ⟨e1, e2, e3, e4, h1, h2, h3, h4, ?_, c1', c2, c3, c4⟩
  have hl : Jr.lays d j a puts = (e3, 0) := by
    unfold Jr.lays Jr.seqE
    rw [hx, h1]
    simp only [if_true, h2]
    rw [show (j.from_ : Int) + (a : Int) + (puts.length : Int) + 1 = (j.from_ : Int) + ((a + puts.length + 1 : Nat) : Int) by omega, h3]
  unfold Jr.putOn
  rw [hl]
  simp only [if_true, h4]
end Go.Proofs.Ytjdmmnpfjbnhoaa
namespace Go.Proofs.Ytjdmmnpfjbnhoaa
open Go.RowKit

/-- What a Commit leaves. -/
def CommitQ (w : World) (F G : Nat → Prop) (q g : Nat) (j' : Jr.J) (d' : Dv.S) (w' : World) : Prop := ∃ (F' G' : Nat → Prop) (rs' : List Rec), JIn w' q g G' j'.from_ j'.n j'.mark j'.next j'.at_ rs' ∧ rs'.flatMap (·.2.2) = j'.owed ∧ rs'.length = j'.cnt ∧ (∀ x, rs'.head? = some x → x.2.1 = j'.base) ∧ Dev13 w' g d' F' ∧ (∀ k, G' k → ¬ F' k) ∧ (∀ k, G' k → k < w'.heap.size) ∧ Touch (fun k => F k ∨ G k) w w' ∧ More (fun k => F k ∨ G k) (fun k => F' k ∨ G' k) w
/-- The steps of a Commit behind its place: two writes, each with its Flush but for the last one's. -/
theorem commit_first (g q jb ab rb fb a nx s k0 q0 : Nat) (j : Jr.J) (x3 x4 x5 x6 : Value) (pa : Option Addr) (pc : Nat) (puts : List Jr.Put) (d e1 e2 e3 : Dv.S) (F : Nat → Prop) (w : World) (hD : Dev13 w g d F)
    (h1 : Dv.write d ((j.from_ : Int) + a) (Jr.front (nx : Int) puts) = (e1, 0)) (h2 : Dv.flush e1 = (e2, 0)) (h3 : Dv.write e2 ((j.from_ : Int) + ((a + puts.length + 1 : Nat) : Int)) [Jr.foot (nx : Int)] = (e3, 0)) (c0 : Cl d s k0 q0) (c1 : Cl e1 s (k0 + 1) (q0 + 20)) (c2 : Cl e2 s (k0 + 1 + 1) 0) (hk : k0 ≤ 900000) (hq0 : q0 ≤ 90000)
    (hq : w.heap[q]? = some (.cells #[.pointer (some ⟨g, 0, none⟩), .int .i64 (j.from_ : Int), .int .i64 (j.n : Int), x3, x4, x5, x6] 69 (0, 0))) (hqF : ¬ F q) (hjb : w.heap[jb]? = some (.cells #[.pointer (some ⟨q, 0, none⟩)] 29 (0, 0))) (hjF : ¬ F jb) (hab : w.heap[ab]? = some (.cells #[.int .i64 (a : Int)] 3 (0, 0)))
    (hrb : w.heap[rb]? = some (.cells #[.int .i64 (nx : Int), .int .i64 (a : Int), .slice pa puts.length pc] 77 (0, 0))) (hrF : ¬ F rb) (hP : PRd w (.slice pa puts.length pc) puts) (h64 : ∀ p ∈ puts, p.2.length = 64) (hp : ∀ p ∈ puts, p.1 < 9223372036854775808) (h10 : puts.length ≤ 10) (hu : nx < 9223372036854775808) (hf : j.from_ + a + puts.length + 1 ≤ 1000000)
    (hfb : w.heap[fb]? = some (.cells #[.func (.func 31) #[] #[.pointer (some ⟨jb, 0, none⟩), .pointer (some ⟨ab, 0, none⟩), .pointer (some ⟨rb, 0, none⟩)], .func (.func 21) #[.pointer (some ⟨g, 0, none⟩)] #[], .func (.func 34) #[] #[.pointer (some ⟨jb, 0, none⟩), .pointer (some ⟨rb, 0, none⟩)]] 60 (0, 0))) (hfF : ¬ F fb) :
    Calls Try.prog 19 #[.slice (some ⟨fb, 0, none⟩) 3 3] w fun e w' => e = .returned (.int .i64 0) ∧ St w F g e3 w' := by
  have hbl := lt_of_block hfb
  refine (first_commit g jb ab rb fb (fun k W => match k with
    | 0 => W = w
    | 1 => St w F g e1 W
    | 2 => St w F g e2 W
    | 3 => St w F g e3 W
    | _ => False) w rfl (fun k W hR => ?_) ?_ ?_ ?_)
  · match k, hR with
    | 0, h => rw [show W = w from h]; exact hfb
    | 1, h => exact (St.block h hbl hfF).trans hfb
    | 2, h => exact (St.block h hbl hfF).trans hfb
    | 3, h => exact (St.block h hbl hfF).trans hfb
    | _ + 4, h => exact h.elim
  · intro W hW
    rw [show W = w from hW]
    have := commit1_w g q jb ab rb j.from_ j.n a nx puts.length x3 x4 x5 x6 pa pc puts d F w hD hq hjb hab hrb hP h64 hp h10 hu (Nat.le_trans c0.n (by omega)) (Nat.le_trans c0.wait (by omega)) (by omega)
    rw [h1] at this
    exact this
  · intro W hW
    have := St.flush (show St w F g e1 W from hW) (Nat.le_trans c1.n (by omega)) (Nat.le_trans c1.wait (by omega))
    rw [h2] at this
    exact this
  · intro W hW
    have hW : St w F g e2 W := hW
    have b1 := (hW.block (lt_of_block hq) hqF).trans hq
    have b2 := (hW.block (lt_of_block hjb) hjF).trans hjb
    have b3 := (hW.block (lt_of_block hrb) hrF).trans hrb
    obtain ⟨F', hD', ht, hm⟩ := hW
    have := commit2_w g q jb rb j.from_ j.n a nx puts.length x3 x4 x5 x6 pa pc e2 F' W hD' b1 b2 b3 (by omega) hu (Nat.le_trans c2.n (by omega)) (Nat.le_trans c2.wait (by omega)) (by omega)
    rw [h3] at this
    refine this.mono fun e w' ⟨he, F'', hD'', ht'', hm''⟩ => ⟨he, St.next ht hm hD'' ht'' hm''⟩
theorem room_fits {j : Jr.J} {size a : Nat} (h : Jr.fits j size = some a) (hb : j.base ≤ j.n) (hc : 2 + size ≤ j.n) : a + size ≤ j.n := by
  unfold Jr.fits at h
  by_cases h1 : j.wrapped = true
  · rw [if_pos h1] at h
    by_cases h2 : j.at_ + size ≤ j.base
    · rw [if_pos h2] at h; cases h; omega
    · rw [if_neg h2] at h; cases h
  · rw [if_neg h1] at h
    by_cases h2 : j.at_ + size ≤ j.n
    · rw [if_pos h2] at h; cases h; exact h2
    · rw [if_neg h2] at h
      by_cases h3 : j.cnt = 0 ∨ 2 + size ≤ j.base
      · rw [if_pos h3] at h; cases h; exact hc
      · rw [if_neg h3] at h; cases h
end Go.Proofs.Ytjdmmnpfjbnhoaa
namespace Go.Proofs.Ytjdmmnpfjbnhoaa
open Go.RowKit

theorem fits_cnt {j : Jr.J} {size : Nat} (hwr : j.wrapped = true ↔ (j.cnt ≠ 0 ∧ j.at_ ≤ j.base)) (h : Jr.fits j size = none) : j.cnt ≠ 0 := fun h0 => by
  unfold Jr.fits at h
  rw [if_neg (fun hw => (hwr.1 hw).1 h0)] at h
  by_cases h2 : j.at_ + size ≤ j.n
  · rw [if_pos h2] at h; cases h
  · rw [if_neg h2, if_pos (.inl h0)] at h; cases h
theorem room_some {P : Prop} {e : Ending} {ft : Option Nat} {a : Nat} (h : P ∧ ∃ a : Nat, (ft = some a ∧ e = .returned (.tuple #[.int .i64 (a : Int), .bool true]) ∨ ft = none ∧ e = .returned (.tuple #[.int .i64 (a : Int), .bool false]))) (hft : ft = some a) : e = .returned (.tuple #[.int .i64 (a : Int), .bool true]) ∧ P := by
  obtain ⟨h1, a', ⟨h, he⟩ | ⟨h, _⟩⟩ := h
  · rw [hft] at h; cases h; exact ⟨he, h1⟩
  · rw [hft] at h; cases h
theorem room_none {P : Prop} {e : Ending} {ft : Option Nat} (h : P ∧ ∃ a : Nat, (ft = some a ∧ e = .returned (.tuple #[.int .i64 (a : Int), .bool true]) ∨ ft = none ∧ e = .returned (.tuple #[.int .i64 (a : Int), .bool false]))) (hft : ft = none) : (∃ a : Nat, e = .returned (.tuple #[.int .i64 (a : Int), .bool false])) ∧ P := by
  obtain ⟨h1, a', ⟨h, he⟩ | ⟨h, he⟩⟩ := h
  · rw [hft] at h; cases h
  · exact ⟨⟨a', he⟩, h1⟩
theorem newint_set {w : World} {r : Nat} {x : Value} {T : TypeId} (h : w.heap[r]? = some (.cells #[x] T (0, 0))) (y : Value) : (w.setCell ⟨r, 0, none⟩ y).heap[r]? = some (.cells #[y] T (0, 0)) := heap_setCell_same w r 0 _ _ y h
set_option maxHeartbeats 25600000 in
set_option maxRecDepth 100000 in
theorem commit_w (g q mm nx s k0 : Nat) (j : Jr.J) (rs : List Rec) (d : Dv.S) (F G : Nat → Prop) (v : Value) (puts : List Jr.Put) (w : World) (hJ : JIn w q g G j.from_ j.n (mm : Int) (nx : Int) j.at_ rs) (ho : rs.flatMap (·.2.2) = j.owed) (hcnt : rs.length = j.cnt) (hb : ∀ x, rs.head? = some x → x.2.1 = j.base) (hwr : j.wrapped = true ↔ (j.cnt ≠ 0 ∧ j.at_ ≤ j.base)) (hm : j.mark = (mm : Int)) (hx : j.next = (nx : Int)) (hD : Dev13 w g d F) (hGF : ∀ k, G k → ¬ F k) (hGl : ∀ k, G k → k < w.heap.size) (hc : Cl d s k0 0) (hs : s ≤ 1000) (hk : k0 ≤ 200000) (how : j.owed.length ≤ 1000) (hcl : j.cnt ≤ 1000) (hp : ∀ p ∈ j.owed, p.1 < s ∧ p.2.length = 64) (hfn : j.from_ + j.n ≤ s) (ha : j.at_ ≤ j.n) (hbn : j.base ≤ j.n) (hmm : mm ≤ 1000) (hnx : nx ≤ 1000) (hv : PutsOut (fun k => F k ∨ G k) w v puts) (hf1 : 1 ≤ puts.length) (hf10 : puts.length ≤ 10) (hfp : ∀ p ∈ puts, Jr.outside p.1 s j.from_ j.n ∧ p.2.length = 64) (hfull : puts.length + 4 ≤ j.n) :
    Calls Try.prog 8 #[.pointer (some ⟨q, 0, none⟩), v] w fun e w' => e = .returned (.tuple #[.bool (Jr.commit d j puts).2.2.1, .int .i64 (Jr.commit d j puts).2.2.2]) ∧ CommitQ w F G q g (Jr.commit d j puts).2.1 (Jr.commit d j puts).1 w' := by
  obtain ⟨ao, cap, rfl, hcap, hcap9, -⟩ := id hv
  obtain ⟨L, hL⟩ : ∃ L, L = puts.length := ⟨_, rfl⟩
  rw [← hL] at hv hcap hf1 hf10 hfull ⊢
  have HC0 : Hid (∀ a, Jr.fits j (L + 2) = some a → Jr.commit d j puts = Jr.putOn d j a puts) := Lib.hid (fun a h => by unfold Jr.commit; rw [← hL, h])
  have HV := Lib.hid (And.intro hv (And.intro hL (And.intro hf1 (And.intro hf10 (And.intro hfp hfull)))))
  have HJ := Lib.hid (And.intro hJ (And.intro ho (And.intro hcnt (And.intro hb (And.intro hwr (And.intro hm hx))))))
  have HD := Lib.hid (And.intro hD (And.intro hGF (And.intro hGl hc)))
  have HN := Lib.hid (And.intro hs (And.intro hk (And.intro how (And.intro hp (And.intro hfn (And.intro ha (And.intro hbn (And.intro hmm (And.intro hnx hcl)))))))))
  have hba : Below w.heap.size w (w.alloc (.cells #[.pointer (some ⟨q, 0, none⟩)] 29)) := (Below.refl _ w).alloc (Nat.le_refl _) _
  have hnj := heap_alloc_new w (.cells #[.pointer (some ⟨q, 0, none⟩)] 29)
  have CRf := Lib.hid (refusal_w g q j.from_ j.n j.at_ (mm : Int) (nx : Int) rs G d F (.slice ao L cap) puts _ (hJ.keep (fun _ h => h) (fun k _ hk => hba.block k hk)) (hD.later hba) (by omega) (hv.rd.later hba) (by rw [hc.len]; exact hfp) (by rw [← hL]; exact hf1) (by rw [← hL]; exact hf10) (by rw [← hL]; exact hfull))
  have CZ := Lib.hid (fun W => sizeOf_w ao L cap W (by omega))
  have CRm := Lib.hid (fun W (hb9 : Below w.heap.size w W) => room_w g q (L + 2) (mm : Int) j rs G W (by rw [hx]; exact hJ.keep (fun _ h => h) (fun k _ hk => hb9.block k hk)) hcnt hb hwr (by omega) (by omega) (by omega) (by omega) (by omega))
  have i1 : (L : Int) ≤ 10 := by omega
  have HW := Lib.hid (And.intro hba hnj)
  clear hJ ho hcnt hb hwr hm hx hD hGF hGl hc hs hk how hp hfn ha hbn hmm hnx hv hL hf1 hf10 hfp hfull hba hnj hcl
  go_enter Try.func8, Try.ntmps8
  have c0 := (blk_cell HW.out.2 0 (.pointer (some ⟨q, 0, none⟩)) rfl).1
  go_wp2_with fail
  refine CRf.out.mono ?_
  rintro e w2 ⟨rfl, hb2⟩
  obtain ⟨jb, hjb⟩ : ∃ r, r = w.heap.size := ⟨_, rfl⟩
  have hj2 := (hb2.block _ (lt_of_block HW.out.2)).trans HW.out.2
  rw [← hjb] at hj2 ⊢
  have HB2 := Lib.hid (And.intro (bt5 HW.out.1 hb2) (And.intro hj2 hjb))
  clear hb2 hj2 hjb c0 CRf
  go_upto_region 4 with fail
  cases hft : Jr.fits j (L + 2) with
  | some a =>
    have CR := Lib.hid (fun W (hb9 : Below w.heap.size w W) => (CRm.out W hb9).mono (fun e w' h => room_some h hft))
    have HFT := Lib.hid hft
    clear hft CRm
    refine Rel.region_tailE 8 6 (by kernel_rfl) [some 21, some 22, some 23, some 24, some 20, some 25, some 26, some 7, none, some 8] (by kernel_rfl) (by kernel_rfl) (by kernel_rfl) [.eq (.pointer (some ⟨q, 0, none⟩)), .eq (.slice ao L cap), .eq (.int .i64 ((L : Int) + 2)), .eq (.tuple #[.int .i64 (a : Int), .bool true]), .eq (.tuple #[.int .i64 (a : Int), .bool true]), .eq (.int .i64 (a : Int)), .eq (.bool true), ⟨fun v w9 => ∃ r, v = .pointer (some ⟨r, 0, none⟩) ∧ w2.heap.size ≤ r ∧ w9.heap[r]? = some (.cells #[.int .i64 0] 3 (0, 0)), fun _ _ _ h hb => by obtain ⟨r, h1, h2, h3⟩ := h; exact ⟨r, h1, h2, (hb.block r (lt_of_block h3)).trans h3⟩⟩] (fun o ho u w hd => by cases ho; have e17 : u 4 = .tuple #[.int .i64 (a : Int), .bool true] := hd 4 (by kernel_rfl); exact ⟨.bool true, .inl ⟨rfl, fun w => by simp only [Rel.canD, List.take_succ_cons, List.take_zero, Nat.reduceAdd, e17]; go_simp⟩, rfl⟩) ⟨?_, ?_, ?_, ?_, ?_, ?_, ?_, ?_, trivial⟩ ?_
    · intro u w9 hb9 hd9
      clear hd9
      have q9 := (hb9.block jb (lt_of_block HB2.out.2.1)).trans HB2.out.2.1
      have c90 := (blk_cell q9 0 _ rfl).1
      clear q9
      simp only [List.getElem_toArray, List.getElem_cons_zero, List.getElem_cons_succ] at c90
      refine ⟨?_⟩
      simp only [Rel.canD, List.take_zero]
      go_wp2_with fail
      exact ⟨rfl, rfl, Below.refl _ _, rfl⟩
    · intro u w9 hb9 hd9
      clear hd9
      refine ⟨?_⟩
      simp only [Rel.canD, List.take_succ_cons, List.take_zero, Nat.reduceAdd]
      go_wp2_with fail
      exact ⟨rfl, rfl, Below.refl _ _, rfl⟩
    · intro u w9 hb9 hd9
      have e1 : u 1 = .slice ao L cap := hd9 1 (by kernel_rfl)
      clear hd9
      have c9 := CZ.out w9
      refine ⟨?_⟩
      simp only [Rel.canD, List.take_succ_cons, List.take_zero, Nat.reduceAdd]
      go_wp2_with fail
      refine c9.mono ?_
      rintro e w8 ⟨rfl, rfl⟩
      go_wp2_with fail
      exact ⟨rfl, rfl, Below.refl _ _, rfl⟩
    · intro u w9 hb9 hd9
      have e0 : u 0 = .pointer (some ⟨q, 0, none⟩) := hd9 0 (by kernel_rfl)
      have e2 : u 2 = .int .i64 ((L : Int) + 2) := hd9 2 (by kernel_rfl)
      clear hd9
      have c9 := CR.out w9 (bt5 HB2.out.1 hb9)
      refine ⟨?_⟩
      simp only [Rel.canD, List.take_succ_cons, List.take_zero, Nat.reduceAdd]
      go_wp2_with fail
      refine c9.mono ?_
      rintro e w8 ⟨rfl, hb8⟩
      go_wp2_with fail
      exact ⟨rfl, rfl, hb8, rfl⟩
    · intro u w9 hb9 hd9
      have e3 : u 3 = .tuple #[.int .i64 (a : Int), .bool true] := hd9 3 (by kernel_rfl)
      clear hd9
      refine ⟨?_⟩
      simp only [Rel.canD, List.take_succ_cons, List.take_zero, Nat.reduceAdd]
      go_wp2_with fail
      exact ⟨rfl, rfl, Below.refl _ _, rfl⟩
    · intro u w9 hb9 hd9
      have e4 : u 4 = .tuple #[.int .i64 (a : Int), .bool true] := hd9 4 (by kernel_rfl)
      clear hd9
      refine ⟨?_⟩
      simp only [Rel.canD, List.take_succ_cons, List.take_zero, Nat.reduceAdd]
      go_wp2_with fail
      exact ⟨rfl, rfl, Below.refl _ _, rfl⟩
    · intro u w9 hb9 hd9
      have e4 : u 4 = .tuple #[.int .i64 (a : Int), .bool true] := hd9 4 (by kernel_rfl)
      clear hd9
      refine ⟨?_⟩
      simp only [Rel.canD, List.take_succ_cons, List.take_zero, Nat.reduceAdd]
      go_wp2_with fail
      exact ⟨rfl, rfl, Below.refl _ _, rfl⟩
    · intro u w9 hb9 hd9
      clear hd9
      have hbx : Below w9.heap.size w9 (w9.alloc (.cells #[.int .i64 0] 3)) := (Below.refl _ w9).alloc (Nat.le_refl _) _
      have hnx := heap_alloc_new w9 (.cells #[.int .i64 0] 3)
      have hsz := hb9.size
      refine ⟨?_⟩
      simp only [Rel.canD, List.take_succ_cons, List.take_zero, Nat.reduceAdd]
      go_wp2_with fail
      exact ⟨rfl, rfl, hbx, w9.heap.size, rfl, hsz, hnx⟩
    intro u w9 hb9 hR9
    simp only [Rel.canD, Nat.reduceAdd, List.take_succ_cons, List.take_zero, List.drop_succ_cons, List.drop_zero]
    obtain ⟨ab, h7, habs, hr9⟩ := hR9 7 (by decide)
    have h5 : u 5 = .int .i64 (a : Int) := hR9 5 (by decide)
    have h6 : u 6 = .bool true := hR9 6 (by decide)
    rw [h7, h5, h6]
    have x0 := blk_cell hr9 0 (.int .i64 0) rfl
    have hab4 := newint_set hr9 (.int .i64 (a : Int))
    have hb4 := set_below (k := 0) (v := .int .i64 (a : Int)) (bt5 HB2.out.1 hb9) (Nat.le_trans HB2.out.1.size habs)
    have hj4 := (heap_setCell_other w9 ⟨ab, 0, none⟩ jb (.int .i64 (a : Int)) (fun e => by have e : jb = ab := e; have := lt_of_block HB2.out.2.1; omega)).trans ((hb9.block jb (lt_of_block HB2.out.2.1)).trans HB2.out.2.1)
    have HM := Lib.hid (And.intro hb4 (And.intro hab4 (And.intro hj4 (Nat.le_trans HB2.out.1.size habs))))
    clear hR9 hb9 hr9 h7 h5 h6 hab4 hb4 hj4 habs
    go_wp2_with fail
    refine NoPanic.normal ?_
    clear x0
    generalize w9.setCell ⟨ab, 0, none⟩ _ = w4 at *
    have hJ4 := HJ.out.1.keep (w' := w4) (fun _ h => h) (fun k _ hk => HM.out.1.block k hk)
    obtain ⟨e1, e2, e3, e4, g1, g2, g3, g4, g5, c1, c2, c3, c4⟩ := putOn_steps (j := j) (a := a) (puts := puts) HD.out.2.2.2 HJ.out.2.2.2.2.2.2 (by have := room_fits HFT.out HN.out.2.2.2.2.2.2.1 (by have := HV.out.2.2.2.2.2; omega); have := HN.out.2.2.2.2.1; have := HV.out.2.1; omega) (by have := HV.out.2.2.2.1; have := HV.out.2.1; omega) (fun p hp => (HV.out.2.2.2.2.1 p hp).2)
    have HCM : Hid (Jr.commit d j puts = (e4, Jr.added j a puts, true, 0)) := Lib.hid ((HC0.out a HFT.out).trans g5)
    have HE := Lib.hid (And.intro g1 (And.intro g2 (And.intro g3 g4)))
    have HAN := Lib.hid (room_fits HFT.out HN.out.2.2.2.2.2.2.1 (by have := HV.out.2.2.2.2.2; omega))
    have HT := Lib.hid (And.intro hJ4 (And.intro (HD.out.1.later HM.out.1) (And.intro (show More F F w from fun k hk => .inl hk) (And.intro (show Touch (fun k => F k ∨ G k) w w4 from Touch.of HM.out.1) (And.intro HM.out.2.2.1 (And.intro HM.out.2.1 (And.intro (show w.heap.size ≤ jb ∧ ¬ F jb from ⟨Nat.le_of_eq HB2.out.2.2.symm, fun hf => by have := HD.out.1.lt jb hf; have := HB2.out.2.2; omega⟩) (And.intro HM.out.2.2.2 (HV.out.1.rd.later HM.out.1)))))))))
    have HK0 : Hid (∃ k9 q9, Cl d s k9 q9 ∧ Cl e1 s (k9 + 1) (q9 + 20) ∧ Cl e2 s (k9 + 1 + 1) 0 ∧ Cl e3 s (k9 + 1 + 1 + 1) 1 ∧ k9 ≤ 900000 ∧ q9 ≤ 90000) := Lib.hid ⟨k0, 0, HD.out.2.2.2, c1, c2, c3, by have := HN.out.2.1; omega, by decide⟩
    have HL4 := Lib.hid (And.intro HJ.out.2.1 (And.intro HJ.out.2.2.1 (And.intro HJ.out.2.2.2.1 (And.intro HJ.out.2.2.2.2.2.1 HJ.out.2.2.2.2.2.2))))
    clear hJ4 g1 g2 g3 g4 g5 c1 c2 c3 c4 HB2 HM HFT CR
    go_upto_region 10 with fail
    refine Rel.region_tail 9 (by kernel_rfl) [some 41, some 42, some 43, some 44, some 45, some 46, some 47, some 48, some 10, none] (by kernel_rfl) (by kernel_rfl) (by kernel_rfl) [.eq (.pointer (some ⟨q, 0, none⟩)), .eq (.pointer (some ⟨q, 0, none⟩)), .eq (.pointer (some ⟨q, 3, none⟩)), .eq (.pointer (some ⟨q, 4, none⟩)), .eq (.int .i64 (nx : Int)), .eq (.int .i64 (a : Int)), .eq (.slice ao L cap), ⟨fun v w9 => ∃ pa pc, v = .agg #[.int .i64 (nx : Int), .int .i64 (a : Int), .slice pa L pc] ∧ PRow (fun k => w4.heap.size ≤ k) w9 (.slice pa L pc) puts, fun _ _ _ h hb => by obtain ⟨pa, pc, h1, h2⟩ := h; exact ⟨pa, pc, h1, h2.later hb⟩⟩, ⟨fun v w9 => ∃ r, v = .pointer (some ⟨r, 0, none⟩) ∧ w4.heap.size ≤ r ∧ w9.heap[r]? = some (.cells #[.int .i64 0, .int .i64 0, .slice none 0 0] 77 (0, 0)), fun _ _ _ h hb => by obtain ⟨r, h1, h2, h3⟩ := h; exact ⟨r, h1, h2, (hb.block r (lt_of_block h3)).trans h3⟩⟩] ⟨?_, ?_, ?_, ?_, ?_, ?_, ?_, ?_, ?_, trivial⟩ ?_
    · intro u w9 hb9 hd9
      clear hd9
      have q9 := (hb9.block jb (lt_of_block HT.out.2.2.2.2.1)).trans HT.out.2.2.2.2.1
      have c90 := (blk_cell q9 0 _ rfl).1
      clear q9
      simp only [List.getElem_toArray, List.getElem_cons_zero, List.getElem_cons_succ] at c90
      refine ⟨?_⟩
      simp only [Rel.canD, List.take_zero]
      go_wp2_with fail
      exact ⟨rfl, rfl, Below.refl _ _, rfl⟩
    · intro u w9 hb9 hd9
      have e0 : u 0 = .pointer (some ⟨q, 0, none⟩) := hd9 0 (by kernel_rfl)
      clear hd9
      refine ⟨?_⟩
      simp only [Rel.canD, List.take_succ_cons, List.take_zero, Nat.reduceAdd]
      go_wp2_with fail
      exact ⟨rfl, rfl, Below.refl _ _, rfl⟩
    · intro u w9 hb9 hd9
      have e1 : u 1 = .pointer (some ⟨q, 0, none⟩) := hd9 1 (by kernel_rfl)
      clear hd9
      refine ⟨?_⟩
      simp only [Rel.canD, List.take_succ_cons, List.take_zero, Nat.reduceAdd]
      go_wp2_with fail
      exact ⟨rfl, rfl, Below.refl _ _, rfl⟩
    · intro u w9 hb9 hd9
      have e2 : u 2 = .pointer (some ⟨q, 3, none⟩) := hd9 2 (by kernel_rfl)
      clear hd9
      refine ⟨?_⟩
      simp only [Rel.canD, List.take_succ_cons, List.take_zero, Nat.reduceAdd]
      go_wp2_with fail
      exact ⟨rfl, rfl, Below.refl _ _, rfl⟩
    · intro u w9 hb9 hd9
      have e3 : u 3 = .pointer (some ⟨q, 4, none⟩) := hd9 3 (by kernel_rfl)
      clear hd9
      obtain ⟨ov, hq4, -⟩ := id HT.out.1.ex
      have q9 := (hb9.block q (lt_of_block hq4)).trans hq4
      have c94 := (blk_cell q9 4 _ rfl).1
      clear q9
      simp only [List.getElem_toArray, List.getElem_cons_zero, List.getElem_cons_succ] at c94
      clear hq4
      refine ⟨?_⟩
      simp only [Rel.canD, List.take_succ_cons, List.take_zero, Nat.reduceAdd]
      go_wp2_with fail
      exact ⟨rfl, rfl, Below.refl _ _, rfl⟩
    · intro u w9 hb9 hd9
      clear hd9
      have q9 := (hb9.block ab (lt_of_block HT.out.2.2.2.2.2.1)).trans HT.out.2.2.2.2.2.1
      have c90 := (blk_cell q9 0 _ rfl).1
      clear q9
      simp only [List.getElem_toArray, List.getElem_cons_zero, List.getElem_cons_succ] at c90
      refine ⟨?_⟩
      simp only [Rel.canD, List.take_succ_cons, List.take_zero, Nat.reduceAdd]
      go_wp2_with fail
      exact ⟨rfl, rfl, Below.refl _ _, rfl⟩
    · intro u w9 hb9 hd9
      clear hd9
      refine ⟨?_⟩
      simp only [Rel.canD, List.take_succ_cons, List.take_zero, Nat.reduceAdd]
      go_wp2_with fail
      exact ⟨rfl, rfl, Below.refl _ _, rfl⟩
    · intro u w9 hb9 hd9
      have e4 : u 4 = .int .i64 (nx : Int) := hd9 4 (by kernel_rfl)
      have e5 : u 5 = .int .i64 (a : Int) := hd9 5 (by kernel_rfl)
      have e6 : u 6 = .slice ao L cap := hd9 6 (by kernel_rfl)
      clear hd9
      have c9 := newRecord_w (nx : Int) (a : Int) (.slice ao L cap) puts w9 (HT.out.2.2.2.2.2.2.2.2.later hb9) (fun p hp => (HV.out.2.2.2.2.1 p hp).2) (by have := HV.out.2.2.2.1; have := HV.out.2.1; omega)
      have hsz := hb9.size
      refine ⟨?_⟩
      simp only [Rel.canD, List.take_succ_cons, List.take_zero, Nat.reduceAdd]
      go_wp2_with fail
      refine c9.mono ?_
      rintro e w8 ⟨vr, rfl, hP8, hb8⟩
      obtain ⟨pa, pc, rfl, -⟩ := hP8.shape
      rw [← HV.out.2.1] at hP8 ⊢
      have HP8 := Lib.hid (hP8.keep (G' := fun k => w4.heap.size ≤ k) (fun k hk => Nat.le_trans hsz hk) (fun _ _ _ => rfl))
      clear hP8 c9
      go_wp2_with fail
      exact ⟨rfl, rfl, hb8, pa, pc, rfl, HP8.out⟩
    · intro u w9 hb9 hd9
      clear hd9
      have hbx : Below w9.heap.size w9 (w9.alloc (.cells #[.int .i64 0, .int .i64 0, .slice none 0 0] 77)) := (Below.refl _ w9).alloc (Nat.le_refl _) _
      have hnx := heap_alloc_new w9 (.cells #[.int .i64 0, .int .i64 0, .slice none 0 0] 77)
      have hsz := hb9.size
      refine ⟨?_⟩
      simp only [Rel.canD, List.take_succ_cons, List.take_zero, Nat.reduceAdd]
      go_wp2_with fail
      exact ⟨rfl, rfl, hbx, w9.heap.size, rfl, hsz, hnx⟩
    intro u w9 hb9 hR9
    simp only [Rel.canD, Nat.reduceAdd, List.take_succ_cons, List.take_zero, List.drop_succ_cons, List.drop_zero]
    obtain ⟨rb, h8, hrbs, hr9⟩ := hR9 8 (by decide)
    obtain ⟨pa, pc, h7, hP9⟩ := hR9 7 (by decide)
    rw [h8, h7]
    have x0 := blk_cell hr9 0 (.int .i64 0) rfl
    have x1 := blk_cell hr9 1 (.int .i64 0) rfl
    have x2 := blk_cell hr9 2 (.slice none 0 0) rfl
    obtain ⟨nr, tr⟩ := set3 hr9 (.int .i64 (nx : Int)) (.int .i64 (a : Int)) (.slice pa L pc)
    have hP5 := hP9.keepT (G' := fun k => w4.heap.size ≤ k) (fun _ h => h) (fun k9 C T f _ hc hT => tr.block k9 (lt_of_block hc) (fun e => by
      subst e
      rw [hr9] at hc
      cases hc
      rcases hT with h | h
      · exact absurd h (by decide)
      · exact absurd h (by decide)))
    have hb5 := tr.below (fun k hk => by rw [hk]; exact hrbs : ∀ k, k = rb → w4.heap.size ≤ k) hb9 hb9.size
    have HY := Lib.hid (And.intro hb5 (And.intro nr (And.intro hP5.cap hrbs)))
    clear hR9 hb9 hr9 nr tr hP9 hP5 hb5 h7 h8 hrbs
    go_upto_region 13 with fail
    clear x0 x1 x2
    generalize (((w9.setCell ⟨rb, 0, none⟩ (.int .i64 (nx : Int))).setCell ⟨rb, 1, none⟩ (.int .i64 (a : Int))).setCell ⟨rb, 2, none⟩ (.slice pa L pc)) = w5 at HY ⊢
    have hj5 := (HY.out.1.block jb (lt_of_block HT.out.2.2.2.2.1)).trans HT.out.2.2.2.2.1
    have ha5 := (HY.out.1.block ab (lt_of_block HT.out.2.2.2.2.2.1)).trans HT.out.2.2.2.2.2.1
    obtain ⟨ov, hq4, -⟩ := id HT.out.1.ex
    have hq5 := (HY.out.1.block q (lt_of_block hq4)).trans hq4
    have hnf := heap_alloc_new w5 (.cells #[.func (.func 31) #[] #[.pointer (some ⟨jb, 0, none⟩), .pointer (some ⟨ab, 0, none⟩), .pointer (some ⟨rb, 0, none⟩)], .func (.func 21) #[.pointer (some ⟨g, 0, none⟩)] #[], .func (.func 34) #[] #[.pointer (some ⟨jb, 0, none⟩), .pointer (some ⟨rb, 0, none⟩)]] 60)
    have hbf : Below w5.heap.size w5 (w5.alloc (.cells #[.func (.func 31) #[] #[.pointer (some ⟨jb, 0, none⟩), .pointer (some ⟨ab, 0, none⟩), .pointer (some ⟨rb, 0, none⟩)], .func (.func 21) #[.pointer (some ⟨g, 0, none⟩)] #[], .func (.func 34) #[] #[.pointer (some ⟨jb, 0, none⟩), .pointer (some ⟨rb, 0, none⟩)]] 60)) := (Below.refl _ w5).alloc (Nat.le_refl _) _
    have j0 := (blk_cell hj5 0 (.pointer (some ⟨q, 0, none⟩)) rfl).1
    have q0 := (blk_cell hq5 0 (.pointer (some ⟨g, 0, none⟩)) rfl).1
    have hqw : q < w.heap.size := HD.out.2.2.1 q HJ.out.1.hq
    have hF4 : ∀ k, F k → k < w4.heap.size := HT.out.2.1.lt
    have hGF4 : ∀ k, G k → ¬ F k := (HT.out.2.2.1).off HD.out.2.1 HD.out.2.2.1
    have hs5 := HY.out.1.size
    have hrb5 := lt_of_block HY.out.2.1
    obtain ⟨k9, q9, c0, c1, c2, c3, ck, cq⟩ := HK0.out
    have cF := commit_first g q jb ab rb w5.heap.size a nx s k9 q9 j _ _ _ _ pa pc puts d e1 e2 e3 F _ ((HT.out.2.1.later HY.out.1).later hbf) HE.out.1 HE.out.2.1 HE.out.2.2.1 c0 c1 c2 ck cq ((hbf.block q (lt_of_block hq5)).trans hq5) (hGF4 q HJ.out.1.hq) ((hbf.block jb (lt_of_block hj5)).trans hj5) HT.out.2.2.2.2.2.2.1.2 ((hbf.block ab (lt_of_block ha5)).trans ha5) (by rw [← HV.out.2.1]; exact (hbf.block rb hrb5).trans HY.out.2.1) (fun hf => by have := hF4 rb hf; have := HY.out.2.2.2; omega)
      (by rw [← HV.out.2.1]; exact (HY.out.2.2.1.out (F := fun _ => False) (fun _ _ h => h)).rd.later hbf) (fun p hp => (HV.out.2.2.2.2.1 p hp).2) (fun p hp => by have := (HV.out.2.2.2.2.1 p hp).1.1; have := HN.out.1; omega) (by have := HV.out.2.2.2.1; have := HV.out.2.1; omega) (by have := HN.out.2.2.2.2.2.2.2.2.1; omega) (by show j.from_ + a + puts.length + 1 ≤ _; have := HAN.out; have := HN.out.2.2.2.2.1; have := HN.out.1; have := HV.out.2.1; have e1 : j.from_ = j.from_ := rfl; have e2 : j.n = j.n := rfl; omega) hnf (fun hf => by have := hF4 _ hf; omega)
    have HBF := Lib.hid (And.intro hbf (And.intro hj5 (And.intro hF4 (And.intro hGF4 (And.intro hs5 (And.intro hrb5 (And.intro hqw (And.intro c3 ck))))))))
    clear hj5 ha5 hq4 hq5 hF4 hGF4 hs5 hrb5 hqw c0 c1 c2 c3 ck cq hnf hbf
    go_wp2_with fail
    clear j0 q0
    generalize w5.alloc _ = w6 at HBF cF
    refine cF.mono ?_
    rintro e w7 ⟨rfl, F7, hD7, ht7, hm7⟩
    clear cF
    have hs6 := HBF.out.1.size
    have hs7 := ht7.size
    have hJ7 : JIn w7 q g G j.from_ j.n (mm : Int) (nx : Int) j.at_ rs := HT.out.1.keep (fun _ h => h) (fun k hk hl => ((ht7.block k (by have := HBF.out.2.2.2.2.1; omega) (HBF.out.2.2.2.1 k hk)).trans (HBF.out.1.block k (by have := HBF.out.2.2.2.2.1; omega))).trans (HY.out.1.block k hl))
    have hJ7' := hJ7.keep (G' := fun k => (G k ∨ (w4.heap.size ≤ k ∧ k < w5.heap.size)) ∨ w7.heap.size ≤ k) (fun k h => .inl (.inl h)) (fun _ _ _ => rfl)
    have hP7 : PRow (fun k => (G k ∨ (w4.heap.size ≤ k ∧ k < w5.heap.size)) ∨ w7.heap.size ≤ k) w7 (.slice pa L pc) puts := HY.out.2.2.1.keep (fun k h => .inl (.inr h)) (fun k hk hl => (ht7.block k (Nat.lt_of_lt_of_le hl hs6) (fun hf => by have := HBF.out.2.2.1 k hf; omega)).trans (HBF.out.1.block k hl))
    have hj7 := ((ht7.block jb (by have := lt_of_block HBF.out.2.1; omega) HT.out.2.2.2.2.2.2.1.2).trans (HBF.out.1.block jb (lt_of_block HBF.out.2.1))).trans HBF.out.2.1
    have hr7 := ((ht7.block rb (by have := HBF.out.2.2.2.2.2.1; omega) (fun hf => by have := HBF.out.2.2.1 rb hf; have := HY.out.2.2.2; omega)).trans (HBF.out.1.block rb HBF.out.2.2.2.2.2.1)).trans HY.out.2.1
    have hG7 : ∀ k, ((G k ∨ (w4.heap.size ≤ k ∧ k < w5.heap.size)) ∨ w7.heap.size ≤ k) → ¬ F7 k := fun k hk hf => by
      have h1 := hD7.lt k hf
      rcases hk with (h | h) | h
      · rcases hm7 k hf with h2 | h2
        · exact HBF.out.2.2.2.1 k h h2
        · have := HD.out.2.2.1 k h; have := HT.out.2.2.2.1.size; have := HBF.out.2.2.2.2.1; omega
      · rcases hm7 k hf with h2 | h2
        · have := HBF.out.2.2.1 k h2; omega
        · omega
      · omega
    have hjG : ¬ ((G jb ∨ (w4.heap.size ≤ jb ∧ jb < w5.heap.size)) ∨ w7.heap.size ≤ jb) := fun h => by
      have h4 := lt_of_block HT.out.2.2.2.2.1
      rcases h with (h | h) | h
      · have := HD.out.2.2.1 jb h; have := HT.out.2.2.2.2.2.2.1.1; omega
      · omega
      · have := HBF.out.2.2.2.2.1; omega
    have cA := add_w q g j.from_ j.n j.at_ (mm : Int) (nx : Int) _ rs (nx, a, puts) pa pc w7 hJ7' (by rw [← HV.out.2.1]; exact hP7) (by have := HN.out.2.2.2.2.2.2.2.2.2; have := HJ.out.2.2.1; have e : (rs).length = j.cnt := HL4.out.2.1; omega) (by have := HN.out.2.2.2.2.2.2.2.2.1; omega) (by show a ≤ _; have := HAN.out; have := HN.out.2.2.2.2.1; have := HN.out.1; have e2 : j.n = j.n := rfl; omega) (by show puts.length ≤ _; have := HV.out.2.2.2.1; have := HV.out.2.1; omega) (fun k hk => .inr hk)
    simp only at cA
    rw [← HV.out.2.1] at cA
    have HS7 := Lib.hid (And.intro hD7 (And.intro ht7 (And.intro hm7 (And.intro hG7 (And.intro hjG (And.intro hs6 hs7))))))
    have j0 := (blk_cell hj7 0 (.pointer (some ⟨q, 0, none⟩)) rfl).1
    have p0 := (blk_cell hr7 0 (.int .i64 (nx : Int)) rfl).1
    have p1 := (blk_cell hr7 1 (.int .i64 (a : Int)) rfl).1
    have p2 := (blk_cell hr7 2 (.slice pa L pc) rfl).1
    have HJ7 := Lib.hid hj7
    clear hs6 hs7 hJ7 hJ7' hP7 hj7 hr7 hG7 hjG hD7 ht7 hm7
    go_wp2_with fail
    refine cA.mono ?_
    rintro e w8 ⟨rfl, hJ8, ht8⟩
    clear cA j0 p0 p1 p2
    have hD8 := HS7.out.1.keep ht8.size (fun k hk => ht8.block k (HS7.out.1.lt k hk) (fun hg => HS7.out.2.2.2.1 k hg hk))
    have hj8 := (ht8.block jb (lt_of_block HJ7.out) HS7.out.2.2.2.2.1).trans HJ7.out
    obtain ⟨ov8, hq8, -⟩ := id hJ8.ex
    have j0 := (blk_cell hj8 0 (.pointer (some ⟨q, 0, none⟩)) rfl).1
    have q0 := (blk_cell hq8 0 (.pointer (some ⟨g, 0, none⟩)) rfl).1
    have cL := flush_w g e3 F7 w8 hD8 (Nat.le_trans HBF.out.2.2.2.2.2.2.2.1.n (by have := HBF.out.2.2.2.2.2.2.2.2; omega)) (Nat.le_trans HBF.out.2.2.2.2.2.2.2.1.wait (by decide))
    rw [HE.out.2.2.2] at cL
    have HS8 := Lib.hid (And.intro hJ8.cap (And.intro ht8 hD8))
    clear hD8 hj8 hq8 hJ8 ht8
    go_wp2_with fail
    refine cL.mono ?_
    rintro e w9 ⟨F9, rfl, hD9, ht9, hm9⟩
    have HS9 := Lib.hid (And.intro hD9 (And.intro ht9 hm9))
    clear cL j0 q0 hD9 ht9 hm9
    go_wp2_with fail
    go_ret2
    rw [HCM.out]
    have hJ9 := HS8.out.1.keep (w' := w9) (fun _ h => h) (fun k hk hl => HS9.out.2.1.block k hl (HS7.out.2.2.2.1 k hk.1))
    have h45 := HBF.out.2.2.2.2.1
    have h67 := HS7.out.2.2.2.2.2
    have hw4 := HT.out.2.2.2.1.size
    have h78 := HS8.out.2.1.size
    have h89 := HS9.out.2.1.size
    have hm7F : ∀ k, F7 k → (F k ∨ G k) ∨ w.heap.size ≤ k := fun k hk => by
      rcases HS7.out.2.2.1 k hk with h | h
      · exact (HT.out.2.2.1 k h).imp .inl id
      · exact .inr (by omega)
    have hGG : ∀ k, ((G k ∨ (w4.heap.size ≤ k ∧ k < w5.heap.size)) ∨ w7.heap.size ≤ k) → (F k ∨ G k) ∨ w.heap.size ≤ k := fun k hk => by
      rcases hk with (h | h) | h
      · exact .inl (.inr h)
      · exact .inr (by omega)
      · exact .inr (by omega)
    refine ⟨rfl, F9, fun k => ((G k ∨ (w4.heap.size ≤ k ∧ k < w5.heap.size)) ∨ w7.heap.size ≤ k) ∧ k < w8.heap.size, rs ++ [((nx : Int), a, puts)], ?_, ?_, ?_, ?_, HS9.out.1, ?_, ?_, ?_, ?_⟩
    · show JIn w9 q g _ j.from_ j.n j.mark (j.next + 1) (a + (puts.length + 2)) _
      rw [HL4.out.2.2.2.1, HL4.out.2.2.2.2, ← Nat.add_assoc]
      rw [HV.out.2.1] at hJ9
      exact hJ9
    · show (rs ++ [((nx : Int), a, puts)]).flatMap (·.2.2) = j.owed ++ puts
      rw [List.flatMap_append, HL4.out.1]; simp
    · show (rs ++ [((nx : Int), a, puts)]).length = j.cnt + 1
      rw [List.length_append, HL4.out.2.1]; rfl
    · show ∀ x, (rs ++ [((nx : Int), a, puts)]).head? = some x → x.2.1 = if j.cnt = 0 then a else j.base
      intro x hx9
      have hcn := HL4.out.2.1
      have hbn := HL4.out.2.2.1
      generalize rs = rs5 at hx9 hcn hbn
      cases rs5 with
      | nil =>
        have h0 : j.cnt = 0 := hcn.symm
        rw [if_pos h0]
        cases hx9
        rfl
      | cons y l =>
        have e9 : y = x := by simpa using hx9
        rw [if_neg (by rw [← hcn]; simp), ← e9]
        exact hbn y rfl
    · intro k hk hf
      rcases HS9.out.2.2 k hf with h | h
      · exact HS7.out.2.2.2.1 k hk.1 h
      · have := hk.2; omega
    · intro k hk
      have := hk.2
      omega
    · refine Touch.chain (Touch.chain (Touch.chain ((HT.out.2.2.2.1.trans (Touch.of HY.out.1)).trans (Touch.of HBF.out.1)) HS7.out.2.1 (fun k hk => (HT.out.2.2.1 k hk).imp .inl id)) HS8.out.2.1 hGG) HS9.out.2.1 hm7F
    · intro k hk
      rcases hk with hk | hk
      · rcases HS9.out.2.2 k hk with h | h
        · exact (hm7F k h).elim (fun h => .inl h) .inr
        · exact .inr (by omega)
      · exact hGG k hk.1
  | none =>
    have hcn : rs ≠ [] := fun e => fits_cnt HJ.out.2.2.2.2.1 hft (by rw [← HJ.out.2.2.1, e]; rfl)
    obtain ⟨d1, hd1, cl1⟩ := HD.out.2.2.2.flush
    obtain ⟨y1, y2, y3, d4, y4, y5, y6, y7, hfi, -, -, -, cl4⟩ := finish_steps (j := j) cl1 HJ.out.2.2.2.2.2.1 HJ.out.2.2.2.2.2.2 HN.out.2.2.2.1 (by have := HV.out.2.2.2.2.2; have := HN.out.2.2.2.2.1; omega)
    obtain ⟨a, hfa⟩ : ∃ a, Jr.fits (Jr.settled j) (L + 2) = some a := by
      have e : Jr.fits (Jr.settled j) (L + 2) = if j.at_ + (L + 2) ≤ j.n then some j.at_ else some 2 := by
        unfold Jr.fits
        rw [if_neg (show ¬ ((Jr.settled j).wrapped = true) from fun h => (by cases h))]
        rw [if_pos (show (Jr.settled j).cnt = 0 ∨ 2 + (L + 2) ≤ (Jr.settled j).base from .inl rfl)]
        rfl
      by_cases h2 : j.at_ + (L + 2) ≤ j.n
      · exact ⟨_, by rw [e, if_pos h2]⟩
      · exact ⟨_, by rw [e, if_neg h2]⟩
    have hst : Jr.settle d j = (d4, Jr.settled j, 0) := by
      unfold Jr.settle Jr.seqE
      rw [if_neg (fits_cnt HJ.out.2.2.2.2.1 hft)]
      simp only [hd1, if_true, hfi]
    have HCB : Hid (Jr.commit d j puts = Jr.putOn d4 (Jr.settled j) a puts) := Lib.hid (by
      unfold Jr.commit
      rw [← HV.out.2.1, hft]
      simp only [hst, if_true, hfa])
    have CR := Lib.hid (fun W (hb9 : Below w.heap.size w W) => (CRm.out W hb9).mono (fun e w' h => room_none h hft))
    have HST := Lib.hid (And.intro hcn (And.intro hd1 (And.intro hfi (And.intro cl4 hfa))))
    clear hft CRm HC0 hcn hd1 cl1 y4 y5 y6 y7 hfi cl4 hfa hst
    refine Rel.region_tailE 8 6 (by kernel_rfl) [some 21, some 22, some 23, some 24, some 20, some 25, some 26, some 7, none, some 8] (by kernel_rfl) (by kernel_rfl) (by kernel_rfl) [.eq (.pointer (some ⟨q, 0, none⟩)), .eq (.slice ao L cap), .eq (.int .i64 ((L : Int) + 2)), ⟨fun v _ => ∃ a0 : Nat, v = .tuple #[.int .i64 (a0 : Int), .bool false], fun _ _ _ h _ => h⟩, ⟨fun v _ => ∃ a0 : Nat, v = .tuple #[.int .i64 (a0 : Int), .bool false], fun _ _ _ h _ => h⟩, ⟨fun v _ => ∃ a0 : Nat, v = .int .i64 (a0 : Int), fun _ _ _ h _ => h⟩, .eq (.bool false), ⟨fun v w9 => ∃ r, v = .pointer (some ⟨r, 0, none⟩) ∧ w2.heap.size ≤ r ∧ w9.heap[r]? = some (.cells #[.int .i64 0] 3 (0, 0)), fun _ _ _ h hb => by obtain ⟨r, h1, h2, h3⟩ := h; exact ⟨r, h1, h2, (hb.block r (lt_of_block h3)).trans h3⟩⟩] (fun o ho u w hd => by cases ho; obtain ⟨a0, e17⟩ := hd 4 (by kernel_rfl); exact ⟨.bool false, .inl ⟨rfl, fun w => by simp only [Rel.canD, List.take_succ_cons, List.take_zero, Nat.reduceAdd, e17]; go_simp⟩, rfl⟩) ⟨?_, ?_, ?_, ?_, ?_, ?_, ?_, ?_, trivial⟩ ?_
    · intro u w9 hb9 hd9
      clear hd9
      have q9 := (hb9.block jb (lt_of_block HB2.out.2.1)).trans HB2.out.2.1
      have c90 := (blk_cell q9 0 _ rfl).1
      clear q9
      simp only [List.getElem_toArray, List.getElem_cons_zero, List.getElem_cons_succ] at c90
      refine ⟨?_⟩
      simp only [Rel.canD, List.take_zero]
      go_wp2_with fail
      exact ⟨rfl, rfl, Below.refl _ _, rfl⟩
    · intro u w9 hb9 hd9
      clear hd9
      refine ⟨?_⟩
      simp only [Rel.canD, List.take_succ_cons, List.take_zero, Nat.reduceAdd]
      go_wp2_with fail
      exact ⟨rfl, rfl, Below.refl _ _, rfl⟩
    · intro u w9 hb9 hd9
      have e1 : u 1 = .slice ao L cap := hd9 1 (by kernel_rfl)
      clear hd9
      have c9 := CZ.out w9
      refine ⟨?_⟩
      simp only [Rel.canD, List.take_succ_cons, List.take_zero, Nat.reduceAdd]
      go_wp2_with fail
      refine c9.mono ?_
      rintro e w8 ⟨rfl, rfl⟩
      go_wp2_with fail
      exact ⟨rfl, rfl, Below.refl _ _, rfl⟩
    · intro u w9 hb9 hd9
      have e0 : u 0 = .pointer (some ⟨q, 0, none⟩) := hd9 0 (by kernel_rfl)
      have e2 : u 2 = .int .i64 ((L : Int) + 2) := hd9 2 (by kernel_rfl)
      clear hd9
      have c9 := CR.out w9 (bt5 HB2.out.1 hb9)
      refine ⟨?_⟩
      simp only [Rel.canD, List.take_succ_cons, List.take_zero, Nat.reduceAdd]
      go_wp2_with fail
      refine c9.mono ?_
      rintro e w8 ⟨⟨a0, rfl⟩, hb8⟩
      go_wp2_with fail
      exact ⟨rfl, rfl, hb8, a0, rfl⟩
    · intro u w9 hb9 hd9
      have e3 := hd9 3 (by kernel_rfl)
      clear hd9
      obtain ⟨a0, e3x⟩ := e3
      refine ⟨?_⟩
      simp only [Rel.canD, List.take_succ_cons, List.take_zero, Nat.reduceAdd]
      go_wp2_with fail
      exact ⟨rfl, rfl, Below.refl _ _, a0, rfl⟩
    · intro u w9 hb9 hd9
      have e4 := hd9 4 (by kernel_rfl)
      clear hd9
      obtain ⟨a0, e4x⟩ := e4
      refine ⟨?_⟩
      simp only [Rel.canD, List.take_succ_cons, List.take_zero, Nat.reduceAdd]
      go_wp2_with fail
      exact ⟨rfl, rfl, Below.refl _ _, a0, rfl⟩
    · intro u w9 hb9 hd9
      have e4 := hd9 4 (by kernel_rfl)
      clear hd9
      obtain ⟨a0, e4x⟩ := e4
      refine ⟨?_⟩
      simp only [Rel.canD, List.take_succ_cons, List.take_zero, Nat.reduceAdd]
      go_wp2_with fail
      exact ⟨rfl, rfl, Below.refl _ _, rfl⟩
    · intro u w9 hb9 hd9
      clear hd9
      have hbx : Below w9.heap.size w9 (w9.alloc (.cells #[.int .i64 0] 3)) := (Below.refl _ w9).alloc (Nat.le_refl _) _
      have hnx := heap_alloc_new w9 (.cells #[.int .i64 0] 3)
      have hsz := hb9.size
      refine ⟨?_⟩
      simp only [Rel.canD, List.take_succ_cons, List.take_zero, Nat.reduceAdd]
      go_wp2_with fail
      exact ⟨rfl, rfl, hbx, w9.heap.size, rfl, hsz, hnx⟩
    intro u w9 hb9 hR9
    simp only [Rel.canD, Nat.reduceAdd, List.take_succ_cons, List.take_zero, List.drop_succ_cons, List.drop_zero]
    obtain ⟨ab, h7, habs, hr9⟩ := hR9 7 (by decide)
    obtain ⟨a0, h5⟩ := hR9 5 (by decide)
    have h6 : u 6 = .bool false := hR9 6 (by decide)
    rw [h7, h5, h6]
    have x0 := blk_cell hr9 0 (.int .i64 0) rfl
    have hab4 := newint_set hr9 (.int .i64 (a0 : Int))
    have hb4 := set_below (k := 0) (v := .int .i64 (a0 : Int)) (bt5 HB2.out.1 hb9) (Nat.le_trans HB2.out.1.size habs)
    have hj4 := (heap_setCell_other w9 ⟨ab, 0, none⟩ jb (.int .i64 (a0 : Int)) (fun e => by have e : jb = ab := e; have := lt_of_block HB2.out.2.1; omega)).trans ((hb9.block jb (lt_of_block HB2.out.2.1)).trans HB2.out.2.1)
    have HM := Lib.hid (And.intro hb4 (And.intro hab4 (And.intro hj4 (Nat.le_trans HB2.out.1.size habs))))
    clear hR9 hb9 hr9 h7 h5 h6 hab4 hb4 hj4 habs
    go_wp2_with fail
    refine NoPanic.normal ?_
    clear x0
    generalize w9.setCell ⟨ab, 0, none⟩ _ = w4 at *
    have j0 := (blk_cell HM.out.2.2.1 0 (.pointer (some ⟨q, 0, none⟩)) rfl).1
    have cS := settle_w g q mm nx s k0 0 j rs d d1 F G w4 (HJ.out.1.keep (fun _ h => h) (fun k _ hk => HM.out.1.block k hk)) HST.out.1 (by have := HJ.out.2.2.1; have := HN.out.2.2.2.2.2.2.2.2.2; omega) HJ.out.2.1 (HD.out.1.later HM.out.1) HD.out.2.1 (fun k hk => Nat.lt_of_lt_of_le (HD.out.2.2.1 k hk) HM.out.1.size) HD.out.2.2.2 HST.out.2.1 (by have := HN.out.1; omega) (by have := HN.out.2.1; have := HN.out.2.2.1; omega) (by have := HN.out.2.2.1; omega) HJ.out.2.2.2.2.2.1 HJ.out.2.2.2.2.2.2 HN.out.2.2.2.1 (by have := HV.out.2.2.2.2.2; have := HN.out.2.2.2.2.1; omega) (by have := HN.out.2.2.2.2.2.2.2.1; omega) (by have := HN.out.2.2.2.2.2.2.2.2.1; omega) (by have := HN.out.2.2.2.2.2.1; have := HN.out.2.2.2.2.1; have := HN.out.1; omega)
    rw [HST.out.2.2.1] at cS
    go_wp2_with fail
    refine cS.mono ?_
    rintro e ws ⟨rfl, hJs, ⟨Fs, hDs, hms⟩, hts⟩
    have hjF : ¬ (F jb ∨ G jb) := fun h => h.elim (fun hf => by have := HD.out.1.lt jb hf; have := HB2.out.2.2; omega) (fun hf => by have := HD.out.2.2.1 jb hf; have := HB2.out.2.2; omega)
    have haF : ¬ (F ab ∨ G ab) := fun h => h.elim (fun hf => by have := HD.out.1.lt ab hf; have := HM.out.2.2.2; omega) (fun hf => by have := HD.out.2.2.1 ab hf; have := HM.out.2.2.2; omega)
    have hjs := (hts.block jb (lt_of_block HM.out.2.2.1) hjF).trans HM.out.2.2.1
    have has := (hts.block ab (lt_of_block HM.out.2.1) haF).trans HM.out.2.1
    have hjFs : ¬ Fs jb := fun hf => (hms jb hf).elim (fun h => hjF (.inl h)) (fun h => by have := lt_of_block HM.out.2.2.1; omega)
    have HAF := Lib.hid (show ¬ Fs ab from fun hf => (hms ab hf).elim (fun h => haF (.inl h)) (fun h => by have := lt_of_block HM.out.2.1; omega))
    have HMS := Lib.hid (fun k hk => hk.elim (fun h => (hms k h).imp .inl (fun h => Nat.le_trans HM.out.1.size h)) (fun h => .inl (.inr h)) : More (fun k => F k ∨ G k) (fun k => Fs k ∨ G k) w)
    have hvs := (HV.out.1.touch ((Touch.of HM.out.1).trans hts) (fun k hk => hk.elim (fun h => (hms k h).imp .inl (fun h => Nat.le_trans HM.out.1.size h)) (fun h => .inl (.inr h)) : More (fun k => F k ∨ G k) (fun k => Fs k ∨ G k) w)).rd
    have HS := Lib.hid (And.intro hJs (And.intro hDs (And.intro (show More F Fs w from fun k hk => (hms k hk).imp id (fun h => Nat.le_trans HM.out.1.size h)) (And.intro ((Touch.of (F := fun k => F k ∨ G k) HM.out.1).trans hts) (And.intro hjs (And.intro has (And.intro (show w.heap.size ≤ jb ∧ ¬ Fs jb from ⟨Nat.le_of_eq HB2.out.2.2.symm, hjFs⟩) (And.intro HM.out.2.2.2 hvs))))))))
    have CRm2 := Lib.hid (fun W (hb9 : Below ws.heap.size ws W) => (room_w g q (L + 2) ((mm : Int) + 1) (Jr.settled j) [] G W (by show JIn W q g G j.from_ j.n _ j.next j.at_ []; rw [HJ.out.2.2.2.2.2.2]; exact hJs.keep (fun _ h => h) (fun k _ hk => hb9.block k hk)) rfl (fun x h => (by cases h)) ⟨fun h => (by cases h), fun h => absurd rfl h.1⟩ (by have := HV.out.2.2.2.1; omega) (by show j.n ≤ _; have := HN.out.2.2.2.2.1; have := HN.out.1; omega) (by show j.at_ ≤ _; have := HN.out.2.2.2.2.2.1; have := HN.out.2.2.2.2.1; have := HN.out.1; omega) (by show j.at_ ≤ _; have := HN.out.2.2.2.2.2.1; have := HN.out.2.2.2.2.1; have := HN.out.1; omega) (by show _ ≤ j.n; have := HV.out.2.2.2.2.2; omega)).mono (fun e w' h => room_some h HST.out.2.2.2.2))
    clear j0 cS hJs hDs hms hts hjF haF hjs has hjFs hvs
    go_upto_region 9 with fail
    refine Rel.region_tailE 7 6 (by kernel_rfl) [some 35, some 36, some 37, some 38, some 34, some 39, some 40, none] (by kernel_rfl) (by kernel_rfl) (by kernel_rfl) [.eq (.pointer (some ⟨q, 0, none⟩)), .eq (.slice ao L cap), .eq (.int .i64 ((L : Int) + 2)), .eq (.tuple #[.int .i64 (a : Int), .bool true]), .eq (.tuple #[.int .i64 (a : Int), .bool true]), .eq (.int .i64 (a : Int)), .eq (.bool true)] (fun o ho u w hd => by cases ho; have e17 : u 4 = .tuple #[.int .i64 (a : Int), .bool true] := hd 4 (by kernel_rfl); exact ⟨.bool true, .inl ⟨rfl, fun w => by simp only [Rel.canD, List.take_succ_cons, List.take_zero, Nat.reduceAdd, e17]; go_simp⟩, rfl⟩) ⟨?_, ?_, ?_, ?_, ?_, ?_, ?_, trivial⟩ ?_
    · intro u w9 hb9 hd9
      clear hd9
      have q9 := (hb9.block jb (lt_of_block HS.out.2.2.2.2.1)).trans HS.out.2.2.2.2.1
      have c90 := (blk_cell q9 0 _ rfl).1
      clear q9
      simp only [List.getElem_toArray, List.getElem_cons_zero, List.getElem_cons_succ] at c90
      refine ⟨?_⟩
      simp only [Rel.canD, List.take_zero]
      go_wp2_with fail
      exact ⟨rfl, rfl, Below.refl _ _, rfl⟩
    · intro u w9 hb9 hd9
      clear hd9
      refine ⟨?_⟩
      simp only [Rel.canD, List.take_succ_cons, List.take_zero, Nat.reduceAdd]
      go_wp2_with fail
      exact ⟨rfl, rfl, Below.refl _ _, rfl⟩
    · intro u w9 hb9 hd9
      have e1 : u 1 = .slice ao L cap := hd9 1 (by kernel_rfl)
      clear hd9
      have c9 := CZ.out w9
      refine ⟨?_⟩
      simp only [Rel.canD, List.take_succ_cons, List.take_zero, Nat.reduceAdd]
      go_wp2_with fail
      refine c9.mono ?_
      rintro e w8 ⟨rfl, rfl⟩
      go_wp2_with fail
      exact ⟨rfl, rfl, Below.refl _ _, rfl⟩
    · intro u w9 hb9 hd9
      have e0 : u 0 = .pointer (some ⟨q, 0, none⟩) := hd9 0 (by kernel_rfl)
      have e2 : u 2 = .int .i64 ((L : Int) + 2) := hd9 2 (by kernel_rfl)
      clear hd9
      have c9 := CRm2.out w9 hb9
      refine ⟨?_⟩
      simp only [Rel.canD, List.take_succ_cons, List.take_zero, Nat.reduceAdd]
      go_wp2_with fail
      refine c9.mono ?_
      rintro e w8 ⟨rfl, hb8⟩
      go_wp2_with fail
      exact ⟨rfl, rfl, hb8, rfl⟩
    · intro u w9 hb9 hd9
      have e3 : u 3 = .tuple #[.int .i64 (a : Int), .bool true] := hd9 3 (by kernel_rfl)
      clear hd9
      refine ⟨?_⟩
      simp only [Rel.canD, List.take_succ_cons, List.take_zero, Nat.reduceAdd]
      go_wp2_with fail
      exact ⟨rfl, rfl, Below.refl _ _, rfl⟩
    · intro u w9 hb9 hd9
      have e4 : u 4 = .tuple #[.int .i64 (a : Int), .bool true] := hd9 4 (by kernel_rfl)
      clear hd9
      refine ⟨?_⟩
      simp only [Rel.canD, List.take_succ_cons, List.take_zero, Nat.reduceAdd]
      go_wp2_with fail
      exact ⟨rfl, rfl, Below.refl _ _, rfl⟩
    · intro u w9 hb9 hd9
      have e4 : u 4 = .tuple #[.int .i64 (a : Int), .bool true] := hd9 4 (by kernel_rfl)
      clear hd9
      refine ⟨?_⟩
      simp only [Rel.canD, List.take_succ_cons, List.take_zero, Nat.reduceAdd]
      go_wp2_with fail
      exact ⟨rfl, rfl, Below.refl _ _, rfl⟩
    intro u w9 hb9 hR9
    simp only [Rel.canD, Nat.reduceAdd, List.take_succ_cons, List.take_zero, List.drop_succ_cons, List.drop_zero]
    have h5 : u 5 = .int .i64 (a : Int) := hR9 5 (by decide)
    rw [h5]
    have hab9 := (hb9.block ab (lt_of_block HS.out.2.2.2.2.2.1)).trans HS.out.2.2.2.2.2.1
    have hj9 := (hb9.block jb (lt_of_block HS.out.2.2.2.2.1)).trans HS.out.2.2.2.2.1
    have x0 := blk_cell hab9 0 (.int .i64 (a0 : Int)) rfl
    have hab4 := newint_set hab9 (.int .i64 (a : Int))
    have hjn : jb ≠ ab := fun e => by have := lt_of_block HB2.out.2.1; have := HM.out.2.2.1; rw [e] at this; rw [HM.out.2.1] at this; cases this
    have hj4 := (heap_setCell_other w9 ⟨ab, 0, none⟩ jb (.int .i64 (a : Int)) hjn).trans hj9
    have hTW : Touch (fun k => k = ab) ws (w9.setCell ⟨ab, 0, none⟩ (.int .i64 (a : Int))) := (Touch.of hb9).trans (Touch.cell (F := fun k => k = ab) (g := ab) rfl 0 _)
    have HTW := Lib.hid (And.intro hab4 (And.intro hj4 hTW))
    clear hR9 hb9 hab9 hj9 h5 hab4 hj4 hTW hjn
    go_wp2_with fail
    refine NoPanic.normal ?_
    clear x0
    generalize w9.setCell ⟨ab, 0, none⟩ _ = w4 at *
    have hJ4 : JIn w4 q g G j.from_ j.n ((mm : Int) + 1) (nx : Int) j.at_ [] := HS.out.1.keep (fun _ h => h) (fun k hk hl => HTW.out.2.2.block k hl (fun e => by have := HD.out.2.2.1 k hk; have := HS.out.2.2.2.2.2.2.2.1; omega))
    have hD4 : Dev13 w4 g d4 Fs := HS.out.2.1.keep HTW.out.2.2.size (fun k hk => HTW.out.2.2.block k (HS.out.2.1.lt k hk) (fun e => HAF.out (e ▸ hk)))
    have hT4 : Touch (fun k => F k ∨ G k) w w4 := HS.out.2.2.2.1.chain HTW.out.2.2 (fun k hk => .inr (by have := HS.out.2.2.2.2.2.2.2.1; omega))
    obtain ⟨e1, e2, e3, e4, g1, g2, g3, g4, g5, c1, c2, c3, c4⟩ := putOn_steps (j := Jr.settled j) (a := a) (puts := puts) HST.out.2.2.2.1 HJ.out.2.2.2.2.2.2 (by have := room_fits HST.out.2.2.2.2 HN.out.2.2.2.2.2.1 (by show _ ≤ j.n; have := HV.out.2.2.2.2.2; omega); have := HN.out.2.2.2.2.1; have := HV.out.2.1; have e1 : (Jr.settled j).from_ = j.from_ := rfl; have e2 : (Jr.settled j).n = j.n := rfl; omega) (by have := HV.out.2.2.2.1; have := HV.out.2.1; omega) (fun p hp => (HV.out.2.2.2.2.1 p hp).2)
    have HCM : Hid (Jr.commit d j puts = (e4, Jr.added (Jr.settled j) a puts, true, 0)) := Lib.hid (HCB.out.trans g5)
    have HE := Lib.hid (And.intro g1 (And.intro g2 (And.intro g3 g4)))
    have HAN := Lib.hid (room_fits HST.out.2.2.2.2 HN.out.2.2.2.2.2.1 (by show _ ≤ j.n; have := HV.out.2.2.2.2.2; omega))
    have HT := Lib.hid (And.intro hJ4 (And.intro hD4 (And.intro HS.out.2.2.1 (And.intro hT4 (And.intro HTW.out.2.1 (And.intro HTW.out.1 (And.intro HS.out.2.2.2.2.2.2.1 (And.intro HS.out.2.2.2.2.2.2.2.1 (HV.out.1.touch hT4 HMS.out).rd))))))))
    have HK0 : Hid (∃ k9 q9, Cl d4 s k9 q9 ∧ Cl e1 s (k9 + 1) (q9 + 20) ∧ Cl e2 s (k9 + 1 + 1) 0 ∧ Cl e3 s (k9 + 1 + 1 + 1) 1 ∧ k9 ≤ 900000 ∧ q9 ≤ 90000) := Lib.hid ⟨_, _, HST.out.2.2.2.1, c1, c2, c3, by have := HN.out.2.1; have := HN.out.2.2.1; omega, by decide⟩
    have HL4 : Hid (([] : List Rec).flatMap (·.2.2) = (Jr.settled j).owed ∧ ([] : List Rec).length = (Jr.settled j).cnt ∧ (∀ x, ([] : List Rec).head? = some x → x.2.1 = (Jr.settled j).base) ∧ (Jr.settled j).mark = (mm : Int) + 1 ∧ (Jr.settled j).next = (nx : Int)) := Lib.hid ⟨rfl, rfl, fun x h => (by cases h), by show j.mark + 1 = _; rw [HJ.out.2.2.2.2.2.1], HJ.out.2.2.2.2.2.2⟩
    clear hJ4 hD4 hT4 g1 g2 g3 g4 g5 c1 c2 c3 c4 HS HTW HAF HMS HM HB2 CR CRm2 HCB
    go_upto_region 10 with fail
    refine Rel.region_tail 9 (by kernel_rfl) [some 41, some 42, some 43, some 44, some 45, some 46, some 47, some 48, some 10, none] (by kernel_rfl) (by kernel_rfl) (by kernel_rfl) [.eq (.pointer (some ⟨q, 0, none⟩)), .eq (.pointer (some ⟨q, 0, none⟩)), .eq (.pointer (some ⟨q, 3, none⟩)), .eq (.pointer (some ⟨q, 4, none⟩)), .eq (.int .i64 (nx : Int)), .eq (.int .i64 (a : Int)), .eq (.slice ao L cap), ⟨fun v w9 => ∃ pa pc, v = .agg #[.int .i64 (nx : Int), .int .i64 (a : Int), .slice pa L pc] ∧ PRow (fun k => w4.heap.size ≤ k) w9 (.slice pa L pc) puts, fun _ _ _ h hb => by obtain ⟨pa, pc, h1, h2⟩ := h; exact ⟨pa, pc, h1, h2.later hb⟩⟩, ⟨fun v w9 => ∃ r, v = .pointer (some ⟨r, 0, none⟩) ∧ w4.heap.size ≤ r ∧ w9.heap[r]? = some (.cells #[.int .i64 0, .int .i64 0, .slice none 0 0] 77 (0, 0)), fun _ _ _ h hb => by obtain ⟨r, h1, h2, h3⟩ := h; exact ⟨r, h1, h2, (hb.block r (lt_of_block h3)).trans h3⟩⟩] ⟨?_, ?_, ?_, ?_, ?_, ?_, ?_, ?_, ?_, trivial⟩ ?_
    · intro u w9 hb9 hd9
      clear hd9
      have q9 := (hb9.block jb (lt_of_block HT.out.2.2.2.2.1)).trans HT.out.2.2.2.2.1
      have c90 := (blk_cell q9 0 _ rfl).1
      clear q9
      simp only [List.getElem_toArray, List.getElem_cons_zero, List.getElem_cons_succ] at c90
      refine ⟨?_⟩
      simp only [Rel.canD, List.take_zero]
      go_wp2_with fail
      exact ⟨rfl, rfl, Below.refl _ _, rfl⟩
    · intro u w9 hb9 hd9
      have e0 : u 0 = .pointer (some ⟨q, 0, none⟩) := hd9 0 (by kernel_rfl)
      clear hd9
      refine ⟨?_⟩
      simp only [Rel.canD, List.take_succ_cons, List.take_zero, Nat.reduceAdd]
      go_wp2_with fail
      exact ⟨rfl, rfl, Below.refl _ _, rfl⟩
    · intro u w9 hb9 hd9
      have e1 : u 1 = .pointer (some ⟨q, 0, none⟩) := hd9 1 (by kernel_rfl)
      clear hd9
      refine ⟨?_⟩
      simp only [Rel.canD, List.take_succ_cons, List.take_zero, Nat.reduceAdd]
      go_wp2_with fail
      exact ⟨rfl, rfl, Below.refl _ _, rfl⟩
    · intro u w9 hb9 hd9
      have e2 : u 2 = .pointer (some ⟨q, 3, none⟩) := hd9 2 (by kernel_rfl)
      clear hd9
      refine ⟨?_⟩
      simp only [Rel.canD, List.take_succ_cons, List.take_zero, Nat.reduceAdd]
      go_wp2_with fail
      exact ⟨rfl, rfl, Below.refl _ _, rfl⟩
    · intro u w9 hb9 hd9
      have e3 : u 3 = .pointer (some ⟨q, 4, none⟩) := hd9 3 (by kernel_rfl)
      clear hd9
      obtain ⟨ov, hq4, -⟩ := id HT.out.1.ex
      have q9 := (hb9.block q (lt_of_block hq4)).trans hq4
      have c94 := (blk_cell q9 4 _ rfl).1
      clear q9
      simp only [List.getElem_toArray, List.getElem_cons_zero, List.getElem_cons_succ] at c94
      clear hq4
      refine ⟨?_⟩
      simp only [Rel.canD, List.take_succ_cons, List.take_zero, Nat.reduceAdd]
      go_wp2_with fail
      exact ⟨rfl, rfl, Below.refl _ _, rfl⟩
    · intro u w9 hb9 hd9
      clear hd9
      have q9 := (hb9.block ab (lt_of_block HT.out.2.2.2.2.2.1)).trans HT.out.2.2.2.2.2.1
      have c90 := (blk_cell q9 0 _ rfl).1
      clear q9
      simp only [List.getElem_toArray, List.getElem_cons_zero, List.getElem_cons_succ] at c90
      refine ⟨?_⟩
      simp only [Rel.canD, List.take_succ_cons, List.take_zero, Nat.reduceAdd]
      go_wp2_with fail
      exact ⟨rfl, rfl, Below.refl _ _, rfl⟩
    · intro u w9 hb9 hd9
      clear hd9
      refine ⟨?_⟩
      simp only [Rel.canD, List.take_succ_cons, List.take_zero, Nat.reduceAdd]
      go_wp2_with fail
      exact ⟨rfl, rfl, Below.refl _ _, rfl⟩
    · intro u w9 hb9 hd9
      have e4 : u 4 = .int .i64 (nx : Int) := hd9 4 (by kernel_rfl)
      have e5 : u 5 = .int .i64 (a : Int) := hd9 5 (by kernel_rfl)
      have e6 : u 6 = .slice ao L cap := hd9 6 (by kernel_rfl)
      clear hd9
      have c9 := newRecord_w (nx : Int) (a : Int) (.slice ao L cap) puts w9 (HT.out.2.2.2.2.2.2.2.2.later hb9) (fun p hp => (HV.out.2.2.2.2.1 p hp).2) (by have := HV.out.2.2.2.1; have := HV.out.2.1; omega)
      have hsz := hb9.size
      refine ⟨?_⟩
      simp only [Rel.canD, List.take_succ_cons, List.take_zero, Nat.reduceAdd]
      go_wp2_with fail
      refine c9.mono ?_
      rintro e w8 ⟨vr, rfl, hP8, hb8⟩
      obtain ⟨pa, pc, rfl, -⟩ := hP8.shape
      rw [← HV.out.2.1] at hP8 ⊢
      have HP8 := Lib.hid (hP8.keep (G' := fun k => w4.heap.size ≤ k) (fun k hk => Nat.le_trans hsz hk) (fun _ _ _ => rfl))
      clear hP8 c9
      go_wp2_with fail
      exact ⟨rfl, rfl, hb8, pa, pc, rfl, HP8.out⟩
    · intro u w9 hb9 hd9
      clear hd9
      have hbx : Below w9.heap.size w9 (w9.alloc (.cells #[.int .i64 0, .int .i64 0, .slice none 0 0] 77)) := (Below.refl _ w9).alloc (Nat.le_refl _) _
      have hnx := heap_alloc_new w9 (.cells #[.int .i64 0, .int .i64 0, .slice none 0 0] 77)
      have hsz := hb9.size
      refine ⟨?_⟩
      simp only [Rel.canD, List.take_succ_cons, List.take_zero, Nat.reduceAdd]
      go_wp2_with fail
      exact ⟨rfl, rfl, hbx, w9.heap.size, rfl, hsz, hnx⟩
    intro u w9 hb9 hR9
    simp only [Rel.canD, Nat.reduceAdd, List.take_succ_cons, List.take_zero, List.drop_succ_cons, List.drop_zero]
    obtain ⟨rb, h8, hrbs, hr9⟩ := hR9 8 (by decide)
    obtain ⟨pa, pc, h7, hP9⟩ := hR9 7 (by decide)
    rw [h8, h7]
    have x0 := blk_cell hr9 0 (.int .i64 0) rfl
    have x1 := blk_cell hr9 1 (.int .i64 0) rfl
    have x2 := blk_cell hr9 2 (.slice none 0 0) rfl
    obtain ⟨nr, tr⟩ := set3 hr9 (.int .i64 (nx : Int)) (.int .i64 (a : Int)) (.slice pa L pc)
    have hP5 := hP9.keepT (G' := fun k => w4.heap.size ≤ k) (fun _ h => h) (fun k9 C T f _ hc hT => tr.block k9 (lt_of_block hc) (fun e => by
      subst e
      rw [hr9] at hc
      cases hc
      rcases hT with h | h
      · exact absurd h (by decide)
      · exact absurd h (by decide)))
    have hb5 := tr.below (fun k hk => by rw [hk]; exact hrbs : ∀ k, k = rb → w4.heap.size ≤ k) hb9 hb9.size
    have HY := Lib.hid (And.intro hb5 (And.intro nr (And.intro hP5.cap hrbs)))
    clear hR9 hb9 hr9 nr tr hP9 hP5 hb5 h7 h8 hrbs
    go_upto_region 13 with fail
    clear x0 x1 x2
    generalize (((w9.setCell ⟨rb, 0, none⟩ (.int .i64 (nx : Int))).setCell ⟨rb, 1, none⟩ (.int .i64 (a : Int))).setCell ⟨rb, 2, none⟩ (.slice pa L pc)) = w5 at HY ⊢
    have hj5 := (HY.out.1.block jb (lt_of_block HT.out.2.2.2.2.1)).trans HT.out.2.2.2.2.1
    have ha5 := (HY.out.1.block ab (lt_of_block HT.out.2.2.2.2.2.1)).trans HT.out.2.2.2.2.2.1
    obtain ⟨ov, hq4, -⟩ := id HT.out.1.ex
    have hq5 := (HY.out.1.block q (lt_of_block hq4)).trans hq4
    have hnf := heap_alloc_new w5 (.cells #[.func (.func 31) #[] #[.pointer (some ⟨jb, 0, none⟩), .pointer (some ⟨ab, 0, none⟩), .pointer (some ⟨rb, 0, none⟩)], .func (.func 21) #[.pointer (some ⟨g, 0, none⟩)] #[], .func (.func 34) #[] #[.pointer (some ⟨jb, 0, none⟩), .pointer (some ⟨rb, 0, none⟩)]] 60)
    have hbf : Below w5.heap.size w5 (w5.alloc (.cells #[.func (.func 31) #[] #[.pointer (some ⟨jb, 0, none⟩), .pointer (some ⟨ab, 0, none⟩), .pointer (some ⟨rb, 0, none⟩)], .func (.func 21) #[.pointer (some ⟨g, 0, none⟩)] #[], .func (.func 34) #[] #[.pointer (some ⟨jb, 0, none⟩), .pointer (some ⟨rb, 0, none⟩)]] 60)) := (Below.refl _ w5).alloc (Nat.le_refl _) _
    have j0 := (blk_cell hj5 0 (.pointer (some ⟨q, 0, none⟩)) rfl).1
    have q0 := (blk_cell hq5 0 (.pointer (some ⟨g, 0, none⟩)) rfl).1
    have hqw : q < w.heap.size := HD.out.2.2.1 q HJ.out.1.hq
    have hF4 : ∀ k, Fs k → k < w4.heap.size := HT.out.2.1.lt
    have hGF4 : ∀ k, G k → ¬ Fs k := (HT.out.2.2.1).off HD.out.2.1 HD.out.2.2.1
    have hs5 := HY.out.1.size
    have hrb5 := lt_of_block HY.out.2.1
    obtain ⟨k9, q9, c0, c1, c2, c3, ck, cq⟩ := HK0.out
    have cF := commit_first g q jb ab rb w5.heap.size a nx s k9 q9 (Jr.settled j) _ _ _ _ pa pc puts d4 e1 e2 e3 Fs _ ((HT.out.2.1.later HY.out.1).later hbf) HE.out.1 HE.out.2.1 HE.out.2.2.1 c0 c1 c2 ck cq ((hbf.block q (lt_of_block hq5)).trans hq5) (hGF4 q HJ.out.1.hq) ((hbf.block jb (lt_of_block hj5)).trans hj5) HT.out.2.2.2.2.2.2.1.2 ((hbf.block ab (lt_of_block ha5)).trans ha5) (by rw [← HV.out.2.1]; exact (hbf.block rb hrb5).trans HY.out.2.1) (fun hf => by have := hF4 rb hf; have := HY.out.2.2.2; omega)
      (by rw [← HV.out.2.1]; exact (HY.out.2.2.1.out (F := fun _ => False) (fun _ _ h => h)).rd.later hbf) (fun p hp => (HV.out.2.2.2.2.1 p hp).2) (fun p hp => by have := (HV.out.2.2.2.2.1 p hp).1.1; have := HN.out.1; omega) (by have := HV.out.2.2.2.1; have := HV.out.2.1; omega) (by have := HN.out.2.2.2.2.2.2.2.2.1; omega) (by show (Jr.settled j).from_ + a + puts.length + 1 ≤ _; have := HAN.out; have := HN.out.2.2.2.2.1; have := HN.out.1; have := HV.out.2.1; have e1 : (Jr.settled j).from_ = j.from_ := rfl; have e2 : (Jr.settled j).n = j.n := rfl; omega) hnf (fun hf => by have := hF4 _ hf; omega)
    have HBF := Lib.hid (And.intro hbf (And.intro hj5 (And.intro hF4 (And.intro hGF4 (And.intro hs5 (And.intro hrb5 (And.intro hqw (And.intro c3 ck))))))))
    clear hj5 ha5 hq4 hq5 hF4 hGF4 hs5 hrb5 hqw c0 c1 c2 c3 ck cq hnf hbf
    go_wp2_with fail
    clear j0 q0
    generalize w5.alloc _ = w6 at HBF cF
    refine cF.mono ?_
    rintro e w7 ⟨rfl, F7, hD7, ht7, hm7⟩
    clear cF
    have hs6 := HBF.out.1.size
    have hs7 := ht7.size
    have hJ7 : JIn w7 q g G (Jr.settled j).from_ (Jr.settled j).n ((mm : Int) + 1) (nx : Int) (Jr.settled j).at_ ([] : List Rec) := HT.out.1.keep (fun _ h => h) (fun k hk hl => ((ht7.block k (by have := HBF.out.2.2.2.2.1; omega) (HBF.out.2.2.2.1 k hk)).trans (HBF.out.1.block k (by have := HBF.out.2.2.2.2.1; omega))).trans (HY.out.1.block k hl))
    have hJ7' := hJ7.keep (G' := fun k => (G k ∨ (w4.heap.size ≤ k ∧ k < w5.heap.size)) ∨ w7.heap.size ≤ k) (fun k h => .inl (.inl h)) (fun _ _ _ => rfl)
    have hP7 : PRow (fun k => (G k ∨ (w4.heap.size ≤ k ∧ k < w5.heap.size)) ∨ w7.heap.size ≤ k) w7 (.slice pa L pc) puts := HY.out.2.2.1.keep (fun k h => .inl (.inr h)) (fun k hk hl => (ht7.block k (Nat.lt_of_lt_of_le hl hs6) (fun hf => by have := HBF.out.2.2.1 k hf; omega)).trans (HBF.out.1.block k hl))
    have hj7 := ((ht7.block jb (by have := lt_of_block HBF.out.2.1; omega) HT.out.2.2.2.2.2.2.1.2).trans (HBF.out.1.block jb (lt_of_block HBF.out.2.1))).trans HBF.out.2.1
    have hr7 := ((ht7.block rb (by have := HBF.out.2.2.2.2.2.1; omega) (fun hf => by have := HBF.out.2.2.1 rb hf; have := HY.out.2.2.2; omega)).trans (HBF.out.1.block rb HBF.out.2.2.2.2.2.1)).trans HY.out.2.1
    have hG7 : ∀ k, ((G k ∨ (w4.heap.size ≤ k ∧ k < w5.heap.size)) ∨ w7.heap.size ≤ k) → ¬ F7 k := fun k hk hf => by
      have h1 := hD7.lt k hf
      rcases hk with (h | h) | h
      · rcases hm7 k hf with h2 | h2
        · exact HBF.out.2.2.2.1 k h h2
        · have := HD.out.2.2.1 k h; have := HT.out.2.2.2.1.size; have := HBF.out.2.2.2.2.1; omega
      · rcases hm7 k hf with h2 | h2
        · have := HBF.out.2.2.1 k h2; omega
        · omega
      · omega
    have hjG : ¬ ((G jb ∨ (w4.heap.size ≤ jb ∧ jb < w5.heap.size)) ∨ w7.heap.size ≤ jb) := fun h => by
      have h4 := lt_of_block HT.out.2.2.2.2.1
      rcases h with (h | h) | h
      · have := HD.out.2.2.1 jb h; have := HT.out.2.2.2.2.2.2.1.1; omega
      · omega
      · have := HBF.out.2.2.2.2.1; omega
    have cA := add_w q g (Jr.settled j).from_ (Jr.settled j).n (Jr.settled j).at_ ((mm : Int) + 1) (nx : Int) _ ([] : List Rec) (nx, a, puts) pa pc w7 hJ7' (by rw [← HV.out.2.1]; exact hP7) (by have := HN.out.2.2.2.2.2.2.2.2.2; have := HJ.out.2.2.1; have e : (([] : List Rec)).length = (Jr.settled j).cnt := HL4.out.2.1; exact Nat.zero_le _) (by have := HN.out.2.2.2.2.2.2.2.2.1; omega) (by show a ≤ _; have := HAN.out; have := HN.out.2.2.2.2.1; have := HN.out.1; have e2 : (Jr.settled j).n = j.n := rfl; omega) (by show puts.length ≤ _; have := HV.out.2.2.2.1; have := HV.out.2.1; omega) (fun k hk => .inr hk)
    simp only at cA
    rw [← HV.out.2.1] at cA
    have HS7 := Lib.hid (And.intro hD7 (And.intro ht7 (And.intro hm7 (And.intro hG7 (And.intro hjG (And.intro hs6 hs7))))))
    have j0 := (blk_cell hj7 0 (.pointer (some ⟨q, 0, none⟩)) rfl).1
    have p0 := (blk_cell hr7 0 (.int .i64 (nx : Int)) rfl).1
    have p1 := (blk_cell hr7 1 (.int .i64 (a : Int)) rfl).1
    have p2 := (blk_cell hr7 2 (.slice pa L pc) rfl).1
    have HJ7 := Lib.hid hj7
    clear hs6 hs7 hJ7 hJ7' hP7 hj7 hr7 hG7 hjG hD7 ht7 hm7
    go_wp2_with fail
    refine cA.mono ?_
    rintro e w8 ⟨rfl, hJ8, ht8⟩
    clear cA j0 p0 p1 p2
    have hD8 := HS7.out.1.keep ht8.size (fun k hk => ht8.block k (HS7.out.1.lt k hk) (fun hg => HS7.out.2.2.2.1 k hg hk))
    have hj8 := (ht8.block jb (lt_of_block HJ7.out) HS7.out.2.2.2.2.1).trans HJ7.out
    obtain ⟨ov8, hq8, -⟩ := id hJ8.ex
    have j0 := (blk_cell hj8 0 (.pointer (some ⟨q, 0, none⟩)) rfl).1
    have q0 := (blk_cell hq8 0 (.pointer (some ⟨g, 0, none⟩)) rfl).1
    have cL := flush_w g e3 F7 w8 hD8 (Nat.le_trans HBF.out.2.2.2.2.2.2.2.1.n (by have := HBF.out.2.2.2.2.2.2.2.2; omega)) (Nat.le_trans HBF.out.2.2.2.2.2.2.2.1.wait (by decide))
    rw [HE.out.2.2.2] at cL
    have HS8 := Lib.hid (And.intro hJ8.cap (And.intro ht8 hD8))
    clear hD8 hj8 hq8 hJ8 ht8
    go_wp2_with fail
    refine cL.mono ?_
    rintro e w9 ⟨F9, rfl, hD9, ht9, hm9⟩
    have HS9 := Lib.hid (And.intro hD9 (And.intro ht9 hm9))
    clear cL j0 q0 hD9 ht9 hm9
    go_wp2_with fail
    go_ret2
    rw [HCM.out]
    have hJ9 := HS8.out.1.keep (w' := w9) (fun _ h => h) (fun k hk hl => HS9.out.2.1.block k hl (HS7.out.2.2.2.1 k hk.1))
    have h45 := HBF.out.2.2.2.2.1
    have h67 := HS7.out.2.2.2.2.2
    have hw4 := HT.out.2.2.2.1.size
    have h78 := HS8.out.2.1.size
    have h89 := HS9.out.2.1.size
    have hm7F : ∀ k, F7 k → (F k ∨ G k) ∨ w.heap.size ≤ k := fun k hk => by
      rcases HS7.out.2.2.1 k hk with h | h
      · exact (HT.out.2.2.1 k h).imp .inl id
      · exact .inr (by omega)
    have hGG : ∀ k, ((G k ∨ (w4.heap.size ≤ k ∧ k < w5.heap.size)) ∨ w7.heap.size ≤ k) → (F k ∨ G k) ∨ w.heap.size ≤ k := fun k hk => by
      rcases hk with (h | h) | h
      · exact .inl (.inr h)
      · exact .inr (by omega)
      · exact .inr (by omega)
    refine ⟨rfl, F9, fun k => ((G k ∨ (w4.heap.size ≤ k ∧ k < w5.heap.size)) ∨ w7.heap.size ≤ k) ∧ k < w8.heap.size, ([] : List Rec) ++ [((nx : Int), a, puts)], ?_, ?_, ?_, ?_, HS9.out.1, ?_, ?_, ?_, ?_⟩
    · show JIn w9 q g _ (Jr.settled j).from_ (Jr.settled j).n (Jr.settled j).mark ((Jr.settled j).next + 1) (a + (puts.length + 2)) _
      rw [HL4.out.2.2.2.1, HL4.out.2.2.2.2, ← Nat.add_assoc]
      rw [HV.out.2.1] at hJ9
      exact hJ9
    · show (([] : List Rec) ++ [((nx : Int), a, puts)]).flatMap (·.2.2) = (Jr.settled j).owed ++ puts
      rw [List.flatMap_append, HL4.out.1]; simp
    · show (([] : List Rec) ++ [((nx : Int), a, puts)]).length = (Jr.settled j).cnt + 1
      rw [List.length_append, HL4.out.2.1]; rfl
    · show ∀ x, (([] : List Rec) ++ [((nx : Int), a, puts)]).head? = some x → x.2.1 = if (Jr.settled j).cnt = 0 then a else (Jr.settled j).base
      intro x hx9
      have e9 : ((nx : Int), a, puts) = x := by simpa using hx9
      rw [← e9, if_pos (show (Jr.settled j).cnt = 0 from rfl)]
    · intro k hk hf
      rcases HS9.out.2.2 k hf with h | h
      · exact HS7.out.2.2.2.1 k hk.1 h
      · have := hk.2; omega
    · intro k hk
      have := hk.2
      omega
    · refine Touch.chain (Touch.chain (Touch.chain ((HT.out.2.2.2.1.trans (Touch.of HY.out.1)).trans (Touch.of HBF.out.1)) HS7.out.2.1 (fun k hk => (HT.out.2.2.1 k hk).imp .inl id)) HS8.out.2.1 hGG) HS9.out.2.1 hm7F
    · intro k hk
      rcases hk with hk | hk
      · rcases HS9.out.2.2 k hk with h | h
        · exact (hm7F k h).elim (fun h => .inl h) .inr
        · exact .inr (by omega)
      · exact hGG k hk.1
end Go.Proofs.Ytjdmmnpfjbnhoaa
namespace Go.Proofs.Ytjdmmnpfjbnhoaa
open Go.RowKit

/-- A journal upon a device, in memory. -/
def JD13 (w : World) (q g : Nat) (j : Jr.J) (d : Dv.S) (F : Nat → Prop) : Prop := ∃ (FD FJ : Nat → Prop) (rs : List Rec), Dev13 w g d FD ∧ JIn w q g FJ j.from_ j.n j.mark j.next j.at_ rs ∧ rs.flatMap (·.2.2) = j.owed ∧ rs.length = j.cnt ∧ (∀ x, rs.head? = some x → x.2.1 = j.base) ∧ (∀ k, FJ k → ¬ FD k) ∧ (∀ k, FD k ∨ FJ k → F k) ∧ (∀ k, F k → k < w.heap.size)
theorem open_read {d : Dv.S} (h : Jr.Fl d) (n : Nat) (hn : n ≤ d.safe.length) : Dv.read d ((0 : Nat) : Int) n = (Jr.sure d d.safe 1, Jr.pl d.safe 0 n, 0) := by
  rw [Jr.read_fl h 0 n (by omega)]
  have e : ({ d with n := d.n + 1 } : Dv.S) = Jr.sure d d.safe 1 := by
    unfold Jr.sure
    rw [← h.wait]
  rw [e]
  rfl
theorem pl_64 {s : List Dv.Sec} {n : Nat} (h : ∀ x ∈ s, x.length = 64) (hn : n ≤ s.length) : ∀ x ∈ Jr.pl s 0 n, x.length = 64 := fun x hx => by
  unfold Jr.pl at hx
  obtain ⟨i, hi, rfl⟩ := List.mem_map.1 hx
  have hi := List.mem_range.1 hi
  have hl : i < s.length := by omega
  rw [Nat.zero_add, List.getD_eq_getElem?_getD, List.getElem?_eq_getElem hl]
  exact h _ (List.getElem_mem hl)
theorem pl_best {s : List Dv.Sec} {j : Jr.J} {m first at0 : Nat} {ts : List Jr.Tr} (h : Jr.Sits s j m first at0 ts) (h0 : j.from_ = 0) : Jr.bestk (Jr.pl s 0 j.n) j.n 2 = some ((m : Int), (first : Int), at0) := by
  have h5 := h.n5
  have hb := h.best_is
  rw [h0] at hb
  show Jr.best (Jr.best none (Jr.readMark ((Jr.pl s 0 j.n).getD 0 []) 0 j.n)) (Jr.readMark ((Jr.pl s 0 j.n).getD 1 []) 1 j.n) = _
  rw [Jr.pl_at _ _ _ _ (by omega), Jr.pl_at _ _ _ _ (by omega)]
  exact hb
set_option maxHeartbeats 12800000 in
set_option maxRecDepth 100000 in
theorem open_w (g : Nat) (d : Dv.S) (F : Nat → Prop) (j : Jr.J) (w : World) (hD : Dev13 w g d F) (hf : Fair15 d) (m first at0 : Nat) (ts : List Jr.Tr) (hS : Jr.Sits d.safe j m first at0 ts) (h0 : j.from_ = 0) (how : j.owed.length ≤ 1000) :
    Calls Try.prog 7 #[.pointer (some ⟨g, 0, none⟩), .int .i64 0, .int .i64 (j.n : Int)] w fun e w' => ∃ q F', e = .returned (.tuple #[.pointer (some ⟨q, 0, none⟩), .int .i64 (j.cnt : Int), .int .i64 0]) ∧
      JD13 w' q g (Jr.openS (Jr.sure d d.safe 1) (Jr.opened j.from_ j.n j.mark j.next j.at_ j.owed j.cnt)).2 (Jr.openS (Jr.sure d d.safe 1) (Jr.opened j.from_ j.n j.mark j.next j.at_ j.owed j.cnt)).1 F' ∧ Touch F w w' ∧ More F F' w := by
  have hfit := hS.fit
  have h5 := hS.n5
  rw [h0] at hfit
  have hs := hf.2.1
  have hns : j.n ≤ d.safe.length := by omega
  have hrd := open_read hf.1 j.n hns
  have hp := heap_alloc_new w (.cells #[.pointer (some ⟨g, 0, none⟩), .int .i64 0, .int .i64 (j.n : Int)] 59)
  have hb0 : Below w.heap.size w (w.alloc (.cells #[.pointer (some ⟨g, 0, none⟩), .int .i64 0, .int .i64 (j.n : Int)] 59)) := (Below.refl _ w).alloc (Nat.le_refl _) _
  have CR := Lib.hid (fun W (hb : Below w.heap.size w W) => right_w g 0 j.n d F W (hD.later hb) h5 (by omega))
  have CD := Lib.hid (fun W (hb : Below w.heap.size w W) => by
    have := read_w g d F ((0 : Nat) : Int) (j.n : Int) W (hD.later hb) (by have := hf.2.2; omega) (by decide) (by omega)
    rw [hrd] at this
    exact this)
  have hbk := pl_best hS h0
  have h64 := pl_64 hf.1.s64 hns
  have hpll := Jr.pl_length d.safe 0 j.n
  have CL := Lib.hid (fun W v (hv : BsIn W v (Jr.pl d.safe 0 j.n)) => latest_w g 0 j.n v (Jr.pl d.safe 0 j.n) W hv (by rw [hpll]; omega) h64 (by omega) _ _ _ hbk)
  have HX := Lib.hid (And.intro hf (And.intro hS (And.intro h0 (And.intro how (And.intro h64 (And.intro hpll (And.intro hfit hs)))))))
  obtain ⟨n, hn⟩ : ∃ n, n = j.n := ⟨_, rfl⟩
  have HN := Lib.hid hn
  rw [← hn] at hp hb0 CR CD CL ⊢
  obtain ⟨cn, hcn⟩ : ∃ c : Int, c = j.cnt := ⟨_, rfl⟩
  have HCN := Lib.hid hcn
  rw [← hcn]
  have HF := Lib.hid hD.lt
  have hcn9 : cn ≤ 1000000 := by have := hS.cnt; have := hS.nn; omega
  clear hD hf hS h0 how hfit h5 hs hns hrd hbk h64 hpll hn hcn
  go_enter Try.func7, Try.ntmps7
  go_upto_region 2 with fail
  obtain ⟨p9, hp9⟩ : ∃ r, r = w.heap.size := ⟨_, rfl⟩
  have HP9 := Lib.hid hp9
  rw [← hp9] at hp ⊢
  clear hp9
  generalize w.alloc _ = w1 at *
  have p0 := (blk_cell hp 0 (.pointer (some ⟨g, 0, none⟩)) rfl).1
  have p1 := (blk_cell hp 1 (.int .i64 0) rfl).1
  have p2 := (blk_cell hp 2 (.int .i64 (n : Int)) rfl).1
  have HP := Lib.hid (And.intro hb0 hp)
  clear hb0 hp
  go_wp2_with fail
  refine (CR.out w1 HP.out.1).mono ?_
  rintro e w2 ⟨rfl, hb2⟩
  have HP2 := Lib.hid (And.intro (bt5 HP.out.1 hb2) ((hb2.block p9 (lt_of_block HP.out.2)).trans HP.out.2))
  clear hb2 p0 p1 p2
  go_wp2_with fail
  refine (CD.out w2 HP2.out.1).mono ?_
  rintro e w3 ⟨F3, v, rfl, hD3, ht3, hm3, hv3⟩
  have hFp : ¬ F p9 := fun hf => by have := HF.out p9 hf; have := HP9.out; omega
  have hp3 := (ht3.block p9 (lt_of_block HP2.out.2) hFp).trans HP2.out.2
  have hF3 : ∀ k, F3 k → k < w3.heap.size := hD3.lt
  have HP3 := Lib.hid (And.intro hp3 (And.intro hD3 (And.intro ((Touch.of HP2.out.1).trans ht3) (And.intro (show More F F3 w from fun k hk => (hm3 k hk).imp id (fun h => Nat.le_trans HP2.out.1.size h)) (And.intro hv3.in_ hF3)))))
  have p0 := (blk_cell hp3 0 (.pointer (some ⟨g, 0, none⟩)) rfl).1
  have p1 := (blk_cell hp3 1 (.int .i64 0) rfl).1
  have p2 := (blk_cell hp3 2 (.int .i64 (n : Int)) rfl).1
  clear hD3 ht3 hm3 hv3 hFp hp3 hF3
  go_wp2_with fail
  refine (CL.out w3 v HP3.out.2.2.2.2.1).mono ?_
  rintro e w4 ⟨rfl, hb4⟩
  clear p0 p1 p2
  have hz := heap_alloc_new w4 (.cells #[.int .i64 (m : Int), .int .i64 (first : Int), .int .i64 (at0 : Int)] 63)
  have hb5 := bt5 hb4 ((Below.refl _ w4).alloc (Nat.le_refl _) _ : Below w4.heap.size w4 (w4.alloc (.cells #[.int .i64 (m : Int), .int .i64 (first : Int), .int .i64 (at0 : Int)] 63)))
  have HZ := Lib.hid (And.intro hz hb5)
  clear hz hb5 hb4
  go_upto_region 11 with fail
  obtain ⟨mk, hmk⟩ : ∃ r, r = w4.heap.size := ⟨_, rfl⟩
  rw [← hmk] at HZ ⊢
  clear hmk
  generalize w4.alloc _ = w5 at HZ ⊢
  have hp5 := (HZ.out.2.block p9 (lt_of_block HP3.out.1)).trans HP3.out.1
  have p0 := (blk_cell hp5 0 (.pointer (some ⟨g, 0, none⟩)) rfl).1
  have p1 := (blk_cell hp5 1 (.int .i64 0) rfl).1
  have p2 := (blk_cell hp5 2 (.int .i64 (n : Int)) rfl).1
  have m0 := (blk_cell HZ.out.1 0 (.int .i64 (m : Int)) rfl).1
  have m1 := (blk_cell HZ.out.1 1 (.int .i64 (first : Int)) rfl).1
  have m2 := (blk_cell HZ.out.1 2 (.int .i64 (at0 : Int)) rfl).1
  have hq := heap_alloc_new w5 (.cells #[.pointer (some ⟨g, 0, none⟩), .int .i64 0, .int .i64 (n : Int), .int .i64 (m : Int), .int .i64 (first : Int), .int .i64 (at0 : Int), .slice none 0 0] 69)
  have hb6 : Below w5.heap.size w5 (w5.alloc (.cells #[.pointer (some ⟨g, 0, none⟩), .int .i64 0, .int .i64 (n : Int), .int .i64 (m : Int), .int .i64 (first : Int), .int .i64 (at0 : Int), .slice none 0 0] 69)) := (Below.refl _ w5).alloc (Nat.le_refl _) _
  go_upto_region 12 with fail
  clear p0 p1 p2 m0 m1 m2 hp5
  obtain ⟨q, hqe⟩ : ∃ r, r = w5.heap.size := ⟨_, rfl⟩
  rw [← hqe] at hq ⊢
  generalize w5.alloc _ = w6 at hq hb6 ⊢
  obtain ⟨hf, hS, h0, how, h64, hpll, hfit, hs⟩ := HX.out
  have hJ6 : JIn w6 q g (fun k => q ≤ k) 0 n (m : Int) (first : Int) at0 [] := ⟨⟨_, hq, Recs.nil _ _⟩, Nat.le_refl _⟩
  have hs6 : w6.heap.size ≥ q := by have := hb6.size; omega
  have hsc := hS.scans
  rw [h0] at hsc
  have cG := gather_w q g 0 n at0 (m : Int) (first : Int) (fun k => q ≤ k) v (Jr.pl d.safe 0 j.n) (Jr.sure d d.safe 1) F3 j.next j.at_ j.owed j.cnt w6 hJ6 (hpll.trans HN.out.symm) h64 (by have := HN.out; omega) (by decide) hS.a2 (by have := hS.aN; have := HN.out; omega) (fun k hk => Nat.le_trans hs6 hk)
    (fun W ht => by
      have hbw : Below w5.heap.size w5 W := ht.below (fun k hk => by omega) hb6 hb6.size
      have hbi := (HP3.out.2.2.2.2.1.later HZ.out.2).later hbw
      rw [HN.out] at hbi
      exact ⟨(HP3.out.2.1.later HZ.out.2).later hbw, hbi⟩) hsc (by omega) (by rw [hS.next]; have := hS.nn; omega) (by rw [hS.cnt]; have := hS.nn; omega)
  have H6 := Lib.hid (And.intro hb6 (And.intro hqe hJ6))
  clear hq hb6 hJ6 hs6 hsc hf hS h0 how h64 hpll hfit hs hqe
  go_wp2_with fail
  refine cG.mono ?_
  rintro e w7 ⟨rfl, rs, hJ7, hfl, hlen, ht7⟩
  clear cG
  have cO := owed_w q g _ _ _ _ _ _ rs w7 hJ7
  rw [hlen, ← HCN.out] at cO
  have H7 := Lib.hid (And.intro hJ7.cap (And.intro hfl (And.intro hlen ht7)))
  clear hJ7 hfl hlen ht7
  go_wp2_with fail
  refine cO.mono ?_
  rintro e w0 ⟨rfl, rfl⟩
  clear cO
  have hb7 : Below w5.heap.size w5 w7 := H7.out.2.2.2.below (fun k hk => by have := H6.out.2.1; omega) H6.out.1 H6.out.1.size
  have hD7 := (HP3.out.2.1.later HZ.out.2).later hb7
  have hT7 : Touch F w w7 := ((HP3.out.2.2.1).trans (Touch.of HZ.out.2)).trans (Touch.of hb7)
  have hqw : w3.heap.size ≤ q := by have := HZ.out.2.size; have := H6.out.2.1; omega
  have hww : w.heap.size ≤ w3.heap.size := HP3.out.2.2.1.size
  have HY := Lib.hid (And.intro hD7 (And.intro hT7 (And.intro hqw hww)))
  clear hb7 hD7 hT7 hqw hww
  by_cases hc0 : cn = 0
  · have hcp : ¬ (0 : Int) < cn := by omega
    have HC0 := Lib.hid hc0
    clear hc0
    go_wp2_with fail
    go_ret3
    obtain ⟨hf, hS, h0, how, h64, hpll, hfit, hs⟩ := HX.out
    have hcj : j.cnt = 0 := by have := HCN.out; have := HC0.out; omega
    have hrs : rs = [] := List.eq_nil_of_length_eq_zero (by rw [H7.out.2.2.1]; exact hcj)
    have hop : Jr.openS (Jr.sure d d.safe 1) (Jr.opened j.from_ j.n j.mark j.next j.at_ j.owed j.cnt) = (Jr.sure d d.safe 1, Jr.opened j.from_ j.n j.mark j.next j.at_ j.owed j.cnt) := if_pos hcj
    rw [HN.out, hop]
    refine ⟨q, fun k => F3 k ∨ (q ≤ k ∧ k < w7.heap.size), rfl, ⟨F3, fun k => q ≤ k ∧ k < w7.heap.size, rs, HY.out.1, ?_, H7.out.2.1, H7.out.2.2.1, fun x hx => (by rw [hrs] at hx; cases hx), fun k hk hf3 => ?_, fun k h => h, fun k hk => ?_⟩, HY.out.2.1, fun k hk => ?_⟩
    · show JIn w7 q g _ j.from_ j.n j.mark j.next j.at_ rs
      rw [h0, ← HN.out, hS.hm]
      exact H7.out.1
    · have := HP3.out.2.2.2.2.2 k hf3
      have := HY.out.2.2.1
      have := hk.1
      omega
    · exact hk.elim (fun h => HY.out.1.lt k h) (fun h => h.2)
    · rcases hk with h | h
      · exact HP3.out.2.2.2.1 k h
      · exact .inr (Nat.le_trans HY.out.2.2.2 (Nat.le_trans HY.out.2.2.1 h.1))
  · have hcp : (0 : Int) < cn := by have := HCN.out; omega
    obtain ⟨hf, hS, h0, how, h64, hpll, hfit, hs⟩ := HX.out
    have hcj : j.cnt ≠ 0 := by have := HCN.out; omega
    have hdis : ∀ k, (q ≤ k ∧ k < w7.heap.size) → ¬ F3 k := fun k hk hf3 => by
      have := HP3.out.2.2.2.2.2 k hf3
      have := HY.out.2.2.1
      have := hk.1
      omega
    have hJr : JIn w7 q g (fun k => q ≤ k ∧ k < w7.heap.size) (Jr.opened j.from_ j.n j.mark j.next j.at_ j.owed j.cnt).from_ (Jr.opened j.from_ j.n j.mark j.next j.at_ j.owed j.cnt).n (m : Int) ((first + ts.length : Nat) : Int) (Jr.opened j.from_ j.n j.mark j.next j.at_ j.owed j.cnt).at_ rs := by
      show JIn w7 q g _ j.from_ j.n _ _ j.at_ rs
      rw [h0, ← HN.out, ← hS.next]
      exact H7.out.1
    have hcl : Cl (Jr.sure d d.safe 1) d.safe.length (d.n + 1) 0 := ⟨(Jr.sure_fl hf.1 hf.1.s64 1).calm, rfl, Nat.le_refl _, Nat.le_refl _⟩
    have cR := redo_w g q m (first + ts.length) d.safe.length (d.n + 1) 0 (Jr.opened j.from_ j.n j.mark j.next j.at_ j.owed j.cnt) rs (Jr.sure d d.safe 1) F3 (fun k => q ≤ k ∧ k < w7.heap.size) w7 hJr H7.out.2.1 HY.out.1 hdis (fun k hk => hk.2) hcl (by omega) (by show d.n + 1 + j.owed.length + 10 ≤ _; have := hf.2.2; omega) (by show 0 + j.owed.length + 10 ≤ _; omega) hS.hm hS.next (fun p hp => ⟨(hS.owes p hp).1.1, (hS.owes p hp).2⟩) (by show j.from_ + 2 ≤ _; have := hS.n5; omega) (by have := hS.mm; omega) (by have := hS.nn; omega) (by show j.at_ ≤ _; have := hS.eN; omega)
    have HR := Lib.hid (And.intro hcj (And.intro hdis (And.intro h0 (And.intro hS.hm hS.next))))
    clear hc0 hf hS h0 how h64 hpll hfit hs hcj hdis hJr hcl
    go_wp2_with fail
    refine cR.mono ?_
    rintro e w8 ⟨rfl, hJ8, ⟨F8, hD8, hm8⟩, ht8⟩
    have H8 := Lib.hid (And.intro hJ8 (And.intro hD8 (And.intro hm8 ht8)))
    clear cR hJ8 hD8 hm8 ht8
    go_wp2_with fail
    go_ret3
    have hop : Jr.openS (Jr.sure d d.safe 1) (Jr.opened j.from_ j.n j.mark j.next j.at_ j.owed j.cnt) = ((Jr.finish (Jr.sure d d.safe 1) (Jr.opened j.from_ j.n j.mark j.next j.at_ j.owed j.cnt)).1, Jr.settled (Jr.opened j.from_ j.n j.mark j.next j.at_ j.owed j.cnt)) := if_neg HR.out.1
    rw [HN.out, hop]
    have hmw : ∀ k, (F3 k ∨ (q ≤ k ∧ k < w7.heap.size)) → F k ∨ w.heap.size ≤ k := fun k hk => by
      rcases hk with h | h
      · exact HP3.out.2.2.2.1 k h
      · exact .inr (Nat.le_trans HY.out.2.2.2 (Nat.le_trans HY.out.2.2.1 h.1))
    have h78 := H8.out.2.2.2.size
    have hw7 := HY.out.2.1.size
    refine ⟨q, fun k => F8 k ∨ (q ≤ k ∧ k < w7.heap.size), rfl, ⟨F8, fun k => q ≤ k ∧ k < w7.heap.size, [], H8.out.2.1, ?_, rfl, rfl, fun x hx => (by cases hx), H8.out.2.2.1.off HR.out.2.1 (fun k hk => hk.2), fun k h => h, fun k hk => ?_⟩, HY.out.2.1.chain H8.out.2.2.2 hmw, fun k hk => ?_⟩
    · show JIn w8 q g _ j.from_ j.n (j.mark + 1) j.next j.at_ []
      rw [HR.out.2.2.2.1, HR.out.2.2.2.2]
      exact H8.out.1
    · exact hk.elim (fun h => H8.out.2.1.lt k h) (fun h => by have := h.2; omega)
    · rcases hk with h | h
      · exact (H8.out.2.2.1 k h).elim (fun h => hmw k (.inl h)) (fun h => .inr (by omega))
      · exact hmw k (.inr h)
end Go.Proofs.Ytjdmmnpfjbnhoaa
namespace Go.Proofs.Ytjdmmnpfjbnhoaa
open Go.RowKit

theorem sits_wr {s : List Dv.Sec} {j : Jr.J} {m first at0 : Nat} {ts : List Jr.Tr} (h : Jr.Sits s j m first at0 ts) : j.wrapped = true ↔ (j.cnt ≠ 0 ∧ j.at_ ≤ j.base) := by
  constructor
  · intro hw
    obtain ⟨h1, h2, _⟩ := h.round hw
    exact ⟨fun h0 => h1 (List.eq_nil_of_length_eq_zero (by rw [← h.cnt]; exact h0)), h2⟩
  · intro ⟨h1, h2⟩
    cases hw : j.wrapped with
    | true => rfl
    | false =>
      exfalso
      cases ts with
      | nil => exact h1 h.cnt
      | cons t l =>
        have := h.flat hw t (List.mem_cons_self ..)
        omega
theorem prog15 : Prog15 Env13 Dev13 JD13 where
  lt := fun ⟨_, _, _, _, _, _, _, _, _, _, hl⟩ => hl
  keep := fun ⟨FD, FJ, rs, h1, h2, h3, h4, h5, h6, h7, h8⟩ hs hk => ⟨FD, FJ, rs, h1.keep hs (fun k hf => hk k (h7 k (.inl hf))), h2.keep (fun _ h => h) (fun k hf _ => hk k (h7 k (.inr hf))), h3, h4, h5, h6, h7, fun k hf => Nat.lt_of_lt_of_le (h8 k hf) hs⟩
  dev := fun {w q g j d F} ⟨FD, FJ, rs, h1, h2, h3, h4, h5, h6, h7, h8⟩ => ⟨FD, fun k h => h7 k (.inl h), h1, fun w' d' F'' hD ht hm => ⟨F'', FJ, rs, hD, h2.keep (fun _ h => h) (fun k hf hl => ht.block k hl (h6 k hf)), h3, h4, h5, fun k hf hf2 => (hm k hf2).elim (h6 k hf) (fun h9 => by have := h8 k (h7 k (.inr hf)); omega), fun k hk => hk.elim .inr (fun h => .inl (h7 k (.inr h))), fun k hk => hk.elim (fun h => Nat.lt_of_lt_of_le (h8 k h) ht.size) (fun h => hD.lt k h)⟩⟩
  format := fun g d F n N w h hf h5 hn hN _ => by
    rw [hN]
    exact format_w g d F n w h hf h5 hn
  open_ := fun g d F j N w h hf ⟨m, first, at0, ts, hS⟩ h0 hN how _ => by
    rw [hN]
    exact open_w g d F j w h hf m first at0 ts hS h0 how
  commit := fun q g j d F v puts w ⟨FD, FJ, rs, h1, h2, h3, h4, h5, h6, h7, h8⟩ hf ⟨m, first, at0, ts, hS, hm9, hf9⟩ how hv hfit hfull _ => by
    have hfx := hS.fit
    have hJ : JIn w q g FJ j.from_ j.n (m : Int) ((first + ts.length : Nat) : Int) j.at_ rs := by rw [← hS.hm, ← hS.next]; exact h2
    refine (commit_w g q m (first + ts.length) d.safe.length 100000 j rs d FD FJ v puts w hJ h3 h4 h5 (sits_wr hS) hS.hm hS.next h1 h6 (fun k hk => h8 k (h7 k (.inr hk))) hf.cl hf.2.1 (by decide) how (by rw [hS.cnt]; omega) (fun p hp => ⟨(hS.owes p hp).1.1, (hS.owes p hp).2⟩) hfx hS.eN hS.bN (by omega) (by omega) (hv.weak (fun k hk => h7 k hk)) hfit.one hfit.ten (fun p hp => ⟨hfit.out p hp, hfit.len p hp⟩) hfull).mono fun e w' ⟨he, F', G', rs', c1, c2, c3, c4, c5, c6, c7, c8, c9⟩ => ⟨fun k => F' k ∨ G' k, he, ⟨F', G', rs', c5, c1, c2, c3, c4, c6, fun k h => h, fun k hk => hk.elim (fun h => c5.lt k h) (c7 k)⟩, c8.mono (fun k _ h => h7 k h), fun k hk => (c9 k hk).imp (fun h => h7 k h) id⟩
  number := fun q g j d F w ⟨FD, FJ, rs, h1, h2, _⟩ _ _ => number_w q g _ _ _ _ _ _ rs w h2
end Go.Proofs.Ytjdmmnpfjbnhoaa
