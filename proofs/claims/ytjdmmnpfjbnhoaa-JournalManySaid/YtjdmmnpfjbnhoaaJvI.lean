/- Package journal, the program: Format. -/
import Derived.Test.YtjdmmnpfjbnhoaaJvH
namespace Go.Proofs.Ytjdmmnpfjbnhoaa
open Go.RowKit

theorem Touch.chain {F F' : Nat → Prop} {a b c : World} (h : Touch F a b) (h' : Touch F' b c) (hm : More F F' a) : Touch F a c :=
  ⟨h'.os.trans h.os, h'.tape.trans h.tape, h'.output.trans h.output, Nat.le_trans h.size h'.size, fun k hk hn => (h'.block k (Nat.lt_of_lt_of_le hk h.size) (fun hf => (hm k hf).elim hn (fun h9 => Nat.lt_irrefl _ (Nat.lt_of_lt_of_le hk h9)))).trans (h.block k hk hn)⟩
theorem More.chain {F F' F'' : Nat → Prop} {a b : World} (hm : More F F' a) (hm' : More F' F'' b) (hs : a.heap.size ≤ b.heap.size) : More F F'' a := fun k hk =>
  (hm' k hk).elim (hm k) (fun h => .inr (Nat.le_trans hs h))
/-- The device is d; but for F's blocks all is as it was in wb. -/
def St (wb : World) (F : Nat → Prop) (g : Nat) (d : Dv.S) (W : World) : Prop := ∃ F', Dev13 W g d F' ∧ Touch F wb W ∧ More F F' wb
theorem St.refl {F : Nat → Prop} {g : Nat} {d : Dv.S} {w : World} (h : Dev13 w g d F) : St w F g d w := ⟨F, h, Touch.refl _ _, fun k hk => .inl hk⟩
theorem St.next {wb W W' : World} {F F' F'' : Nat → Prop} {g : Nat} {d' : Dv.S} (ht : Touch F wb W) (hm : More F F' wb) (hD : Dev13 W' g d' F'') (ht' : Touch F' W W') (hm' : More F' F'' W) : St wb F g d' W' := ⟨F'', hD, ht.chain ht' hm, hm.chain hm' ht.size⟩
theorem St.flush {wb W : World} {F : Nat → Prop} {g : Nat} {d : Dv.S} (h : St wb F g d W) (hn : d.n ≤ 1000000) (hw : d.wait.length ≤ 100000) :
    Calls Try.prog 21 #[.pointer (some ⟨g, 0, none⟩)] W fun e w' => e = .returned (.int .i64 (Dv.flush d).2) ∧ St wb F g (Dv.flush d).1 w' := by
  obtain ⟨F', hD, ht, hm⟩ := h
  exact (flush_w g d F' W hD hn hw).mono fun e w' ⟨F'', he, hD', ht', hm'⟩ => ⟨he, St.next ht hm hD' ht' hm'⟩
theorem St.block {wb W : World} {F : Nat → Prop} {g : Nat} {d : Dv.S} (h : St wb F g d W) {b : Nat} (hb : b < wb.heap.size) (hF : ¬ F b) : W.heap[b]? = wb.heap[b]? := by
  obtain ⟨F', hD, ht, hm⟩ := h
  exact ht.block b hb hF
theorem St.out {wb W w : World} {F : Nat → Prop} {g : Nat} {d : Dv.S} (h : St wb F g d W) (hb : Below w.heap.size w wb) : ∃ F', Dev13 W g d F' ∧ Touch F w W ∧ More F F' w := by
  obtain ⟨F', hD, ht, hm⟩ := h
  exact ⟨F', hD, (Touch.of hb).trans ht, fun k hk => (hm k hk).imp id (fun h9 => Nat.le_trans hb.size h9)⟩

/-- No call fails: how far a device has come at most. -/
structure Cl (d : Dv.S) (s k q : Nat) : Prop where
  calm : Dv.Calm d
  len : d.safe.length = s
  n : d.n ≤ k
  wait : d.wait.length ≤ q
theorem Cl.write {d : Dv.S} {s k q : Nat} (h : Cl d s k q) (a : Nat) (l : List Dv.Sec) (ha : a + l.length ≤ s) (h64 : ∀ x ∈ l, x.length = 64) : ∃ d', Dv.write d (a : Int) l = (d', 0) ∧ Cl d' s (k + 1) (q + l.length) := by
  refine ⟨_, Jr.write_calm h.calm a l (by rw [h.len]; exact ha) h64, h.calm, h.len, Nat.succ_le_succ h.n, ?_⟩
  show (d.wait ++ Dv.lay a l).length ≤ _
  rw [List.length_append, Dv.lay_length]
  exact Nat.add_le_add_right h.wait _
theorem Cl.flush {d : Dv.S} {s k q : Nat} (h : Cl d s k q) : ∃ d', Dv.flush d = (d', 0) ∧ Cl d' s (k + 1) 0 := by
  refine ⟨_, Dv.flush_calm h.calm, h.calm, ?_, Nat.succ_le_succ h.n, Nat.le_refl _⟩
  show (d.wait.foldl Dv.done d.safe).length = s
  rw [Dv.done_length]; exact h.len
theorem Fair15.cl {d : Dv.S} (h : Fair15 d) : Cl d d.safe.length 100000 0 := ⟨h.1.calm, rfl, h.2.2, by rw [h.1.wait]; exact Nat.le_refl _⟩
theorem mark_one {m f : Int} {a : Nat} : ∀ x ∈ [Jr.mark m f a], x.length = 64 := fun x hx => by rw [List.mem_singleton.1 hx]; exact Jr.mark_length _ _ _
/-- What Format's steps leave. -/
theorem format_steps {d : Dv.S} {n : Nat} (h : Fair15 d) (h5 : 5 ≤ n) (hn : n ≤ d.safe.length) : ∃ d1 d2 d3 d4, Dv.write d (((0 : Nat) : Int) + ((0 : Nat) : Int)) (List.replicate n Jr.zero) = (d1, 0) ∧ Dv.flush d1 = (d2, 0) ∧ Dv.write d2 (((0 : Nat) : Int) + ((1 : Nat) : Int)) [Jr.mark 1 1 2] = (d3, 0) ∧ Dv.flush d3 = (d4, 0) ∧ Jr.format d 0 n = (d4, 0) ∧
    Cl d1 d.safe.length 100001 n ∧ Cl d2 d.safe.length 100002 0 ∧ Cl d3 d.safe.length 100003 1 := by
  obtain ⟨d1, e1, c1⟩ := h.cl.write 0 (List.replicate n Jr.zero) (by rw [List.length_replicate]; omega) (fun x hx => by rw [(List.mem_replicate.1 hx).2]; exact Jr.zero_length)
  rw [List.length_replicate, Nat.zero_add] at c1
  obtain ⟨d2, e2, c2⟩ := c1.flush
  obtain ⟨d3, e3, c3⟩ := c2.write 1 [Jr.mark 1 1 2] (by show 1 + 1 ≤ _; omega) mark_one
  obtain ⟨d4, e4, c4⟩ := c3.flush
  refine ⟨d1, d2, d3, d4, e1, e2, e3, e4, ?_, c1, c2, c3⟩
  unfold Jr.format
  rw [if_pos (by unfold Jr.room; omega), Int.toNat_natCast, show Dv.write d 0 (List.replicate n Jr.zero) = (d1, 0) from e1]
  unfold Jr.seqE
  simp only [if_true, e2]
  rw [show Dv.write d2 (0 + 1) [Jr.mark 1 1 2] = (d3, 0) from e3]
  simp only [if_true, e4]

set_option maxHeartbeats 3200000 in
set_option maxRecDepth 100000 in
theorem format_w (g : Nat) (d : Dv.S) (F : Nat → Prop) (n : Nat) (w : World) (h : Dev13 w g d F) (hf : Fair15 d) (h5 : 5 ≤ n) (hn : n ≤ d.safe.length) :
    Calls Try.prog 6 #[.pointer (some ⟨g, 0, none⟩), .int .i64 0, .int .i64 (n : Int)] w fun e w' => ∃ F', e = .returned (.int .i64 (Jr.format d 0 n).2) ∧ Dev13 w' g (Jr.format d 0 n).1 F' ∧ Touch F w w' ∧ More F F' w := by
  obtain ⟨d1, d2, d3, d4, e1, e2, e3, e4, e5, c1, c2, c3⟩ := format_steps hf h5 hn
  rw [e5]
  have hs : d.safe.length ≤ 1000 := hf.2.1
  have hq := heap_alloc_new w (.cells #[.pointer (some ⟨g, 0, none⟩), .int .i64 0, .int .i64 (n : Int)] 59)
  have hb2 : Below w.heap.size w (w.alloc (.cells #[.pointer (some ⟨g, 0, none⟩), .int .i64 0, .int .i64 (n : Int)] 59)) := (Below.refl _ w).alloc (Nat.le_refl _) _
  have CR := Lib.hid (fun W (hb : Below w.heap.size w W) => right_w g 0 n d F W (h.later hb) h5 (by omega))
  have HD := Lib.hid h
  have HE := Lib.hid (And.intro e1 (And.intro e2 (And.intro e3 e4)))
  have HC := Lib.hid (And.intro hf.cl (And.intro c1 (And.intro c2 c3)))
  have HN := Lib.hid (And.intro h5 (show n ≤ 1000 by omega))
  clear h hf h5 hn e1 e2 e3 e4 e5 c1 c2 c3 hs
  go_enter Try.func6, Try.ntmps6
  go_upto_region 2 with fail
  obtain ⟨q, hqe⟩ : ∃ q, q = w.heap.size := ⟨_, rfl⟩
  rw [← hqe] at hq ⊢
  generalize w.alloc _ = w2 at hq hb2 ⊢
  have HQ := Lib.hid (And.intro hq (And.intro hb2 hqe))
  have p0 := (blk_cell hq 0 (.pointer (some ⟨g, 0, none⟩)) rfl).1
  have p1 := (blk_cell hq 1 (.int .i64 0) rfl).1
  have p2 := (blk_cell hq 2 (.int .i64 (n : Int)) rfl).1
  clear hqe hb2 hq
  go_wp2_with fail
  refine (CR.out _ HQ.out.2.1).mono ?_
  rintro e w3 ⟨rfl, hb3⟩
  have hq3 := (hb3.block q (lt_of_block HQ.out.1)).trans HQ.out.1
  have r0 := (blk_cell hq3 0 (.pointer (some ⟨g, 0, none⟩)) rfl).1
  have r1 := (blk_cell hq3 1 (.int .i64 0) rfl).1
  have r2 := (blk_cell hq3 2 (.int .i64 (n : Int)) rfl).1
  have HQ3 := Lib.hid (And.intro hq3 (bt5 HQ.out.2.1 hb3))
  clear p0 p1 p2 hq3 hb3
  have hnb := heap_alloc_new w3 (.cells #[.func (.func 20) #[.agg #[.pointer (some ⟨g, 0, none⟩), .int .i64 0, .int .i64 (n : Int)]] #[], .func (.func 21) #[.pointer (some ⟨g, 0, none⟩)] #[], .func (.func 17) #[] #[.pointer (some ⟨q, 0, none⟩)], .func (.func 21) #[.pointer (some ⟨g, 0, none⟩)] #[]] 60)
  have hbb : Below w3.heap.size w3 (w3.alloc (.cells #[.func (.func 20) #[.agg #[.pointer (some ⟨g, 0, none⟩), .int .i64 0, .int .i64 (n : Int)]] #[], .func (.func 21) #[.pointer (some ⟨g, 0, none⟩)] #[], .func (.func 17) #[] #[.pointer (some ⟨q, 0, none⟩)], .func (.func 21) #[.pointer (some ⟨g, 0, none⟩)] #[]] 60)) := (Below.refl _ w3).alloc (Nat.le_refl _) _
  go_wp2_with fail
  obtain ⟨b, hbe⟩ : ∃ b, b = w3.heap.size := ⟨_, rfl⟩
  rw [← hbe] at hnb ⊢
  generalize w3.alloc _ = wb at hnb hbb ⊢
  have hqb := (hbb.block q (lt_of_block HQ3.out.1)).trans HQ3.out.1
  have hwb := bt5 HQ3.out.2 hbb
  have hD0 := HD.out.later hwb
  have hFb : ¬ F b := fun hf => by have := HD.out.lt b hf; have := HQ3.out.2.size; omega
  have hFq : ¬ F q := fun hf => by have := HD.out.lt q hf; have := HQ.out.2.2; omega
  have cF := first_format g q 0 n b (fun k W => St wb F g ([d, d1, d2, d3, d4].getD k d) W) wb (St.refl hD0) (fun k W hS => (hS.block (lt_of_block hnb) hFb).trans hnb)
    (fun W ⟨F', hD, ht, hm⟩ => (pblank_w g 0 n d F' W hD (Nat.le_trans HC.out.1.n (by decide)) (Nat.le_trans HC.out.1.wait (by decide)) (by decide) (by have := HN.out; omega) HN.out.2).mono fun e w' ⟨F'', he, hD', ht', hm'⟩ => by
      rw [HE.out.1] at he hD'
      exact ⟨he, St.next ht hm hD' ht' hm'⟩)
    (fun W hS => (St.flush (d := d1) hS (Nat.le_trans HC.out.2.1.n (by decide)) (Nat.le_trans HC.out.2.1.wait (by have := HN.out; omega))).mono fun e w' ⟨he, hS'⟩ => by
      rw [HE.out.2.1] at he hS'
      exact ⟨he, hS'⟩)
    (fun W hS => by
      have hqW := (hS.block (lt_of_block hqb) hFq).trans hqb
      obtain ⟨F', hD, ht, hm⟩ := hS
      exact (fsign_w q g 0 n d2 F' W hqW hD (Nat.le_trans HC.out.2.2.1.n (by decide)) (Nat.le_trans HC.out.2.2.1.wait (by decide)) (by decide)).mono fun e w' ⟨F'', he, hD', ht', hm'⟩ => by
        rw [HE.out.2.2.1] at he hD'
        exact ⟨he, St.next ht hm hD' ht' hm'⟩)
    (fun W hS => (St.flush (d := d3) hS (Nat.le_trans HC.out.2.2.2.n (by decide)) (Nat.le_trans HC.out.2.2.2.wait (by decide))).mono fun e w' ⟨he, hS'⟩ => by
      rw [HE.out.2.2.2] at he hS'
      exact ⟨he, hS'⟩)
  refine cF.mono ?_
  rintro e w5 ⟨rfl, hS⟩
  have HX := Lib.hid (St.out (d := d4) hS hwb)
  clear cF hS hnb hbb hqb hD0
  go_wp2_with fail
  go_ret
  obtain ⟨F', hD, ht, hm⟩ := HX.out
  exact ⟨F', rfl, hD, ht, hm⟩
end Go.Proofs.Ytjdmmnpfjbnhoaa
