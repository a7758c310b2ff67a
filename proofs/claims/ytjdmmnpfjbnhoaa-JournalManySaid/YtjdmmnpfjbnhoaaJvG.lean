/- Package journal, the program: a mark written; many noughts. -/
import Derived.Test.YtjdmmnpfjbnhoaaJvF
import Derived.Test.YtjdmmnpfjbnhoaaShelf
import Derived.Test.YtjdmmnpfjbnhoaaHeld
import Derived.Deep.RegionLaw
namespace Go.Proofs.Ytjdmmnpfjbnhoaa
open Go.RowKit

theorem and_one (m : Nat) (_h : m < 9223372036854775808) : bits .and .i64 (m : Int) 1 = ((m % 2 : Nat) : Int) := by
  have key : (BitVec.ofInt 64 (m : Int) &&& BitVec.ofInt 64 1).toNat = m % 2 := by
    rw [BitVec.toNat_and, BitVec.toNat_ofInt, show (BitVec.ofInt 64 1).toNat = 2 ^ 1 - 1 from by decide, Nat.and_two_pow_sub_one_eq_mod]
    omega
  show IntKind.i64.wrap ((BitVec.ofInt 64 (m : Int) &&& BitVec.ofInt 64 1).toNat : Nat) = _
  rw [key, IntKind.wrap_i64]
  omega
theorem obk_bs {F : Nat → Prop} {w : World} {q g n c : Nat} {x : List UInt8} {f : Nat × Nat} (hq : w.heap[q]? = some (.cells #[.slice (some ⟨g, 0, none⟩) n c] 22 f)) (hF : ¬ F q) (hy : OBk (fun k => ¬ F k) w (.slice (some ⟨g, 0, none⟩) n c) x) : BsOut F w (.slice (some ⟨q, 0, none⟩) 1 1) [x] := by
  refine ⟨_, 1, rfl, Nat.le_refl _, by decide, .inr ⟨q, 0, rfl, lt_of_block hq, hF, fun j hj => ?_⟩⟩
  obtain rfl : j = 0 := by simpa using hj
  exact ⟨_, by simp [World.cell?, hq], hy.bout (fun k h => h)⟩
set_option maxHeartbeats 3200000 in
set_option maxRecDepth 100000 in
theorem sign_w (g from_ n m next at_ : Nat) (d : Dv.S) (F : Nat → Prop) (w : World) (h : Dev13 w g d F) (hn : d.n ≤ 1000000) (hw : d.wait.length ≤ 100000) (hf : from_ + 2 ≤ 1000000) (hm : m < 9223372036854775808) (hx : next < 9223372036854775808) (ha : at_ < 9223372036854775808) :
    Calls Try.prog 18 #[.agg #[.pointer (some ⟨g, 0, none⟩), .int .i64 (from_ : Int), .int .i64 (n : Int)], .agg #[.int .i64 (m : Int), .int .i64 (next : Int), .int .i64 (at_ : Int)]] w fun e w' => ∃ F', e = .returned (.int .i64 (Dv.write d ((from_ : Int) + ((m % 2 : Nat) : Int)) [Jr.mark m next at_]).2) ∧ Dev13 w' g (Dv.write d ((from_ : Int) + ((m % 2 : Nat) : Int)) [Jr.mark m next at_]).1 F' ∧ Touch F w w' ∧ More F F' w := by
  have hq0 := heap_alloc2_new w (.cells #[.pointer (some ⟨g, 0, none⟩), .int .i64 (from_ : Int), .int .i64 (n : Int)] 59) (.cells #[.int .i64 (m : Int), .int .i64 (next : Int), .int .i64 (at_ : Int)] 63)
  have hq1 : ((w.alloc (.cells #[.pointer (some ⟨g, 0, none⟩), .int .i64 (from_ : Int), .int .i64 (n : Int)] 59)).alloc (.cells #[.int .i64 (m : Int), .int .i64 (next : Int), .int .i64 (at_ : Int)] 63)).heap[w.heap.size]? = some (.cells #[.pointer (some ⟨g, 0, none⟩), .int .i64 (from_ : Int), .int .i64 (n : Int)] 59) := by
    rw [((Below.refl _ _).alloc (Nat.le_refl _) _ : Below (w.alloc (.cells #[.pointer (some ⟨g, 0, none⟩), .int .i64 (from_ : Int), .int .i64 (n : Int)] 59)).heap.size (w.alloc (.cells #[.pointer (some ⟨g, 0, none⟩), .int .i64 (from_ : Int), .int .i64 (n : Int)] 59)) _).block w.heap.size (by simp)]
    exact heap_alloc_new w _
  have hb2 : Below w.heap.size w ((w.alloc (.cells #[.pointer (some ⟨g, 0, none⟩), .int .i64 (from_ : Int), .int .i64 (n : Int)] 59)).alloc (.cells #[.int .i64 (m : Int), .int .i64 (next : Int), .int .i64 (at_ : Int)] 63)) := ((Below.refl _ w).alloc (Nat.le_refl _) _).alloc (by simp) _
  have CO := Lib.hid (fun W => octets_w m next at_ W hm hx ha)
  have CP := Lib.hid (fun W (hb : Below w.heap.size w W) v hv => pwrite_w g from_ n (m % 2) d F v [Jr.mark m next at_] W (h.later hb) hn hw hv (show 1 ≤ 1000 by decide) (by omega))
  have HA := Lib.hid (and_one m hm)
  have HL := Lib.hid h.lt
  have hmi : (m : Int) < 9223372036854775808 := by omega
  obtain ⟨mk, hmk⟩ : ∃ mk, mk = Jr.mark m next at_ := ⟨_, rfl⟩
  have hmkl : mk.length = 64 := by rw [hmk]; exact Jr.mark_length _ _ _
  rw [← hmk] at CO CP ⊢
  generalize m % 2 = m2 at *
  clear h hmk hf
  go_enter Try.func18, Try.ntmps18
  go_upto_region 1 with fail
  obtain ⟨q6, hq6⟩ : ∃ q6, q6 = w.heap.size := ⟨_, rfl⟩
  obtain ⟨r, hr⟩ : ∃ r, r = w.heap.size + 1 := ⟨_, rfl⟩
  rw [← hr] at hq0 ⊢
  rw [← hq6] at hq1 ⊢
  generalize (w.alloc _).alloc _ = w2 at hq0 hq1 hb2 ⊢
  have HB := Lib.hid hb2
  have HQ := Lib.hid (And.intro hq0 hq1)
  have hA := HA.out
  clear hq6 hr hb2 hq0 hq1
  refine Rel.region_tail 7 (by kernel_rfl) [some 5, some 6, some 7, some 8, some 9, some 10, some 11, some 12, some 4] (by kernel_rfl) (by kernel_rfl) (by kernel_rfl) [.eq (.agg #[.pointer (some ⟨g, 0, none⟩), .int .i64 (from_ : Int), .int .i64 (n : Int)]), .eq (.pointer (some ⟨r, 0, none⟩)), .eq (.int .i64 (m : Int)), .eq (.int .i64 (m2 : Int)), .eq (.agg #[.int .i64 (m : Int), .int .i64 (next : Int), .int .i64 (at_ : Int)]), ⟨fun v w => ∃ g, v = .slice (some ⟨g, 0, none⟩) 64 64 ∧ OBk (fun k => ¬ F k) w (.slice (some ⟨g, 0, none⟩) 64 64) mk, fun _ _ _ h hb => by obtain ⟨g, h1, h2⟩ := h; exact ⟨g, h1, h2.later hb⟩⟩, ⟨fun v w => ∃ s g, v = .slice (some ⟨s, 0, none⟩) 1 1 ∧ ¬ F s ∧ w.heap[s]? = some (.cells #[.slice (some ⟨g, 0, none⟩) 64 64] 22 (0, 0)) ∧ OBk (fun k => ¬ F k) w (.slice (some ⟨g, 0, none⟩) 64 64) mk, fun _ _ _ h hb => by obtain ⟨s, g, h1, h0, h2, h3⟩ := h; exact ⟨s, g, h1, h0, (hb.block s (lt_of_block h2)).trans h2, h3.later hb⟩⟩] ⟨?_, ?_, ?_, ?_, ?_, ?_, ?_, trivial⟩ ?_
  · intro u w9 hb9 hd9
    clear hd9
    have q9 := (hb9.block q6 (lt_of_block HQ.out.2)).trans HQ.out.2
    have c90 := (blk_cell q9 0 _ rfl).1
    have c91 := (blk_cell q9 1 _ rfl).1
    have c92 := (blk_cell q9 2 _ rfl).1
    clear q9
    simp only [List.getElem_toArray, List.getElem_cons_zero, List.getElem_cons_succ] at c90 c91 c92
    refine ⟨?_⟩
    simp only [Rel.canD, List.take_zero]
    go_wp2_with fail
    exact ⟨rfl, rfl, Below.refl _ _, rfl⟩
  · intro u w9 hb9 hd9
    clear hd9
    refine ⟨?_⟩
    simp only [Rel.canD, List.take_succ_cons, List.take_zero, Nat.reduceAdd]
    go_wp2_with fail
    exact ⟨rfl, rfl, Below.refl _ _, rfl⟩
  · intro u w9 hb9 hd9
    have e1 : u 1 = .pointer (some ⟨r, 0, none⟩) := hd9 1 (by kernel_rfl)
    clear hd9
    have q9 := cell_later hb9 (blk_cell HQ.out.1 0 (.int .i64 (m : Int)) rfl).1
    refine ⟨?_⟩
    simp only [Rel.canD, List.take_succ_cons, List.take_zero, Nat.reduceAdd]
    go_wp2_with fail
    exact ⟨rfl, rfl, Below.refl _ _, rfl⟩
  · intro u w9 hb9 hd9
    have e2 : u 2 = .int .i64 (m : Int) := hd9 2 (by kernel_rfl)
    clear hd9
    refine ⟨?_⟩
    simp only [Rel.canD, List.take_succ_cons, List.take_zero, Nat.reduceAdd]
    go_wp2_with fail
    exact ⟨rfl, rfl, Below.refl _ _, rfl⟩
  · intro u w9 hb9 hd9
    clear hd9
    have q9 := (hb9.block r (lt_of_block HQ.out.1)).trans HQ.out.1
    have c90 := (blk_cell q9 0 _ rfl).1
    have c91 := (blk_cell q9 1 _ rfl).1
    have c92 := (blk_cell q9 2 _ rfl).1
    clear q9
    simp only [List.getElem_toArray, List.getElem_cons_zero, List.getElem_cons_succ] at c90 c91 c92
    refine ⟨?_⟩
    simp only [Rel.canD, List.take_succ_cons, List.take_zero, Nat.reduceAdd]
    go_wp2_with fail
    exact ⟨rfl, rfl, Below.refl _ _, rfl⟩
  · intro u w9 hb9 hd9
    have e4 : u 4 = .agg #[.int .i64 (m : Int), .int .i64 (next : Int), .int .i64 (at_ : Int)] := hd9 4 (by kernel_rfl)
    clear hd9
    have c9 := CO.out w9
    refine ⟨?_⟩
    simp only [Rel.canD, List.take_succ_cons, List.take_zero, Nat.reduceAdd]
    go_wp2_with fail
    refine c9.mono ?_
    rintro e w8 ⟨g9, rfl, hg8, h8, hb8⟩
    have h7 : OBk (fun k => ¬ F k) w8 (.slice (some ⟨g9, 0, none⟩) 64 64) mk := h8.obk hmkl.symm (by decide) (fun hf => by have := HL.out _ hf; have := HB.out.size; have := hb9.size; omega)
    clear h8 c9
    go_wp2_with fail
    exact ⟨rfl, rfl, hb8, g9, rfl, h7⟩
  · intro u w9 hb9 hd9
    have e5 := hd9 5 (by kernel_rfl)
    clear hd9
    obtain ⟨g9, e5x, h9x⟩ := e5
    have hbx : Below w9.heap.size w9 (w9.alloc (.cells #[.slice (some ⟨g9, 0, none⟩) 64 64] 22)) := (Below.refl _ w9).alloc (Nat.le_refl _) _
    have hnx := heap_alloc_new w9 (.cells #[.slice (some ⟨g9, 0, none⟩) 64 64] 22)
    have hfx : ¬ F w9.heap.size := fun hf => by have := HL.out _ hf; have := HB.out.size; have := hb9.size; omega
    have h12 := h9x.later hbx
    refine ⟨?_⟩
    simp only [Rel.canD, List.take_succ_cons, List.take_zero, Nat.reduceAdd]
    go_wp2_with fail
    exact ⟨rfl, rfl, hbx, w9.heap.size, g9, rfl, hfx, hnx, h12⟩
  intro u w9 hb9 hR9
  simp only [Rel.canD, Nat.reduceAdd, List.take_succ_cons, List.take_zero, List.drop_succ_cons, List.drop_zero]
  obtain ⟨s9, g9, h6, hs9, hh9, hy9⟩ := hR9 6 (by decide)
  have h0 : u 0 = .agg #[.pointer (some ⟨g, 0, none⟩), .int .i64 (from_ : Int), .int .i64 (n : Int)] := hR9 0 (by decide)
  have h3 : u 3 = .int .i64 (m2 : Int) := hR9 3 (by decide)
  rw [h6, h0, h3]
  have c9 := CP.out w9 (bt5 HB.out hb9) _ (obk_bs hh9 hs9 hy9)
  have HB9 := Lib.hid (bt5 HB.out hb9)
  clear hR9 hb9 hs9 hh9 hy9 h6 h0 h3
  go_simp
  go_wp2_with fail
  refine c9.mono ?_
  rintro e w8 ⟨F', rfl, hD, ht, hm9⟩
  have HX := Lib.hid (And.intro hD (And.intro ((Touch.of HB9.out).trans ht) (show More F F' w from fun k hk => (hm9 k hk).imp id (fun h => Nat.le_trans HB9.out.size h))))
  clear hD ht hm9 c9
  go_wp2_with fail
  go_ret
  exact ⟨F', rfl, HX.out⟩

/-! ### many times the same -/
def rp (y z : Value) (n m : Nat) : List Value := List.replicate m y ++ List.replicate (n - m) z
theorem rp_len (y z : Value) (n m : Nat) (h : m ≤ n) : (rp y z n m).length = n := by unfold rp; simp; omega
theorem rp_splice (y z : Value) (n m c : Nat) (h : m + c ≤ n) : splice (rp y z n m) m (List.replicate c y) = rp y z n (m + c) := by
  unfold splice rp
  rw [List.take_append, List.take_of_length_le (by simp), List.length_replicate, List.length_replicate, Nat.sub_self, List.take_zero, List.append_nil, List.drop_append, List.drop_of_length_le (by simp), List.nil_append, List.length_replicate, List.drop_replicate, ← List.append_assoc, List.replicate_append_replicate]
  congr 2
  omega
theorem rp_at (y z : Value) (n m j : Nat) (h : j < m) : (rp y z n m)[j]? = some y := by
  unfold rp
  rw [List.getElem?_append_left (by simpa using h)]
  simp [h]
theorem made_rp (y z : Value) (n : Nat) : madeCells #[z] n = (rp y z n 0).toArray := by
  unfold rp
  rw [List.replicate_zero, List.nil_append, Nat.sub_zero]
  apply Array.ext
  · simp [madeCells]
  · intro i h1 h2
    simp [madeCells, Nat.mod_one]
theorem wp_copy_row {P : Program} {w : World} {o : Oper} {a : Act} {K : Act → World → Prop} {Q : Exit → Act → World → Prop} {d s : Operand} {dT sT : TypeId}
    (ho : o.op = .call { callee := .builtin .copy, args := #[d, s], argTypes := #[dT, sT] }) (elem : TypeId) (hu : P.underlying dT = some (.slice elem)) (hsz : (P.info? elem).map (·.size) = some 1)
    (g off dLen dCap : Nat) (ad : Addr) (sLen sCap : Nat) (hd : a.eval d = .slice (some ⟨g, off, none⟩) dLen dCap) (hs : a.eval s = .slice (some ad) sLen sCap)
    (cur : Array Value) (t : TypeId) (hg : w.heap[g]? = some (.cells cur t (0, 0))) (cs : List Value) (hn : cs.length = Nat.min sLen dLen)
    (hsrc : ∀ j v, cs[j]? = some v → w.cell? (ad.add j) = some v) (hfit : off + cs.length ≤ cur.size) (h1 : ∀ v ∈ cs, v.oneCell' = true)
    (h : ∀ w', w'.heap[g]? = some (.cells (splice cur.toList off cs).toArray t (0, 0)) → (∀ (B : Nat) (b : World), Below B b w → B ≤ g → Below B b w') → K (a.put o.dst (goInt cs.length)) w') : o.wp P a w K Q := by
  have hrun := run_copy_row (P := P) w dT sT o.type elem g off dLen dCap ad sLen sCap cur t cs hu hsz hg hn hsrc hfit h1
  unfold Oper.wp
  simp [execOp, ho, resolve, invoke, builtin, hd, hs, hrun, Result.andThen]
  exact h _ (setRow_heap w g _ _ t _ hg) (fun B b hb hB => below_setRow hb hB _)
set_option maxHeartbeats 3200000 in
set_option maxRecDepth 100000 in
theorem repeat_w (s q k c n : Nat) (w : World) (hh : w.heap[s]? = some (.cells #[.slice (some ⟨q, 0, none⟩) k c] 22 (0, 0))) (hn : 1 ≤ n) (hn9 : n ≤ 65536) :
    Calls Try.prog 45 #[.slice (some ⟨s, 0, none⟩) 1 1, .int .i64 (n : Int)] w fun e w' => ∃ g, e = .returned (.slice (some ⟨g, 0, none⟩) n n) ∧ w.heap.size ≤ g ∧ w'.heap[g]? = some (.cells (List.replicate n (.slice (some ⟨q, 0, none⟩) k c)).toArray 22 (0, 0)) ∧ Below w.heap.size w w' := by
  have hmk : ∀ W : World, (Instr.makeSlice 43 (.int .i64 (n : Int)) (.int .i64 (n : Int))).run Try.prog W = .ok (.slice (some ⟨W.heap.size, 0, none⟩) n n) (W.alloc (.cells (madeCells #[.slice none 0 0] n) 22)) := fun W => run_make_row' (P := Try.prog) 43 22 (.slice none 0 0) 24 Try.underlying43 slices_info rfl .i64 .i64 n (by omega) (by omega) W
  have cM := Lib.hid (fun W => Try.bits_Mul 1 n (by decide) (by omega) W)
  rw [Nat.one_mul, Nat.div_eq_of_lt (by omega), Nat.mod_eq_of_lt (by omega)] at cM
  obtain ⟨y, hy⟩ : ∃ y, y = Value.slice (some ⟨q, 0, none⟩) k c := ⟨_, rfl⟩
  have hy1 : y.oneCell' = true := by rw [hy]; rfl
  rw [← hy] at hh ⊢
  have hni : (1 : Int) ≤ (n : Int) := by omega
  have hni9 : (n : Int) ≤ 65536 := by omega
  have hcs := (blk_cell hh 0 y rfl).1
  have HH := Lib.hid hh
  have HY := Lib.hid hy1
  have hmd := made_rp y (.slice none 0 0) n
  rw [hmd] at hmk
  clear hy hh hmd hy1
  go_enter Try.func45, Try.ntmps45
  go_wp2_with fail
  refine (cM.out _).mono ?_
  rintro e w9 ⟨rfl, hw9⟩
  obtain rfl := hw9.symm
  go_upto_region 7 with fail
  obtain ⟨g, hg⟩ : ∃ g, g = w.heap.size := ⟨_, rfl⟩
  have hgw : w.heap.size ≤ g := by rw [hg]; exact Nat.le_refl _
  have hr := heap_alloc_new w (.cells (rp y (.slice none 0 0) n 0).toArray 22)
  have hb : Below w.heap.size w (w.alloc (.cells (rp y (.slice none 0 0) n 0).toArray 22)) := (Below.refl _ w).alloc (Nat.le_refl _) _
  generalize w.alloc _ = w2 at *
  rw [← hg] at hr ⊢
  have hcs2 := cell_later hb hcs
  have HB := Lib.hid hb
  have HGW := Lib.hid hgw
  clear hg hmk hcs
  have hsrc : ∀ j v, [y][j]? = some v → w2.cell? ((⟨s, 0, none⟩ : Addr).add j) = some v := fun j v hj => by
    match j, hj with
    | 0, hj =>
      simp only [List.getElem?_cons_zero, Option.some.injEq] at hj
      subst hj
      exact hcs2
  have hmin : [y].length = Nat.min 1 n := (Nat.min_eq_left hn).symm
  have hfit : 0 + [y].length ≤ (rp y (.slice none 0 0) n 0).length := by rw [rp_len _ _ _ _ (Nat.zero_le _)]; show 0 + 1 ≤ n; omega
  have hone : ∀ v ∈ [y], v.oneCell' = true := fun v hv => by rw [List.mem_singleton.1 hv]; exact HY.out
  have HS1 := Lib.hid (rp_splice y (.slice none 0 0) n 0 1 (by omega))
  go_wp2_with (refine wpList_copy_splice rfl (.tmp 31) (.tmp 32) 43 43 rfl 22 Try.underlying43 (by kernel_rfl) (some ⟨g, 0, none⟩) (some ⟨s, 0, none⟩) n n 1 1 rfl rfl g 0 (rp y (.slice none 0 0) n 0) 22 hr [y] hmin (fun _ => ⟨rfl, _, rfl, hsrc⟩) hfit hone w.heap.size w hb hgw ?_; intro w3 hg3 hb3)
  have H3 := Lib.hid (And.intro (show w3.heap[g]? = some (.cells (rp y (.slice none 0 0) n 1).toArray 22 (0, 0)) by rw [← HS1.out]; exact hg3.out) hb3)
  clear hg3 hb3 hsrc hmin hfit hone hr hcs2 hb HB
  go_loopw [8] (fun v wr => ∃ m : Nat, 1 ≤ m ∧ m ≤ n ∧ v = .int .i64 m ∧ wr.heap[g]? = some (.cells (rp y (.slice none 0 0) n m).toArray 22 (0, 0)) ∧ Below w.heap.size w wr) (fun v _ => n - (intOf v).toNat)
  case atStart => exact ⟨1, Nat.le_refl _, hn, rfl, H3.out⟩
  case round =>
    obtain ⟨m, hm1, hmn, rfl, hr, hb⟩ := hrel
    clear H3 hw9
    by_cases hlt : m < n
    · have hki : (m : Int) < n := by omega
      obtain ⟨cc, hcc⟩ : ∃ cc, cc = min m (n - m) := ⟨_, rfl⟩
      have hc1 : 1 ≤ cc := by omega
      have hc2 : m + cc ≤ n := by omega
      have hmin : (List.replicate cc y).length = Nat.min m (n - m) := by rw [List.length_replicate]; exact hcc
      have hfit : m + (List.replicate cc y).length ≤ (rp y (.slice none 0 0) n m).length := by rw [rp_len _ _ _ _ hmn, List.length_replicate]; exact hc2
      have hone : ∀ v ∈ List.replicate cc y, v.oneCell' = true := fun v hv => by rw [(List.mem_replicate.1 hv).2]; exact HY.out
      have hsrc : ∀ W : World, W.heap[g]? = some (.cells (rp y (.slice none 0 0) n m).toArray 22 (0, 0)) → ∀ j v, (List.replicate cc y)[j]? = some v → W.cell? ((⟨g, 0, none⟩ : Addr).add j) = some v := fun W hW j v hj => by
        have hjl := (List.getElem?_eq_some_iff.1 hj).1
        rw [List.length_replicate] at hjl
        rw [Addr.add_lit, Nat.zero_add]
        simp only [World.cell?, hW]
        rw [List.getElem?_replicate, if_pos hjl] at hj
        rw [← hj, List.getElem?_toArray, rp_at _ _ _ _ _ (by omega)]
        rfl
      have hwr : IntKind.i64.wrap ((m : Int) + (cc : Int)) = (m : Int) + (cc : Int) := by rw [IntKind.wrap_i64]; omega
      have HS2 := Lib.hid (rp_splice y (.slice none 0 0) n m cc hc2)
      have hne : ¬ n = m := by omega
      have HCC := Lib.hid hcc
      have hci : (m : Int) + (cc : Int) ≤ 65536 := by omega
      have hrl : Hid (∀ k : Nat, (wr.drewN k).heap[g]? = some (.cells (rp y (.slice none 0 0) n m).toArray 22 (0, 0)) ∧ Below w.heap.size w (wr.drewN k)) := Lib.hid (fun k => ⟨hr, hb.trans ⟨rfl, rfl, rfl, Nat.le_refl _, fun _ _ => rfl⟩⟩)
      have hlc : (List.replicate cc y).length = cc := List.length_replicate
      have HLC := Lib.hid hlc
      generalize List.replicate cc y = CS at *
      clear hcc
      go_upto_region 9 with fail
      refine wp_region_noPanic ?_
      refine wp_region_held (S := fun _ => True) (by kernel_rfl) ?_
      change wpAnyH _ _ _ _ _ _ _ _ wr.drew
      refine held_of_takes (fuel := 3) (by kernel_rfl) (fun _ _ _ _ _ h => h) trivial [0, 1, 2, 3, 4, 5, 6] _ _ (by kernel_rfl) ?_
      refine Takes.val (.int .i64 (m : Int)) rfl rfl (fun _ _ => by kernel_rfl) ?_
      refine Takes.val (.slice (some ⟨g, 0, none⟩) n n) rfl rfl (fun _ _ => by kernel_rfl) ?_
      refine Takes.val (.int .i64 (m : Int)) rfl rfl (fun _ _ => by kernel_rfl) ?_
      refine Takes.val (.slice (some ⟨g, m, none⟩) (n - m) (n - m)) rfl rfl (fun w9 _ => by go_simp) ?_
      refine Takes.val (.slice (some ⟨g, 0, none⟩) n n) rfl rfl (fun _ _ => by kernel_rfl) ?_
      refine Takes.val (.int .i64 (m : Int)) rfl rfl (fun _ _ => by kernel_rfl) ?_
      refine Takes.val (.slice (some ⟨g, 0, none⟩) m n) rfl rfl (fun w9 _ => by go_simp) ?_
      refine wpAnyH_all (rs := [7]) (by kernel_rfl) (by simp) (fun i hi => ?_)
      obtain rfl := List.mem_singleton.1 hi
      refine wpOp_plain rfl rfl (wp_copy_row (d := .tmp 41) (s := .tmp 44) (dT := 43) (sT := 43) rfl 22 Try.underlying43 (by kernel_rfl) g m (n - m) (n - m) ⟨g, 0, none⟩ m n (by kernel_rfl) (by kernel_rfl) _ 22 (hrl.out 1).1 CS hmin (hsrc _ (hrl.out 1).1) (by simpa using hfit) hone (fun w5 hr5 hb5 => ⟨trivial, ?_⟩))
      rw [show splice (rp y (.slice none 0 0) n m).toArray.toList m CS = rp y (.slice none 0 0) n (m + cc) from HS2.out] at hr5
      have HX := Lib.hid (And.intro hr5 (hb5 _ _ (hrl.out 1).2 HGW.out))
      rw [HLC.out]
      clear hr5 hb5 hmin hfit hsrc hone
      refine held_of_takes (fuel := 0) (by kernel_rfl) (fun _ _ _ _ _ h => h) trivial [8, 9] _ _ (by kernel_rfl) ?_
      refine Takes.val (.int .i64 ((m : Int) + (cc : Int))) rfl rfl (fun w9 _ => by go_simp) ?_
      refine Takes.val (.int .i64 ((m : Int) + (cc : Int))) rfl rfl (fun w9 _ => by go_simp) ?_
      refine wpAnyH_done (P := Try.prog) (S := fun _ => True) (by kernel_rfl) ?_ 0
      refine NoPanic.normal ?_
      clear hr hb hlc
      go_simp
      go_roundw
      case rel => exact ⟨.int .i64 ((m + cc : Nat) : Int), _, _, _, _, _, _, _, _, _, _, _, _, _, ⟨m + cc, by omega, by omega, rfl, HX.out⟩, rfl⟩
      case measure => simp [intOf]; omega
    · have hki : ¬ (m : Int) < n := by omega
      obtain rfl : m = n := by omega
      have e : rp y (.slice none 0 0) m m = List.replicate m y := by unfold rp; simp
      rw [e] at hr
      have HX := Lib.hid (And.intro HGW.out (And.intro hr hb))
      clear hr hb hlt hm1 hmn
      go_wp2_with fail
      go_ret
      exact ⟨g, rfl, HX.out⟩

theorem rep_bs {F : Nat → Prop} {w : World} {gr g9 n : Nat} {x : List UInt8} (h : w.heap[gr]? = some (.cells (List.replicate n (.slice (some ⟨g9, 0, none⟩) 64 64)).toArray 22 (0, 0))) (hF : ¬ F gr) (hy : OBk (fun k => ¬ F k) w (.slice (some ⟨g9, 0, none⟩) 64 64) x) (hn : n ≤ 65536) : BsOut F w (.slice (some ⟨gr, 0, none⟩) n n) (List.replicate n x) := by
  refine ⟨_, n, by rw [List.length_replicate], by rw [List.length_replicate]; exact Nat.le_refl _, by omega, .inr ⟨gr, 0, rfl, lt_of_block h, hF, fun j hj => ?_⟩⟩
  rw [List.length_replicate] at hj
  refine ⟨.slice (some ⟨g9, 0, none⟩) 64 64, ?_, ?_⟩
  · simp only [World.cell?, h]
    simp [hj]
  · rw [List.getElem_replicate]
    exact hy.bout (fun k h => h)
set_option maxHeartbeats 3200000 in
set_option maxRecDepth 100000 in
theorem pblank_w (g from_ n : Nat) (d : Dv.S) (F : Nat → Prop) (w : World) (h : Dev13 w g d F) (hn : d.n ≤ 1000000) (hw : d.wait.length ≤ 100000) (hf : from_ ≤ 1000000) (h1 : 1 ≤ n) (h9 : n ≤ 1000) :
    Calls Try.prog 20 #[.agg #[.pointer (some ⟨g, 0, none⟩), .int .i64 (from_ : Int), .int .i64 (n : Int)]] w fun e w' => ∃ F', e = .returned (.int .i64 (Dv.write d ((from_ : Int) + ((0 : Nat) : Int)) (List.replicate n Jr.zero)).2) ∧ Dev13 w' g (Dv.write d ((from_ : Int) + ((0 : Nat) : Int)) (List.replicate n Jr.zero)).1 F' ∧ Touch F w w' ∧ More F F' w := by
  have hq := heap_alloc_new w (.cells #[.pointer (some ⟨g, 0, none⟩), .int .i64 (from_ : Int), .int .i64 (n : Int)] 59)
  have hb2 : Below w.heap.size w (w.alloc (.cells #[.pointer (some ⟨g, 0, none⟩), .int .i64 (from_ : Int), .int .i64 (n : Int)] 59)) := (Below.refl _ w).alloc (Nat.le_refl _) _
  have CP := Lib.hid (fun W (hb : Below w.heap.size w W) v hv => pwrite_w g from_ n 0 d F v (List.replicate n Jr.zero) W (h.later hb) hn hw hv (by rw [List.length_replicate]; exact h9) (by omega))
  have HL := Lib.hid h.lt
  have HN := Lib.hid (And.intro h1 (show n ≤ 65536 by omega))
  clear h
  go_enter Try.func20, Try.ntmps20
  go_upto_region 1 with fail
  obtain ⟨q, hqe⟩ : ∃ q, q = w.heap.size := ⟨_, rfl⟩
  rw [← hqe] at hq ⊢
  generalize w.alloc _ = w2 at hq hb2 ⊢
  have HB := Lib.hid hb2
  have HQ := Lib.hid hq
  clear hqe hb2 hq
  refine Rel.region_tail 6 (by kernel_rfl) [some 3, some 4, some 5, some 6, some 7, some 8, some 9, some 2] (by kernel_rfl) (by kernel_rfl) (by kernel_rfl) [.eq (.agg #[.pointer (some ⟨g, 0, none⟩), .int .i64 (from_ : Int), .int .i64 (n : Int)]), ⟨fun v w => ∃ g, v = .slice (some ⟨g, 0, none⟩) 64 64 ∧ OBk (fun k => ¬ F k) w (.slice (some ⟨g, 0, none⟩) 64 64) Jr.zero, fun _ _ _ h hb => by obtain ⟨g, h1, h2⟩ := h; exact ⟨g, h1, h2.later hb⟩⟩, ⟨fun v w => ∃ s g, v = .slice (some ⟨s, 0, none⟩) 1 1 ∧ ¬ F s ∧ w.heap[s]? = some (.cells #[.slice (some ⟨g, 0, none⟩) 64 64] 22 (0, 0)) ∧ OBk (fun k => ¬ F k) w (.slice (some ⟨g, 0, none⟩) 64 64) Jr.zero, fun _ _ _ h hb => by obtain ⟨s, g, h1, h0, h2, h3⟩ := h; exact ⟨s, g, h1, h0, (hb.block s (lt_of_block h2)).trans h2, h3.later hb⟩⟩, .eq (.pointer (some ⟨q, 2, none⟩)), .eq (.int .i64 (n : Int)), ⟨fun v w => ∃ g, v = .slice (some ⟨g, 0, none⟩) n n ∧ BsOut F w v (List.replicate n Jr.zero), fun _ _ _ h hb => by obtain ⟨g, h1, h2⟩ := h; exact ⟨g, h1, h2.later hb⟩⟩] ⟨?_, ?_, ?_, ?_, ?_, ?_, trivial⟩ ?_
  · intro u w9 hb9 hd9
    clear hd9
    have q9 := (hb9.block q (lt_of_block HQ.out)).trans HQ.out
    have c90 := (blk_cell q9 0 _ rfl).1
    have c91 := (blk_cell q9 1 _ rfl).1
    have c92 := (blk_cell q9 2 _ rfl).1
    clear q9
    simp only [List.getElem_toArray, List.getElem_cons_zero, List.getElem_cons_succ] at c90 c91 c92
    refine ⟨?_⟩
    simp only [Rel.canD, List.take_zero]
    go_wp2_with fail
    exact ⟨rfl, rfl, Below.refl _ _, rfl⟩
  · intro u w9 hb9 hd9
    clear hd9
    have hz := Blk.made w9 64
    have hbx : Below w9.heap.size w9 (w9.alloc (.cells (madeCells #[.int .u8 0] 64) 5)) := (Below.refl _ w9).alloc (Nat.le_refl _) _
    have hfx : ¬ F w9.heap.size := fun hf => by have := HL.out _ hf; have := HB.out.size; have := hb9.size; omega
    have h7 : OBk (fun k => ¬ F k) (w9.alloc (.cells (madeCells #[.int .u8 0] 64) 5)) (.slice (some ⟨w9.heap.size, 0, none⟩) 64 64) Jr.zero := hz.obk rfl (by decide) hfx
    clear hz
    have hmk := made64
    refine ⟨?_⟩
    simp only [Rel.canD, List.take_succ_cons, List.take_zero, Nat.reduceAdd]
    go_wp2_with fail
    exact ⟨rfl, rfl, hbx, w9.heap.size, rfl, h7⟩
  · intro u w9 hb9 hd9
    have e1 := hd9 1 (by kernel_rfl)
    clear hd9
    obtain ⟨g9, e1x, h9x⟩ := e1
    have hbx : Below w9.heap.size w9 (w9.alloc (.cells #[.slice (some ⟨g9, 0, none⟩) 64 64] 22)) := (Below.refl _ w9).alloc (Nat.le_refl _) _
    have hnx := heap_alloc_new w9 (.cells #[.slice (some ⟨g9, 0, none⟩) 64 64] 22)
    have hfx : ¬ F w9.heap.size := fun hf => by have := HL.out _ hf; have := HB.out.size; have := hb9.size; omega
    have h12 := h9x.later hbx
    refine ⟨?_⟩
    simp only [Rel.canD, List.take_succ_cons, List.take_zero, Nat.reduceAdd]
    go_wp2_with fail
    exact ⟨rfl, rfl, hbx, w9.heap.size, g9, rfl, hfx, hnx, h12⟩
  · intro u w9 hb9 hd9
    clear hd9
    refine ⟨?_⟩
    simp only [Rel.canD, List.take_succ_cons, List.take_zero, Nat.reduceAdd]
    go_wp2_with fail
    exact ⟨rfl, rfl, Below.refl _ _, rfl⟩
  · intro u w9 hb9 hd9
    have e3 : u 3 = .pointer (some ⟨q, 2, none⟩) := hd9 3 (by kernel_rfl)
    clear hd9
    have q9 := cell_later hb9 (blk_cell HQ.out 2 (.int .i64 (n : Int)) rfl).1
    refine ⟨?_⟩
    simp only [Rel.canD, List.take_succ_cons, List.take_zero, Nat.reduceAdd]
    go_wp2_with fail
    exact ⟨rfl, rfl, Below.refl _ _, rfl⟩
  · intro u w9 hb9 hd9
    have e2 := hd9 2 (by kernel_rfl)
    have e4 : u 4 = .int .i64 (n : Int) := hd9 4 (by kernel_rfl)
    clear hd9
    obtain ⟨s9, g9, e2x, hs9, hh9, hy9⟩ := e2
    have c9 := repeat_w s9 g9 64 64 n w9 hh9 HN.out.1 HN.out.2
    refine ⟨?_⟩
    simp only [Rel.canD, List.take_succ_cons, List.take_zero, Nat.reduceAdd]
    go_wp2_with fail
    refine c9.mono ?_
    rintro e w8 ⟨gr, rfl, hgr, hr8, hb8⟩
    have h7 : BsOut F w8 (.slice (some ⟨gr, 0, none⟩) n n) (List.replicate n Jr.zero) := rep_bs hr8 (fun hf => by have := HL.out _ hf; have := HB.out.size; have := hb9.size; omega) (hy9.later hb8) HN.out.2
    clear c9 hr8
    go_wp2_with fail
    exact ⟨rfl, rfl, hb8, gr, rfl, h7⟩
  intro u w9 hb9 hR9
  simp only [Rel.canD, Nat.reduceAdd, List.take_succ_cons, List.take_zero, List.drop_succ_cons, List.drop_zero]
  obtain ⟨g9, h5, hy9⟩ := hR9 5 (by decide)
  have h0 : u 0 = .agg #[.pointer (some ⟨g, 0, none⟩), .int .i64 (from_ : Int), .int .i64 (n : Int)] := hR9 0 (by decide)
  rw [h5] at hy9
  rw [h5, h0]
  have c9 := CP.out w9 (bt5 HB.out hb9) _ hy9
  have HB9 := Lib.hid (bt5 HB.out hb9)
  clear hR9 hb9 hy9 h5 h0
  go_simp
  go_wp2_with fail
  refine c9.mono ?_
  rintro e w8 ⟨F', rfl, hD, ht, hm9⟩
  have HX := Lib.hid (And.intro hD (And.intro ((Touch.of HB9.out).trans ht) (show More F F' w from fun k hk => (hm9 k hk).imp id (fun h => Nat.le_trans HB9.out.size h))))
  clear hD ht hm9 c9
  go_wp2_with fail
  go_ret
  exact ⟨F', rfl, HX.out⟩

set_option maxHeartbeats 3200000 in
set_option maxRecDepth 100000 in
theorem fsign_w (q g from_ n : Nat) (d : Dv.S) (F : Nat → Prop) (w : World) (hq : w.heap[q]? = some (.cells #[.pointer (some ⟨g, 0, none⟩), .int .i64 (from_ : Int), .int .i64 (n : Int)] 59 (0, 0))) (h : Dev13 w g d F) (hn : d.n ≤ 1000000) (hw : d.wait.length ≤ 100000) (hf : from_ + 2 ≤ 1000000) :
    Calls Try.prog 17 #[.pointer (some ⟨q, 0, none⟩)] w fun e w' => ∃ F', e = .returned (.int .i64 (Dv.write d ((from_ : Int) + ((1 : Nat) : Int)) [Jr.mark 1 1 2]).2) ∧ Dev13 w' g (Dv.write d ((from_ : Int) + ((1 : Nat) : Int)) [Jr.mark 1 1 2]).1 F' ∧ Touch F w w' ∧ More F F' w := by
  have c := sign_w g from_ n 1 1 2 d F w h hn hw hf (by decide) (by decide) (by decide)
  have c0 := (blk_cell hq 0 (.pointer (some ⟨g, 0, none⟩)) rfl).1
  have c1 := (blk_cell hq 1 (.int .i64 (from_ : Int)) rfl).1
  have c2 := (blk_cell hq 2 (.int .i64 (n : Int)) rfl).1
  have CC := Lib.hid c
  clear c h hq hf
  go_enter Try.func17, Try.ntmps17
  go_wp2_with fail
  refine CC.out.mono ?_
  rintro e w2 ⟨F', rfl, hX⟩
  have HX := Lib.hid hX
  clear hX
  go_wp2_with fail
  go_ret
  exact ⟨F', rfl, HX.out⟩
end Go.Proofs.Ytjdmmnpfjbnhoaa
