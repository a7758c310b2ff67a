/- Package device: whether a place is there, whether octets are sectors, which calls fail. -/
import Derived.Test.YtjdmmnpfjbnhoaaDvP1
import Derived.Test.YtjdmmnpfjbnhoaaShelf
import Derived.Test.YtjdmmnpfjbnhoaaQuiet
namespace Go.Proofs.Ytjdmmnpfjbnhoaa
open Go.RowKit

set_option maxHeartbeats 1600000 in
set_option maxRecDepth 100000 in
theorem holds_w (w : World) (g bv n : Nat) (d : Dv.S) (hd : d.safe.length = n) (q1 : w.cell? ⟨g, 1, none⟩ = some (.slice (some ⟨bv, 0, none⟩) n n)) (hl : n ≤ 65536) (a k : Int) (ha : -9223372036854775808 ≤ a ∧ a ≤ 9223372036854775807) (_hk : -9223372036854775808 ≤ k ∧ k ≤ 9223372036854775807) :
    Calls Try.prog 40 #[.pointer (some ⟨g, 0, none⟩), .int .i64 a, .int .i64 k] w fun e w' => e = .returned (.bool (Dv.there d a k)) ∧ w = w' := by
  have HT : Hid (Dv.there d a k = (decide (0 ≤ a) && (decide (0 ≤ k) && (decide (a ≤ n) && decide (k ≤ n - a))))) := Lib.hid (by
    unfold Dv.there
    rw [hd, Bool.eq_iff_iff]
    simp only [Bool.and_eq_true, decide_eq_true_eq])
  have hni : (n : Int) ≤ 65536 := by omega
  clear hd
  by_cases h1 : 0 ≤ a
  · by_cases h3 : a ≤ n
    · have hw : IntKind.i64.wrap ((n : Int) - a) = (n : Int) - a := by rw [IntKind.wrap_i64]; omega
      by_cases h2 : 0 ≤ k
      · by_cases h4 : k ≤ (n : Int) - a
        · have HR : Hid (Dv.there d a k = true) := Lib.hid (by rw [HT.out, decide_eq_true h1, decide_eq_true h2, decide_eq_true h3, decide_eq_true h4]; rfl)
          go_enter Try.func40, Try.ntmps40
          go_wp2_with fail
          go_ret
          exact ⟨by rw [HR.out]; rfl, rfl⟩
        · have HR : Hid (Dv.there d a k = false) := Lib.hid (by rw [HT.out, decide_eq_true h1, decide_eq_true h2, decide_eq_true h3, decide_eq_false h4]; rfl)
          go_enter Try.func40, Try.ntmps40
          go_wp2_with fail
          go_ret
          exact ⟨by rw [HR.out]; rfl, rfl⟩
      · have HR : Hid (Dv.there d a k = false) := Lib.hid (by rw [HT.out, decide_eq_true h1, decide_eq_false h2]; rfl)
        go_enter Try.func40, Try.ntmps40
        go_wp2_with fail
        go_ret
        exact ⟨by rw [HR.out]; rfl, rfl⟩
    · have HR : Hid (Dv.there d a k = false) := Lib.hid (by rw [HT.out, decide_eq_true h1, decide_eq_false h3, Bool.false_and, Bool.and_false]; rfl)
      go_enter Try.func40, Try.ntmps40
      go_wp2_with fail
      go_ret
      exact ⟨by rw [HR.out]; rfl, rfl⟩
  · have HR : Hid (Dv.there d a k = false) := Lib.hid (by rw [HT.out, decide_eq_false h1]; rfl)
    go_enter Try.func40, Try.ntmps40
    go_wp2_with fail
    go_ret
    exact ⟨by rw [HR.out]; rfl, rfl⟩

set_option maxHeartbeats 1600000 in
set_option maxRecDepth 100000 in
theorem whole_w (w : World) (v : Value) (ls : List (List UInt8)) (hv : BsIn w v ls) :
    Calls Try.prog 66 #[v] w fun e w' => e = .returned (.bool (ls.all fun x => decide (x.length = 64))) ∧ w = w' := by
  obtain ⟨aa, ca, rfl, hca, hca9, hga⟩ := hv
  have GA := Lib.hid hga
  obtain ⟨n, hn⟩ : ∃ n, n = ls.length := ⟨_, rfl⟩
  have HN := Lib.hid hn
  rw [← hn] at hca ⊢
  clear hga hn
  go_enter Try.func66, Try.ntmps66
  go_wp2_with fail
  go_loopw [7] (fun i wr => ∃ k : Nat, k ≤ n ∧ i = .int .i64 k ∧ Hid (∀ j (hj : j < ls.length), j < k → ls[j].length = 64) ∧ wr = w) (fun i _ => n - (intOf i).toNat)
  case atStart => exact ⟨0, Nat.zero_le _, rfl, Lib.hid (fun j _ h => absurd h (Nat.not_lt_zero j)), rfl⟩
  case round =>
    obtain ⟨k, hk, rfl, HE, rfl⟩ := hrel
    by_cases hlt : k < n
    · have hki : (k : Int) < n := by omega
      obtain ⟨b1, o1, hx1, hl1, hc1⟩ := GA.out.resolve_left (fun x => by have := HN.out; rw [x] at this; simp at this; omega)
      subst hx1
      have k1 : k < ls.length := by rw [← HN.out]; exact hlt
      obtain ⟨u1, f1, i1, n1⟩ := hc1 k k1
      obtain ⟨au, cu, rfl, hcu, hcu9, hx9⟩ := i1
      have HNX : Hid (ls[k].length = 64 → ∀ j (hj : j < ls.length), j < k + 1 → ls[j].length = 64) := Lib.hid (fun h j hj hjk => by
        by_cases e : j = k
        · subst e; exact h
        · exact HE.out j hj (by omega))
      have HBAD : Hid (ls[k].length ≠ 64 → (ls.all fun x => decide (x.length = 64)) = false) := Lib.hid (fun h => by
        rw [← Bool.not_eq_true, List.all_eq_true]
        intro h9
        exact h (of_decide_eq_true (h9 ls[k] (List.getElem_mem k1))))
      clear hc1 n1 hx9
      generalize ls[k].length = m at *
      by_cases hm : m = 64
      · subst hm
        go_wp2_with fail
        go_roundw
        case rel => exact ⟨k + 1, by omega, by go_num, Lib.hid (HNX.out rfl), trivial⟩
        case measure => simp [intOf]; omega
      · have hmi : ((m : Int) != 64) = true := by rw [bne, beq_eq_false_iff_ne.2 (by omega)]; rfl
        have hmi2 : ¬ (m : Int) = 64 := by omega
        have HD := Lib.hid (HBAD.out hm)
        clear HBAD HNX hm
        go_wp2_with fail
        go_ret
        exact ⟨by rw [HD.out]; rfl, rfl⟩
    · have hki : ¬ (k : Int) < n := by omega
      have HD : Hid ((ls.all fun x => decide (x.length = 64)) = true) := Lib.hid (by
        rw [List.all_eq_true]
        intro x hx
        obtain ⟨j, hj, rfl⟩ := List.getElem_of_mem hx
        exact decide_eq_true (HE.out j hj (by have := HN.out; omega)))
      clear hlt hk
      go_wp2_with fail
      go_ret
      exact ⟨by rw [HD.out]; rfl, rfl⟩

/-- slices.BinarySearch of numbers that rise. -/
theorem search_w (w : World) (v : Value) (zs : List Int) (x : Int) (h : ILies w v zs) (hs : zs.Pairwise (· ≤ ·)) (hl : zs.length ≤ 200000) :
    Calls Try.prog 59 #[v, .int .i64 x] w fun e w' => e = .returned (.tuple #[.int .i64 (zs.countP (· < x) : Nat), .bool (zs.contains x)]) ∧ Below w.heap.size w w' := by
  obtain ⟨ao, cap, rfl, h1, h2, h3⟩ := h
  by_cases h0 : zs = []
  · subst h0
    exact (Try.slices_BinarySearch_int_empty ao cap x w).mono fun e w' ⟨he, hw⟩ => ⟨he, by rw [hw]; exact Below.refl _ w⟩
  · obtain ⟨b, rfl, C, hC, hc⟩ := h3.resolve_left h0
    refine (Try.slices_BinarySearch_int b 0 zs.length cap zs x w (Nat.le_refl _) (by omega) (fun j hj => ?_) (by rw [List.take_length]; exact hs)).mono fun e w' ⟨he, q, hw⟩ => ⟨by rw [he, List.take_length], by rw [hw]; exact ⟨rfl, rfl, rfl, Nat.le_refl _, fun _ _ => rfl⟩⟩
    rw [Nat.zero_add]
    simp only [World.cell?, hC]
    have := hc j hj
    rw [List.getD_eq_getElem?_getD, List.getElem?_eq_getElem hj]
    simpa using this

theorem blk_keep {w w' : World} {g : Nat} {O : Obj} (h : w.heap[g]? = some O) (hb : Below w.heap.size w w') : w'.heap[g]? = some O := by
  rw [hb.block g (lt_of_block h)]; exact h
/-- How many calls are left, as the program has it. -/
def Lft (L l : Int) : Prop := (L = l ∧ 0 ≤ l ∨ L < 0 ∧ l < 0) ∧ -9223372036854775808 ≤ L ∧ L ≤ 9223372036854775807
def dcells (A B C fv : Value) (n L : Int) : Array Value := #[A, B, C, fv, .int .i64 n, .int .i64 L]

set_option maxHeartbeats 1600000 in
set_option maxRecDepth 100000 in
theorem call_w (w : World) (g : Nat) (A B C fv : Value) (L : Int) (d : Dv.S) (F : Nat → Prop) (hb : w.heap[g]? = some (.cells (dcells A B C fv d.n L) 57 (0, 0))) (hf : Fails w F fv d.bad) (hL : Lft L d.left) (hn : d.n ≤ 1000000) :
    Calls Try.prog 41 #[.pointer (some ⟨g, 3, none⟩)] w fun e w' => e = .returned (.int .i64 (Dv.call d).2) ∧ Touch (fun k => k = g) w w' ∧ ∃ L', Lft L' (Dv.call d).1.left ∧ w'.heap[g]? = some (.cells (dcells A B C fv (Dv.call d).1.n L') 57 (0, 0)) := by
  obtain ⟨zs, hz1, hz2, hz3, hz4, hz5⟩ := hf
  have c5 : w.cell? ⟨g, 5, none⟩ = some (.int .i64 L) ∧ w.frozen? ⟨g, 5, none⟩ = false := blk_cell hb 5 _ rfl
  by_cases h0 : L = 0
  · subst h0
    have hl0 : d.left = 0 := by obtain ⟨h | h, _⟩ := hL <;> omega
    have HE : Hid (Dv.call d = (d, 32)) := Lib.hid (by unfold Dv.call; rw [if_pos hl0])
    have HX : Hid (Touch (fun k => k = g) w w ∧ ∃ L', Lft L' (Dv.call d).1.left ∧ w.heap[g]? = some (.cells (dcells A B C fv (Dv.call d).1.n L') 57 (0, 0))) := Lib.hid (by rw [HE.out]; exact ⟨Touch.refl _ _, 0, hL, hb⟩)
    clear hb hz1 hz2 hz3 hz4 hz5 hL
    obtain ⟨c5, -⟩ := c5
    go_enter Try.func41, Try.ntmps41
    go_wp2_with fail
    go_ret
    refine ⟨by rw [HE.out]; rfl, HX.out⟩
  · have hl0 : d.left ≠ 0 := by obtain ⟨h | h, _⟩ := hL <;> omega
    obtain ⟨er, her⟩ : ∃ er : Bool, d.bad.contains (d.n : Int) = er := ⟨_, rfl⟩
    have HE : Hid (Dv.call d = ({ d with left := if 0 < d.left then d.left - 1 else d.left, n := d.n + 1 }, if er then 31 else 0)) := Lib.hid (by unfold Dv.call; rw [if_neg hl0, her])
    have her' : zs.contains (d.n : Int) = er := by rw [hz3]; exact her
    have hn1 : (d.n : Int) ≤ 1000000 := by omega
    have hn0 : (0 : Int) ≤ d.n := by omega
    obtain ⟨N, hN⟩ : ∃ N : Int, N = (d.n : Int) := ⟨_, rfl⟩
    have HN := Lib.hid hN
    rw [← hN] at hb her' hn1 hn0
    have c3 := blk_cell hb 3 fv rfl
    have c4 := blk_cell hb 4 (.int .i64 N) rfl
    obtain ⟨LB1, LB2⟩ := hL.2
    have HS := Lib.hid (fun (w' : World) (hi : ILies w' fv zs) => search_w w' fv zs N hi hz2 hz4)
    rw [her'] at HS
    obtain ⟨p, hp9⟩ : ∃ p : Nat, zs.countP (· < N) = p := ⟨_, rfl⟩
    rw [hp9] at HS
    clear hp9 her' her hN
    by_cases hp : 0 < L
    · have hw : IntKind.i64.wrap (L - 1) = L - 1 := by rw [IntKind.wrap_i64]; omega
      obtain ⟨w1, hw1⟩ : ∃ w1, w1 = w.setCell ⟨g, 5, none⟩ (.int .i64 (L - 1)) := ⟨_, rfl⟩
      have ht1 : Touch (fun k => k = g) w w1 := by rw [hw1]; exact Touch.cell (F := fun k => k = g) rfl 5 _
      have hb1 : w1.heap[g]? = some (.cells (dcells A B C fv N (L - 1)) 57 (0, 0)) := by rw [hw1]; exact heap_setCell_same w g 5 _ _ _ hb
      have hi1 : ILies w1 fv zs := hz1.keep fun hne k hk => by rw [hw1]; exact heap_setCell_other w ⟨g, 5, none⟩ k _ (hz1.ne hne hb k hk)
      have HX : Hid (∀ w', Touch (fun k => k = g) w1 w' → w'.heap[g]? = some (.cells (dcells A B C fv (N + 1) (L - 1)) 57 (0, 0)) → Touch (fun k => k = g) w w' ∧ ∃ L', Lft L' (Dv.call d).1.left ∧ w'.heap[g]? = some (.cells (dcells A B C fv (Dv.call d).1.n L') 57 (0, 0))) := Lib.hid (fun w' h1 h2 => ⟨ht1.trans h1, L - 1, by
        rw [HE.out]
        have e : d.left = L := by obtain ⟨h | h, _⟩ := hL <;> omega
        show Lft (L - 1) (if 0 < d.left then d.left - 1 else d.left)
        rw [e, if_pos hp]
        exact ⟨.inl ⟨rfl, by omega⟩, by omega, by omega⟩, by rw [h2, HN.out, HE.out]; rfl⟩)
      clear hz1 hL hb hz5 ht1 hz2 hz3 hz4 hl0
      go_enter Try.func41, Try.ntmps41
      go_upto_region 5 with fail
      rw [← hw1]
      clear hw1 c3 c4 c5
      have d3 := fun p : LateOf w1 => p.cell (blk_cell hb1 3 fv rfl).1
      have d4 := fun p : LateOf w1 => p.cell (blk_cell hb1 4 (.int .i64 N) rfl).1
      have cS := fun p : LateOf w1 => HS.out p.w (hi1.keep fun hne k hk => by
        obtain ⟨ao, cap, hv, _, _, h3⟩ := hi1
        obtain ⟨b, e, C9, hC, _⟩ := h3.resolve_left hne
        rw [hv, e] at hk
        cases hk
        exact p.h.block b (lt_of_block hC))
      go_cut [3, 4] (fun u3 u4 wx => ∃ x : Bool, u4 = .bool x ∧ x = er ∧ Below w1.heap.size w1 wx)
      case first =>
        refine wp_region_late (by kernel_rfl) (by kernel_rfl) ?_
        repeat (quiet_step (fail))
        quiet_step ((go_at_call 59; with_reducible exact late _ (cS _)))
        repeat (quiet_step (fail))
        refine wpQuiet_nil ?_
        intro w2 hw'
        have hb2 : Below w1.heap.size w1 w2 := by obtain ⟨p, rfl⟩ := hw'; exact p.h
        clear hw' d3 d4 cS
        go_wp2_with fail
        go_meet
        exact ⟨er, rfl, rfl, hb2⟩
      case rest =>
        obtain ⟨x, rfl, rfl, hb2⟩ := hcut
        have hb3 := blk_keep hb1 hb2
        have e4 := blk_cell hb3 4 (.int .i64 N) rfl
        have hw9 : IntKind.i64.wrap (N + 1) = N + 1 := by rw [IntKind.wrap_i64]; omega
        have HB := Lib.hid hb3
        have HB2 := Lib.hid hb2
        clear d3 d4 cS hb1 hi1 hb2 hb3
        cases x with
        | true =>
          go_wp2_with fail
          go_ret
          refine ⟨by rw [HE.out]; rfl, HX.out _ ((Touch.of HB2.out).trans (Touch.cell (F := fun k => k = g) rfl 4 _)) (heap_setCell_same _ g 4 _ _ _ HB.out)⟩
        | false =>
          go_wp2_with fail
          go_ret
          refine ⟨by rw [HE.out]; rfl, HX.out _ ((Touch.of HB2.out).trans (Touch.cell (F := fun k => k = g) rfl 4 _)) (heap_setCell_same _ g 4 _ _ _ HB.out)⟩
    · have hp2 : L < 0 := by omega
      obtain ⟨w1, hw1⟩ : ∃ w1, w1 = w := ⟨_, rfl⟩
      have HX : Hid (∀ w', Touch (fun k => k = g) w1 w' → w'.heap[g]? = some (.cells (dcells A B C fv (N + 1) L) 57 (0, 0)) → Touch (fun k => k = g) w w' ∧ ∃ L', Lft L' (Dv.call d).1.left ∧ w'.heap[g]? = some (.cells (dcells A B C fv (Dv.call d).1.n L') 57 (0, 0))) := Lib.hid (fun w' h1 h2 => ⟨by rw [hw1] at h1; exact h1, L, by
        rw [HE.out]
        have e : d.left < 0 := by obtain ⟨h | h, _⟩ := hL <;> omega
        show Lft L (if 0 < d.left then d.left - 1 else d.left)
        rw [if_neg (by omega)]
        exact ⟨.inr ⟨hp2, e⟩, by omega, by omega⟩, by rw [h2, HN.out, HE.out]; rfl⟩)
      rw [← hw1] at hb hz1
      have hb1 := hb
      have hi1 := hz1
      clear hL hz5 hz2 hz3 hz4 hl0 hb hz1
      go_enter Try.func41, Try.ntmps41
      go_upto_region 5 with fail
      rw [← hw1]
      clear hw1 c3 c4 c5
      have d3 := fun p : LateOf w1 => p.cell (blk_cell hb1 3 fv rfl).1
      have d4 := fun p : LateOf w1 => p.cell (blk_cell hb1 4 (.int .i64 N) rfl).1
      have cS := fun p : LateOf w1 => HS.out p.w (hi1.keep fun hne k hk => by
        obtain ⟨ao, cap, hv, _, _, h3⟩ := hi1
        obtain ⟨b, e, C9, hC, _⟩ := h3.resolve_left hne
        rw [hv, e] at hk
        cases hk
        exact p.h.block b (lt_of_block hC))
      go_cut [3, 4] (fun u3 u4 wx => ∃ x : Bool, u4 = .bool x ∧ x = er ∧ Below w1.heap.size w1 wx)
      case first =>
        refine wp_region_late (by kernel_rfl) (by kernel_rfl) ?_
        repeat (quiet_step (fail))
        quiet_step ((go_at_call 59; with_reducible exact late _ (cS _)))
        repeat (quiet_step (fail))
        refine wpQuiet_nil ?_
        intro w2 hw'
        have hb2 : Below w1.heap.size w1 w2 := by obtain ⟨p, rfl⟩ := hw'; exact p.h
        clear hw' d3 d4 cS
        go_wp2_with fail
        go_meet
        exact ⟨er, rfl, rfl, hb2⟩
      case rest =>
        obtain ⟨x, rfl, rfl, hb2⟩ := hcut
        have hb3 := blk_keep hb1 hb2
        have e4 := blk_cell hb3 4 (.int .i64 N) rfl
        have hw9 : IntKind.i64.wrap (N + 1) = N + 1 := by rw [IntKind.wrap_i64]; omega
        have HB := Lib.hid hb3
        have HB2 := Lib.hid hb2
        clear d3 d4 cS hb1 hi1 hb2 hb3
        cases x with
        | true =>
          go_wp2_with fail
          go_ret
          refine ⟨by rw [HE.out]; rfl, HX.out _ ((Touch.of HB2.out).trans (Touch.cell (F := fun k => k = g) rfl 4 _)) (heap_setCell_same _ g 4 _ _ _ HB.out)⟩
        | false =>
          go_wp2_with fail
          go_ret
          refine ⟨by rw [HE.out]; rfl, HX.out _ ((Touch.of HB2.out).trans (Touch.cell (F := fun k => k = g) rfl 4 _)) (heap_setCell_same _ g 4 _ _ _ HB.out)⟩
end Go.Proofs.Ytjdmmnpfjbnhoaa
