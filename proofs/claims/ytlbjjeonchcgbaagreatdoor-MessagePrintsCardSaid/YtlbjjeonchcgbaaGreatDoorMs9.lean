/- The statements of layer 8: MessagePrints. -/
import Derived.Test.YtlbjjeonchcgbaaGreatDoorMsS
import Derived.Test.YtlbjjeonchcgbaaGreatDoorMsP2
import Derived.Test.YtlbjjeonchcgbaaGreatDoorQuiet
namespace Go.Proofs.YtlbjjeonchcgbaaGreatDoor
open Go.RowKit

/-- 'append(b, u..)' to octets of the call's own, as an operation: no message's block changes. -/
theorem appO {o : Oper} {a : Act} {K : Act → World → Prop} {Q : Exit → Act → World → Prop} {W w : World} {v u : Value} {l m : List UInt8} (h : Buf W w v l) (hu : BIn w u m) (hnil : NilOk u) (hlen : l.length + m.length ≤ 1000000000)
    (s x : Operand) (ho : o.op = .call { callee := .builtin .append, args := #[s, x], argTypes := #[22, 22] })
    (hs : a.eval s = v) (hx : a.eval x = u)
    (hK : ∀ v' w', Buf W w' v' (l ++ m) → (∀ (g : Nat) (C : Array Value), w.heap[g]? = some (.cells C 28 (0, 0)) → w'.heap[g]? = some (.cells C 28 (0, 0))) → K (a.put o.dst v') w') : o.wp Tryz.prog a w K Q := by
  obtain ⟨i0, hi, hz0, hz1, hz2⟩ := info_parts bytes_info
  obtain ⟨ao, cap, rfl, hlc, _, hg⟩ := hu
  cases ao with
  | none =>
    have h0 : m = [] := by
      rcases hg with h | ⟨b, o, h, _⟩
      · exact h
      · cases h
    subst h0
    obtain rfl : cap = 0 := hnil cap rfl
    have hrun := run_append_owned_none (P := Tryz.prog) (w := w) W.heap.size 22 o.type 5 i0 1 Tryz.underlying22 hi v l.length (Lib.byteCells l) h.1
    have hx' : a.eval x = .slice none 0 0 := hx
    unfold Oper.wp
    simp [execOp, ho, resolve, invoke, builtin, hs, hx', hrun, Result.andThen]
    have := hK v w
    rw [List.append_nil] at this
    exact this h (fun _ _ h => h)
  | some ad =>
    refine wp_append_own _ s x _ ho W.heap.size 5 i0 (.int .u8 0) 1 1 Tryz.underlying22 hi hz0 hz1 hz2 rfl (by decide) v l.length (Lib.byteCells l) hs h.1 ad m.length cap (Lib.byteCells m) hx (by rw [Lib.byteCells_length]; omega) ?_ ?_ (by unfold maxLen; omega) (by omega) h.2.size (fun v' w' h1 h2 h3 => ?_)
    · intro j c hj
      have hjl : j < m.length := by
        have := (List.getElem?_eq_some_iff.1 hj).1
        rw [Lib.byteCells_length] at this; exact this
      rcases hg with h | ⟨b, o, h, hb, hc⟩
      · subst h; simp at hjl
      · cases h
        rw [Addr.add_lit, hc j hjl]
        rw [← hj]; simp [Lib.byteCells, hjl]
    · intro c hc
      unfold Lib.byteCells at hc
      obtain ⟨d, _, rfl⟩ := List.mem_map.1 hc
      rfl
    · refine hK v' w' ⟨?_, h.2.grown h2 h.2.size (fun k hk => (h.1.lt k hk).1)⟩ (fun g C hgc => ?_)
      · have e : Lib.byteCells (l ++ m) = Lib.byteCells l ++ Lib.byteCells m := by simp [Lib.byteCells]
        rw [e, List.length_append]; exact h1
      · rw [h2.block g (lt_of_block hgc) ?_]
        · exact hgc
        · rcases h.1.2 with ⟨hv, _⟩ | ⟨k, c2, cur, hv, _, hh, _⟩
          · rw [hv]; simp [Value.ownBlock]
          · rw [hv]
            intro he
            simp only [Value.ownBlock, Option.some.injEq] at he
            subst he
            rw [hgc] at hh
            injection hh with hh
            injection hh with _ hh _
            exact absurd hh (by decide)

set_option maxHeartbeats 6400000 in
set_option maxRecDepth 100000 in
theorem prints_core {a0 a1 a3 mm : ByteArray} {st mi kd sz er : Int} {fv bv : Value} {n X N K : Nat} {sa rr Q : Bool} {fs : List Fld.F} {x pl tl : List UInt8} {ao : Option Addr} {tc : Nat} (w : World) (hQ : (st == 0) = Q) (hTl : BIn w (.slice ao K tc) tl) (hTn : NilOk (.slice ao K tc)) (hKl : K = tl.length)
    (cA : ∀ W, Below w.heap.size w W → Calls Tryz.prog 9 #[] W fun e w' => e = .returned (.bool true) ∧ Below W.heap.size W w')
    (cSa : ∀ W, Below w.heap.size w W → Calls Tryz.prog 13 #[.agg #[.string a0, .string a1, .int .i64 st, .string a3, .int .i64 mi, fv, bv], .string mm] W fun e w' => e = .returned (.bool sa) ∧ Below W.heap.size W w')
    (HH : sa = true → ¬ (300 : Int) < K → (∀ W, Below w.heap.size w W → Calls Tryz.prog 14 #[.agg #[.string a0, .string a1, .int .i64 st, .string a3, .int .i64 mi, fv, bv], .string mm] W fun e w' => e = .returned (.tuple #[.int .i64 kd, .int .i64 sz, .int .i64 er]) ∧ Below W.heap.size W w') ∧
      (∀ W, Below w.heap.size w W → Calls Tryz.prog 15 #[.agg #[.string a0, .string a1, .int .i64 st, .string a3, .int .i64 mi, fv, bv], .string mm] W fun e w' => e = .returned (.tuple #[.int .i64 kd, .int .i64 sz, .int .i64 er]) ∧ Below W.heap.size W w') ∧
      (∀ W, Below w.heap.size w W → Calls Tryz.prog 16 #[.agg #[.string a0, .string a1, .int .i64 st, .string a3, .int .i64 mi, fv, bv], .string mm] W fun e w' => (∃ ua uc, e = .returned (.tuple #[.slice ua N uc, .int .i64 (if rr = true then 0 else 10)]) ∧ BIn w' (.slice ua N uc) pl ∧ NilOk (.slice ua N uc)) ∧ Below W.heap.size W w') ∧
      (∀ W, Below w.heap.size w W → Calls Tryz.prog 17 #[.agg #[.string a0, .string a1, .int .i64 st, .string a3, .int .i64 mi, fv, bv], .string mm] W fun e w' => e = .returned (.bool rr) ∧ Below W.heap.size W w') ∧
      (∀ W, Below w.heap.size w W → Calls Tryz.prog 18 #[.agg #[.string a0, .string a1, .int .i64 st, .string a3, .int .i64 mi, fv, bv], .string mm] W fun e w' => e = .returned (.bool rr) ∧ Below W.heap.size W w') ∧ (rr = false → N = 0) ∧ N ≤ 200000 ∧ N = pl.length ∧
      (rr = true → (∀ u W, BIn W u (pl ++ tl) → NilOk u → Below w.heap.size w W → Calls Tryz.prog 10 #[u, .bool Q, .string mm] W fun e w' => (∃ fa fc ba bc, e = .returned (.tuple #[.agg #[.string a0, .string a1, .int .i64 st, .string a3, .int .i64 mi, .slice fa n fc, .slice ba X bc], .int .i64 N, .int .i64 0]) ∧ FIn w' (.slice fa n fc) fs ∧ BIn w' (.slice ba X bc) x ∧ NilOk (.slice ba X bc) ∧ ∀ ad j c, (Value.slice fa n fc) = .slice (some ad) j c → W.heap.size ≤ ad.block) ∧ Below W.heap.size W w') ∧
        (∀ W, Below w.heap.size w W → Calls Tryz.prog 19 #[.agg #[.string a0, .string a1, .int .i64 st, .string a3, .int .i64 mi, fv, bv], .string mm] W fun e w' => e = .returned (.string (str pl)) ∧ Below W.heap.size W w') ∧
        (∀ fa9 fc9 ba9 bc9 W, FIn W (.slice fa9 n fc9) fs → BIn W (.slice ba9 X bc9) x → NilOk (.slice ba9 X bc9) → Below w.heap.size w W → Calls Tryz.prog 12 #[.agg #[.string a0, .string a1, .int .i64 st, .string a3, .int .i64 mi, .slice fa9 n fc9, .slice ba9 X bc9], .agg #[.string a0, .string a1, .int .i64 st, .string a3, .int .i64 mi, fv, bv]] W fun e w' => e = .returned (.bool true) ∧ Below W.heap.size W w'))) :
    Calls Tryz.prog 4 #[.agg #[.string a0, .string a1, .int .i64 st, .string a3, .int .i64 mi, fv, bv], .string mm, .slice ao K tc] w fun e w' => e = .returned (.bool true) ∧ Below w.heap.size w w' := by
  have hK9 : (K : Int) ≤ 9223372036854775807 := by obtain ⟨a, c, h1, h2, h3, _⟩ := hTl; injection h1 with _ h4 h5; omega
  have HTL := Lib.hid hTl
  have HTN := Lib.hid hTn
  have HKL := Lib.hid hKl
  have HQ := Lib.hid hQ
  clear hTl hTn hKl hQ
  cases sa with
  | false =>
    clear HH
    go_enter Tryz.func4, Tryz.ntmps4
    go_upto_region 1 with fail
    have bA : (w.alloc (.cells #[.string a0, .string a1, .int .i64 st, .string a3, .int .i64 mi, fv, bv] 28)).heap[w.heap.size]? = some (.cells #[.string a0, .string a1, .int .i64 st, .string a3, .int .i64 mi, fv, bv] 28 (0, 0)) := heap_alloc_new w _
    have hb : Below w.heap.size w (w.alloc (.cells #[.string a0, .string a1, .int .i64 st, .string a3, .int .i64 mi, fv, bv] 28)) := (Below.refl _ w).alloc (Nat.le_refl _) _
    generalize w.alloc (.cells #[.string a0, .string a1, .int .i64 st, .string a3, .int .i64 mi, fv, bv] 28) = W0 at *
    obtain ⟨p, hpp⟩ : ∃ q, q = w.heap.size := ⟨_, rfl⟩
    rw [← hpp] at bA ⊢
    have HPP := Lib.hid hpp
    clear hpp
    obtain ⟨c0, c1, c2, c3, c4, c5, c6⟩ := set7 bA
    go_wp2_with fail
    refine (cA _ hb).mono ?_
    rintro q1 w1 ⟨rfl, hq1⟩
    replace bA := blk_later bA hq1
    replace hb := bt5 hb hq1
    clear hq1
    clear c0 c1 c2 c3 c4 c5 c6
    obtain ⟨c0, c1, c2, c3, c4, c5, c6⟩ := set7 bA
    go_wp2_with fail
    refine (cSa _ hb).mono ?_
    rintro q2 w2 ⟨rfl, hq2⟩
    replace bA := blk_later bA hq2
    replace hb := bt5 hb hq2
    clear hq2
    clear c0 c1 c2 c3 c4 c5 c6
    obtain ⟨c0, c1, c2, c3, c4, c5, c6⟩ := set7 bA
    go_wp2_with fail
    refine (cA _ hb).mono ?_
    rintro e9 w9 ⟨rfl, hb9⟩
    have hB := bt5 hb hb9
    go_wp2_with fail
    go_ret
    exact ⟨rfl, by first | exact hB | (rw [HPP.out]; exact hB)⟩
  | true =>
  by_cases h3 : (300 : Int) < K
  · clear HH
    go_enter Tryz.func4, Tryz.ntmps4
    go_upto_region 1 with fail
    have bA : (w.alloc (.cells #[.string a0, .string a1, .int .i64 st, .string a3, .int .i64 mi, fv, bv] 28)).heap[w.heap.size]? = some (.cells #[.string a0, .string a1, .int .i64 st, .string a3, .int .i64 mi, fv, bv] 28 (0, 0)) := heap_alloc_new w _
    have hb : Below w.heap.size w (w.alloc (.cells #[.string a0, .string a1, .int .i64 st, .string a3, .int .i64 mi, fv, bv] 28)) := (Below.refl _ w).alloc (Nat.le_refl _) _
    generalize w.alloc (.cells #[.string a0, .string a1, .int .i64 st, .string a3, .int .i64 mi, fv, bv] 28) = W0 at *
    obtain ⟨p, hpp⟩ : ∃ q, q = w.heap.size := ⟨_, rfl⟩
    rw [← hpp] at bA ⊢
    have HPP := Lib.hid hpp
    clear hpp
    obtain ⟨c0, c1, c2, c3, c4, c5, c6⟩ := set7 bA
    go_wp2_with fail
    refine (cA _ hb).mono ?_
    rintro q1 w1 ⟨rfl, hq1⟩
    replace bA := blk_later bA hq1
    replace hb := bt5 hb hq1
    clear hq1
    clear c0 c1 c2 c3 c4 c5 c6
    obtain ⟨c0, c1, c2, c3, c4, c5, c6⟩ := set7 bA
    go_wp2_with fail
    refine (cSa _ hb).mono ?_
    rintro q2 w2 ⟨rfl, hq2⟩
    replace bA := blk_later bA hq2
    replace hb := bt5 hb hq2
    clear hq2
    clear c0 c1 c2 c3 c4 c5 c6
    obtain ⟨c0, c1, c2, c3, c4, c5, c6⟩ := set7 bA
    go_wp2_with fail
    refine (cA _ hb).mono ?_
    rintro e9 w9 ⟨rfl, hb9⟩
    have hB := bt5 hb hb9
    go_wp2_with fail
    go_ret
    exact ⟨rfl, by first | exact hB | (rw [HPP.out]; exact hB)⟩
  obtain ⟨cF, cG, cP, cR, cQ, hn0, hn9, hnp, HT⟩ := HH rfl h3
  clear HH
  cases rr with
  | false =>
    obtain rfl := hn0 rfl
    simp only [Bool.false_eq_true, if_false] at cP
    clear HT hn9 hnp hn0
    go_enter Tryz.func4, Tryz.ntmps4
    go_upto_region 1 with fail
    have bA : (w.alloc (.cells #[.string a0, .string a1, .int .i64 st, .string a3, .int .i64 mi, fv, bv] 28)).heap[w.heap.size]? = some (.cells #[.string a0, .string a1, .int .i64 st, .string a3, .int .i64 mi, fv, bv] 28 (0, 0)) := heap_alloc_new w _
    have hb : Below w.heap.size w (w.alloc (.cells #[.string a0, .string a1, .int .i64 st, .string a3, .int .i64 mi, fv, bv] 28)) := (Below.refl _ w).alloc (Nat.le_refl _) _
    generalize w.alloc (.cells #[.string a0, .string a1, .int .i64 st, .string a3, .int .i64 mi, fv, bv] 28) = W0 at *
    obtain ⟨p, hpp⟩ : ∃ q, q = w.heap.size := ⟨_, rfl⟩
    rw [← hpp] at bA ⊢
    have HPP := Lib.hid hpp
    clear hpp
    obtain ⟨c0, c1, c2, c3, c4, c5, c6⟩ := set7 bA
    go_wp2_with fail
    refine (cA _ hb).mono ?_
    rintro q1 w1 ⟨rfl, hq1⟩
    replace bA := blk_later bA hq1
    replace hb := bt5 hb hq1
    clear hq1
    clear c0 c1 c2 c3 c4 c5 c6
    obtain ⟨c0, c1, c2, c3, c4, c5, c6⟩ := set7 bA
    go_wp2_with fail
    refine (cSa _ hb).mono ?_
    rintro q2 w2 ⟨rfl, hq2⟩
    replace bA := blk_later bA hq2
    replace hb := bt5 hb hq2
    clear hq2
    clear c0 c1 c2 c3 c4 c5 c6
    obtain ⟨c0, c1, c2, c3, c4, c5, c6⟩ := set7 bA
    go_wp2_with fail
    refine (cF _ hb).mono ?_
    rintro q3 w3 ⟨rfl, hq3⟩
    replace bA := blk_later bA hq3
    replace hb := bt5 hb hq3
    clear hq3
    clear c0 c1 c2 c3 c4 c5 c6
    obtain ⟨c0, c1, c2, c3, c4, c5, c6⟩ := set7 bA
    go_wp2_with fail
    refine (cG _ hb).mono ?_
    rintro q4 w4 ⟨rfl, hq4⟩
    replace bA := blk_later bA hq4
    replace hb := bt5 hb hq4
    clear hq4
    clear c0 c1 c2 c3 c4 c5 c6
    obtain ⟨c0, c1, c2, c3, c4, c5, c6⟩ := set7 bA
    go_wp2_with fail
    refine (cP _ hb).mono ?_
    rintro q5 w5 ⟨⟨ua, uc, rfl, hu, hun⟩, hq5⟩
    replace bA := blk_later bA hq5
    replace hb := bt5 hb hq5
    clear hq5
    clear c0 c1 c2 c3 c4 c5 c6
    obtain ⟨c0, c1, c2, c3, c4, c5, c6⟩ := set7 bA
    go_wp2_with fail
    refine (cR _ hb).mono ?_
    rintro q6 w6 ⟨rfl, hq6⟩
    replace bA := blk_later bA hq6
    replace hu := hu.later hq6
    replace hb := bt5 hb hq6
    clear hq6
    clear c0 c1 c2 c3 c4 c5 c6
    obtain ⟨c0, c1, c2, c3, c4, c5, c6⟩ := set7 bA
    go_wp2_with fail
    refine (cQ _ hb).mono ?_
    rintro q7 w7 ⟨rfl, hq7⟩
    replace bA := blk_later bA hq7
    replace hu := hu.later hq7
    replace hb := bt5 hb hq7
    clear hq7
    clear c0 c1 c2 c3 c4 c5 c6
    obtain ⟨c0, c1, c2, c3, c4, c5, c6⟩ := set7 bA
    clear hu hun bA
    go_wp2_with fail
    go_ret
    exact ⟨rfl, by first | exact hb | (rw [HPP.out]; exact hb)⟩
  | true =>
    obtain ⟨cX, cY, cE⟩ := HT rfl
    simp only [if_true] at cP
    have HNP := Lib.hid hnp
    clear HT hn0 hnp
    go_enter Tryz.func4, Tryz.ntmps4
    go_upto_region 1 with fail
    have bA : (w.alloc (.cells #[.string a0, .string a1, .int .i64 st, .string a3, .int .i64 mi, fv, bv] 28)).heap[w.heap.size]? = some (.cells #[.string a0, .string a1, .int .i64 st, .string a3, .int .i64 mi, fv, bv] 28 (0, 0)) := heap_alloc_new w _
    have hb : Below w.heap.size w (w.alloc (.cells #[.string a0, .string a1, .int .i64 st, .string a3, .int .i64 mi, fv, bv] 28)) := (Below.refl _ w).alloc (Nat.le_refl _) _
    generalize w.alloc (.cells #[.string a0, .string a1, .int .i64 st, .string a3, .int .i64 mi, fv, bv] 28) = W0 at *
    obtain ⟨p, hpp⟩ : ∃ q, q = w.heap.size := ⟨_, rfl⟩
    rw [← hpp] at bA ⊢
    have HPP := Lib.hid hpp
    clear hpp
    obtain ⟨c0, c1, c2, c3, c4, c5, c6⟩ := set7 bA
    go_wp2_with fail
    refine (cA _ hb).mono ?_
    rintro q1 w1 ⟨rfl, hq1⟩
    replace bA := blk_later bA hq1
    replace hb := bt5 hb hq1
    clear hq1
    clear c0 c1 c2 c3 c4 c5 c6
    obtain ⟨c0, c1, c2, c3, c4, c5, c6⟩ := set7 bA
    go_wp2_with fail
    refine (cSa _ hb).mono ?_
    rintro q2 w2 ⟨rfl, hq2⟩
    replace bA := blk_later bA hq2
    replace hb := bt5 hb hq2
    clear hq2
    clear c0 c1 c2 c3 c4 c5 c6
    obtain ⟨c0, c1, c2, c3, c4, c5, c6⟩ := set7 bA
    go_wp2_with fail
    refine (cF _ hb).mono ?_
    rintro q3 w3 ⟨rfl, hq3⟩
    replace bA := blk_later bA hq3
    replace hb := bt5 hb hq3
    clear hq3
    clear c0 c1 c2 c3 c4 c5 c6
    obtain ⟨c0, c1, c2, c3, c4, c5, c6⟩ := set7 bA
    go_wp2_with fail
    refine (cG _ hb).mono ?_
    rintro q4 w4 ⟨rfl, hq4⟩
    replace bA := blk_later bA hq4
    replace hb := bt5 hb hq4
    clear hq4
    clear c0 c1 c2 c3 c4 c5 c6
    obtain ⟨c0, c1, c2, c3, c4, c5, c6⟩ := set7 bA
    go_wp2_with fail
    refine (cP _ hb).mono ?_
    rintro q5 w5 ⟨⟨ua, uc, rfl, hu, hun⟩, hq5⟩
    replace bA := blk_later bA hq5
    replace hb := bt5 hb hq5
    clear hq5
    clear c0 c1 c2 c3 c4 c5 c6
    obtain ⟨c0, c1, c2, c3, c4, c5, c6⟩ := set7 bA
    go_wp2_with fail
    refine (cR _ hb).mono ?_
    rintro q6 w6 ⟨rfl, hq6⟩
    replace bA := blk_later bA hq6
    replace hu := hu.later hq6
    replace hb := bt5 hb hq6
    clear hq6
    clear c0 c1 c2 c3 c4 c5 c6
    obtain ⟨c0, c1, c2, c3, c4, c5, c6⟩ := set7 bA
    go_wp2_with fail
    refine (cQ _ hb).mono ?_
    rintro q7 w7 ⟨rfl, hq7⟩
    replace bA := blk_later bA hq7
    replace hu := hu.later hq7
    replace hb := bt5 hb hq7
    clear hq7
    clear c0 c1 c2 c3 c4 c5 c6
    obtain ⟨c0, c1, c2, c3, c4, c5, c6⟩ := set7 bA
    clear cA cSa cF cG cP cR cQ
    go_upto_region 11 with fail
    have hQ := HQ.out
    have HT7 := Lib.hid (HTL.out.later hb)
    have HU7 := Lib.hid hu
    have HB7 := Lib.hid hb
    have HBA := Lib.hid bA
    have hlen1 : ([] : List UInt8).length + pl.length ≤ 1000000000 := by rw [← HNP.out]; simp; omega
    have hlen2 : ([] ++ pl).length + tl.length ≤ 1000000000 := by rw [List.nil_append, ← HNP.out, ← HKL.out]; omega
    have HS := Lib.hid (fun (W : World) (hh : Below w7.heap.size w7 W) => (by have h := blk_later HBA.out hh; exact (set7 h).2.2.1 : W.cell? ⟨p, 2, none⟩ = some (.int .i64 st)))
    have HX := Lib.hid (fun (u : Value) (W : World) (hh : Below w7.heap.size w7 W) (hu : Buf w7 W u ([] ++ pl ++ tl)) => (by rw [List.nil_append] at hu; exact cX u W hu.in_.1 hu.in_.2 (bt5 HB7.out hh)))
    clear hu hb bA cX
    go_cut [16, 17, 18] (fun x16 x17 x18 wx => ∃ W9 g fa9 fc9 ba9 bc9, W9 = wx ∧ x16 = .pointer (some ⟨g, 0, none⟩) ∧ x17 = .int .i64 N ∧ x18 = .int .i64 0 ∧ W9.heap[g]? = some (.cells #[.string a0, .string a1, .int .i64 st, .string a3, .int .i64 mi, .slice fa9 n fc9, .slice ba9 X bc9] 28 (0, 0)) ∧ FIn W9 (.slice fa9 n fc9) fs ∧ BIn W9 (.slice ba9 X bc9) x ∧ NilOk (.slice ba9 X bc9) ∧ Below w7.heap.size w7 W9)
    case first =>
      have K0 : Hid (Below w7.heap.size w7 w7.drew) := Lib.hid ((Below.refl _ w7).drew)
      have KA : Hid (Below w7.heap.size w7 (w7.alloc (.cells #[] 5)).drew) := Lib.hid (((Below.refl _ w7).alloc (Nat.le_refl _) _).drew)
      have KB : Hid (Below w7.heap.size w7 (w7.alloc (.cells #[.string ⟨#[]⟩, .string ⟨#[]⟩, .int .i64 0, .string ⟨#[]⟩, .int .i64 0, .slice none 0 0, .slice none 0 0] 28)).drew) := Lib.hid (((Below.refl _ w7).alloc (Nat.le_refl _) _).drew)
      have KAB : Hid (Below w7.heap.size w7 ((w7.alloc (.cells #[] 5)).alloc (.cells #[.string ⟨#[]⟩, .string ⟨#[]⟩, .int .i64 0, .string ⟨#[]⟩, .int .i64 0, .slice none 0 0, .slice none 0 0] 28)).drew) := Lib.hid ((((Below.refl _ w7).alloc (Nat.le_refl _) _).alloc (by simp) _).drew)
      have KBA : Hid (Below w7.heap.size w7 ((w7.alloc (.cells #[.string ⟨#[]⟩, .string ⟨#[]⟩, .int .i64 0, .string ⟨#[]⟩, .int .i64 0, .slice none 0 0, .slice none 0 0] 28)).alloc (.cells #[] 5)).drew) := Lib.hid ((((Below.refl _ w7).alloc (Nat.le_refl _) _).alloc (by simp) _).drew)
      have BA : Hid (Buf w7 (w7.alloc (.cells #[] 5)).drew (.slice (some ⟨w7.heap.size, 0, none⟩) 0 0) []) := Lib.hid (Buf.none_ w7 w7 (Below.refl _ w7)).drew
      have BAB : Hid (Buf w7 ((w7.alloc (.cells #[] 5)).alloc (.cells #[.string ⟨#[]⟩, .string ⟨#[]⟩, .int .i64 0, .string ⟨#[]⟩, .int .i64 0, .slice none 0 0, .slice none 0 0] 28)).drew (.slice (some ⟨w7.heap.size, 0, none⟩) 0 0) []) := Lib.hid ((Buf.none_ w7 w7 (Below.refl _ w7)).alloc _).drew
      have hsz : (w7.alloc (.cells #[.string ⟨#[]⟩, .string ⟨#[]⟩, .int .i64 0, .string ⟨#[]⟩, .int .i64 0, .slice none 0 0, .slice none 0 0] 28)).heap.size = w7.heap.size + 1 := by simp
      have BBA : Hid (Buf w7 ((w7.alloc (.cells #[.string ⟨#[]⟩, .string ⟨#[]⟩, .int .i64 0, .string ⟨#[]⟩, .int .i64 0, .slice none 0 0, .slice none 0 0] 28)).alloc (.cells #[] 5)).drew (.slice (some ⟨w7.heap.size + 1, 0, none⟩) 0 0) []) := Lib.hid (by
        have h := (Buf.none_ w7 (w7.alloc (.cells #[.string ⟨#[]⟩, .string ⟨#[]⟩, .int .i64 0, .string ⟨#[]⟩, .int .i64 0, .slice none 0 0, .slice none 0 0] 28)) ((Below.refl _ w7).alloc (Nat.le_refl _) _)).drew
        rw [hsz] at h
        exact h)
      have ZAB : Hid (((w7.alloc (.cells #[] 5)).alloc (.cells #[.string ⟨#[]⟩, .string ⟨#[]⟩, .int .i64 0, .string ⟨#[]⟩, .int .i64 0, .slice none 0 0, .slice none 0 0] 28)).drew.heap[w7.heap.size + 1]? = some (.cells #[.string ⟨#[]⟩, .string ⟨#[]⟩, .int .i64 0, .string ⟨#[]⟩, .int .i64 0, .slice none 0 0, .slice none 0 0] 28 (0, 0))) := Lib.hid (heap_alloc2_new w7 _ _)
      have ZBA : Hid (((w7.alloc (.cells #[.string ⟨#[]⟩, .string ⟨#[]⟩, .int .i64 0, .string ⟨#[]⟩, .int .i64 0, .slice none 0 0, .slice none 0 0] 28)).alloc (.cells #[] 5)).drew.heap[w7.heap.size]? = some (.cells #[.string ⟨#[]⟩, .string ⟨#[]⟩, .int .i64 0, .string ⟨#[]⟩, .int .i64 0, .slice none 0 0, .slice none 0 0] 28 (0, 0))) := Lib.hid (heap_alloc2_old w7 _ _)
      have HUN := Lib.hid hun
      clear hsz hun
      go_region_held3 (fun w' => w'.cell? ⟨p, 2, none⟩ = some (.int .i64 st))
        (first
          | with_reducible exact HS.out _ K0.out | with_reducible exact HS.out _ KA.out | with_reducible exact HS.out _ KB.out | with_reducible exact HS.out _ KAB.out | with_reducible exact HS.out _ KBA.out
          | with_reducible exact HS.out _ HB1.out.below | with_reducible exact HS.out _ (HB1.out.below.alloc HB1.out.below.size _)
          | with_reducible exact HS.out _ HB2.out.below | with_reducible exact HS.out _ (HB2.out.below.alloc HB2.out.below.size _)
          | with_reducible exact HS.out _ HB3.out | with_reducible exact HS.out _ (HB3.out.alloc HB3.out.size _)
          | (have hh3 := HB3.out; have hhg := HG.out; with_reducible exact HS.out _ (hh3.trans ((sets7_buts _ _ _ _ _ _ _ _ _).below hh3.size hhg hhg))))
        (first
          | (rw [if_pos (by rfl)]; (with_reducible refine appO BA.out (HU7.out.later KA.out) HUN.out hlen1 (.tmp 86) (.tmp 87) ?_ ?_ ?_ ?_); (· rfl); (· rfl); (· rfl); intro v1 W1 hB1 hM1; have HB1 := Lib.hid hB1; clear hB1 hM1 BA BAB BBA ZAB ZBA)
          | (rw [if_pos (by rfl)]; (with_reducible refine appO BAB.out (HU7.out.later KAB.out) HUN.out hlen1 (.tmp 86) (.tmp 87) ?_ ?_ ?_ ?_); (· rfl); (· rfl); (· rfl); intro v1 W1 hB1 hM1; have HB1 := Lib.hid hB1; have HZ1 := Lib.hid (hM1 _ _ ZAB.out); have HG : Hid (w7.heap.size ≤ w7.heap.size + 1) := Lib.hid (Nat.le_succ _); clear hB1 hM1 BA BAB BBA ZAB ZBA)
          | (rw [if_pos (by rfl)]; (with_reducible refine appO BBA.out (HU7.out.later KBA.out) HUN.out hlen1 (.tmp 86) (.tmp 87) ?_ ?_ ?_ ?_); (· rfl); (· rfl); (· rfl); intro v1 W1 hB1 hM1; have HB1 := Lib.hid hB1; have HZ1 := Lib.hid (hM1 _ _ ZBA.out); have HG : Hid (w7.heap.size ≤ w7.heap.size) := Lib.hid (Nat.le_refl _); clear hB1 hM1 BA BAB BBA ZAB ZBA)
          | (rw [if_pos (by rfl)]; (with_reducible refine appO HB1.out (HT7.out.later HB1.out.below) HTN.out hlen2 (.tmp 88) (.tmp 89) ?_ ?_ ?_ ?_); (· rfl); (· rfl); (· rfl); intro v2 W2 hB2 hM2; have HB2 := Lib.hid hB2; (first | (have HZ2 := Lib.hid (hM2 _ _ HZ1.out)) | skip); clear hB2 hM2)
          | (rw [if_pos (by rfl)]; (with_reducible refine appO (HB1.out.alloc _) (HT7.out.later (HB1.out.below.alloc HB1.out.below.size _)) HTN.out hlen2 (.tmp 88) (.tmp 89) ?_ ?_ ?_ ?_); (· rfl); (· rfl); (· rfl); intro v2 W2 hB2 hM2; have HB2 := Lib.hid hB2; have HZ2 := Lib.hid (hM2 _ _ (heap_alloc_new W1 _)); have HG : Hid (w7.heap.size ≤ W1.heap.size) := Lib.hid HB1.out.below.size; clear hB2 hM2)
          | (go_at_call 10; (with_reducible refine (HX.out v2 W2 HB2.out.below HB2.out).mono ?_); rintro e W3 ⟨⟨fa9, fc9, ba9, bc9, rfl, hf9, hx9, hn9, hw9⟩, hb3⟩; have hbz := bt5 HB2.out.below hb3; have HB3 := Lib.hid hbz; first | (have hz := blk_later HZ2.out hb3; obtain ⟨k0, k1, k2, k3, k4, k5, k6⟩ := set7 hz; have z0 := freeM hz 0; have z1 := freeM hz 1; have z2 := freeM hz 2; have z3 := freeM hz 3; have z4 := freeM hz 4; have z5 := freeM hz 5; have z6 := freeM hz 6; have HS3 := Lib.hid (And.intro hf9 (And.intro hx9 (And.intro hn9 (And.intro hbz (And.intro hz (And.intro (fun ad j c h => Nat.ne_of_gt (Nat.lt_of_lt_of_le (lt_of_block HZ2.out) (hw9 ad j c h))) HG.out)))))); clear hz hf9 hx9 hn9 hw9 hb3 hbz) | (have HR := Lib.hid (And.intro hf9 (And.intro hx9 (And.intro hn9 hbz))); clear hf9 hx9 hn9 hw9 hb3 hbz))
          | (go_at_call 10; (with_reducible refine (HX.out v2 (W2.alloc (.cells #[.string ⟨#[]⟩, .string ⟨#[]⟩, .int .i64 0, .string ⟨#[]⟩, .int .i64 0, .slice none 0 0, .slice none 0 0] 28)) (HB2.out.below.alloc HB2.out.below.size _) (HB2.out.alloc _)).mono ?_); rintro e W3 ⟨⟨fa9, fc9, ba9, bc9, rfl, hf9, hx9, hn9, hw9⟩, hb3⟩; have hbz := bt5 (HB2.out.below.alloc HB2.out.below.size _) hb3; have HB3 := Lib.hid hbz; have hz := blk_later (heap_alloc_new W2 _) hb3; have HG : Hid (w7.heap.size ≤ W2.heap.size) := Lib.hid HB2.out.below.size; obtain ⟨k0, k1, k2, k3, k4, k5, k6⟩ := set7 hz; have z0 := freeM hz 0; have z1 := freeM hz 1; have z2 := freeM hz 2; have z3 := freeM hz 3; have z4 := freeM hz 4; have z5 := freeM hz 5; have z6 := freeM hz 6; have HS3 := Lib.hid (And.intro hf9 (And.intro hx9 (And.intro hn9 (And.intro hbz (And.intro hz (And.intro (fun ad j c h => Nat.ne_of_gt (Nat.lt_of_lt_of_le (show W2.heap.size < (W2.alloc (.cells #[.string ⟨#[]⟩, .string ⟨#[]⟩, .int .i64 0, .string ⟨#[]⟩, .int .i64 0, .slice none 0 0, .slice none 0 0] 28)).heap.size by simp) (hw9 ad j c h))) HG.out)))))); clear hz hf9 hx9 hn9 hw9 hb3 hbz))
      all_goals go_wp2_with fail
      all_goals go_meet
      all_goals (case rel => first
        | (obtain ⟨hf, hx, hn, hbz⟩ := HR.out
           have hq := (Below.refl _ W3).alloc (Nat.le_refl _) (.cells #[.string a0, .string a1, .int .i64 st, .string a3, .int .i64 mi, .slice fa9 n fc9, .slice ba9 X bc9] 28)
           exact ⟨_, W3.heap.size, fa9, fc9, ba9, bc9, rfl, rfl, rfl, rfl, heap_alloc_new W3 _, hf.later hq, hx.later hq, hn, hbz.alloc hbz.size _⟩)
        | (obtain ⟨W, hW, h1, h2, h3, h4, h5⟩ := two_done a0 a1 a3 st mi HS3.out
           exact ⟨W, _, fa9, fc9, ba9, bc9, hW, rfl, rfl, rfl, h5, h1, h2, h3, h4⟩))
    case rest =>
      obtain ⟨W9, g, fa9, fc9, ba9, bc9, rfl, rfl, rfl, rfl, yD, hf9, hx9, hn9', hbx'⟩ := hcut
      replace hb := bt5 HB7.out hbx'
      have bA := blk_later HBA.out hbx'
      have hux := HU7.out.later hbx'
      clear hbx' HX HS
      obtain ⟨c0, c1, c2, c3, c4, c5, c6⟩ := set7 bA
      obtain ⟨k0, k1, k2, k3, k4, k5, k6⟩ := set7 yD
      have m0 := fun pp : LateOf W9 => pp.cell c0
      have m1 := fun pp : LateOf W9 => pp.cell c1
      have m2 := fun pp : LateOf W9 => pp.cell c2
      have m3 := fun pp : LateOf W9 => pp.cell c3
      have m4 := fun pp : LateOf W9 => pp.cell c4
      have m5 := fun pp : LateOf W9 => pp.cell c5
      have m6 := fun pp : LateOf W9 => pp.cell c6
      have n0 := fun pp : LateOf W9 => pp.cell k0
      have n1 := fun pp : LateOf W9 => pp.cell k1
      have n2 := fun pp : LateOf W9 => pp.cell k2
      have n3 := fun pp : LateOf W9 => pp.cell k3
      have n4 := fun pp : LateOf W9 => pp.cell k4
      have n5 := fun pp : LateOf W9 => pp.cell k5
      have n6 := fun pp : LateOf W9 => pp.cell k6
      have l0 := fun pp : LateOf W9 => (hux.later pp.h).all hun
      have l1 := fun pp : LateOf W9 => cY pp.w (bt5 hb pp.h)
      have l2 := fun pp : LateOf W9 => cE fa9 fc9 ba9 bc9 pp.w (hf9.later pp.h) (hx9.later pp.h) hn9' (bt5 hb pp.h)
      have HB := Lib.hid hb
      obtain ⟨T, hT⟩ : ∃ T, str pl = T := ⟨_, rfl⟩
      rw [hT] at l0 l1
      clear c0 c1 c2 c3 c4 c5 c6 k0 k1 k2 k3 k4 k5 k6 hb bA yD hux hf9 hx9 hn9' hun cY cE hT
      go_upto_region 12 with fail
      refine wp_region_late (by kernel_rfl) (by kernel_rfl) ?_
      repeat (quiet_step (fail))
      quiet_step ((go_at_call 19; exact late _ (l1 _)))
      repeat (quiet_step (fail))
      quiet_step ((go_at_call 12; exact late _ (l2 _)))
      repeat (quiet_step (fail))
      refine wpQuiet_nil ?_
      intro w6 hw6
      have hB : Below w.heap.size w w6 := by obtain ⟨pp, rfl⟩ := hw6; exact bt5 HB.out pp.h
      clear hw6 m0 m1 m2 m3 m4 m5 m6 n0 n1 n2 n3 n4 n5 n6 l0 l1 l2
      go_wp2_with fail
      go_ret
      exact ⟨rfl, by first | exact hB | (rw [HPP.out]; exact hB)⟩
set_option maxHeartbeats 6400000 in
set_option maxRecDepth 100000 in
/-- The same, its arguments as they come in. -/
theorem mprints_w {Env : World → Prop} (P : Prog8 Env) (s : St.S) (fv bv : Value) (fs : List Fld.F) (x : List UInt8) (mm : ByteArray) (v : Value) (l : List UInt8) (w : World) (hF : FIn w fv fs) (_hn : NilOk fv) (hx : BIn w bv x) (hxn : NilOk bv) (z4 : s.status ≤ 9223372036854775807) (z5 : s.minor ≤ 9223372036854775807) (_hm : mm.size ≤ 9223372036854775807) (h : BIn w v l) (hn : NilOk v) (hE : Env w) :
    Calls Tryz.prog 4 #[mval s fv bv, .string mm, v] w fun e w' => e = .returned (.bool true) ∧ Below w.heap.size w w' := by
  obtain ⟨m, rfl⟩ : ∃ m, mm = str m := ⟨mm.data.toList, (str_of mm).symm⟩
  have hs0 : (s.status == 0) = decide (s.status = 0) := by
    by_cases h : s.status = 0
    · rw [h]; rfl
    · rw [decide_eq_false h]; exact beq_eq_false_iff_ne.2 h
  obtain ⟨ao, tc, rfl⟩ : ∃ a c, v = .slice a l.length c := by obtain ⟨a, c, h, _⟩ := h; exact ⟨a, c, h⟩
  have cA := fun (W : World) (hb : Below w.heap.size w W) => mawake_w P.toRead8 W (P.later hE hb)
  have cSa := fun (W : World) (hb : Below w.heap.size w W) => small_w s fv bv fs x m W (hF.later hb) (hx.later hb)
  refine prints_core (n := fs.length) (X := x.length) (K := l.length) (N := (if Ms.right ⟨s, fs, x⟩ m = true then Ms.print ⟨s, fs, x⟩ m else []).length) (rr := Ms.right ⟨s, fs, x⟩ m) (pl := if Ms.right ⟨s, fs, x⟩ m = true then Ms.print ⟨s, fs, x⟩ m else []) (tl := l) (fs := fs) (x := x) (kd := (Ms.framed s fs m).1) (sz := (Ms.framed s fs m).2.1) (er := (Ms.framed s fs m).2.2) w rfl h hn rfl cA cSa (fun hs h3 => ?_)
  have q := smallB_sm hs z4 z5
  have q1 := q.count
  have q2 := q.body
  have q3 := q.asked
  have q4 := q.method
  have q5 := q.target
  have q6 := q.reason
  have h3' : l.length ≤ 300 := by omega
  refine ⟨fun W hb => P.framing s fv bv fs x m W q (hF.later hb) (hx.later hb) hxn (P.later hE hb), fun W hb => framing_w s fv bv fs m W (hF.later hb) q.small (by omega) (by omega), fun W hb => ?_, fun W hb => right_w s fv bv fs x m W (hF.later hb) q.small (by omega) (hx.later hb) hxn (by omega) (by omega) (by omega) (by omega) (by omega), fun W hb => P.right s fv bv fs x m W q (hF.later hb) (hx.later hb) hxn (P.later hE hb), fun hr => by rw [hr]; rfl, ?_, rfl, fun hr => ?_⟩
  · refine (P.print s fv bv fs x m W q (hF.later hb) (hx.later hb) hxn (P.later hE hb)).mono ?_
    rintro e w' ⟨⟨u, he, hu, hun⟩, hb'⟩
    obtain ⟨ua, uc, hv⟩ : ∃ a c, u = .slice a (if Ms.right ⟨s, fs, x⟩ m = true then Ms.print ⟨s, fs, x⟩ m else []).length c := by obtain ⟨a, c, h, _⟩ := hu; exact ⟨a, c, h⟩
    rw [hv] at he hu hun
    exact ⟨⟨ua, uc, he, hu, hun⟩, hb'⟩
  · cases hr : Ms.right ⟨s, fs, x⟩ m with
    | false => simp
    | true => have := (right_len hr q2).1; simp only [if_true]; omega
  · obtain ⟨r1, r2, r3⟩ := right_len hr q2
    have e : (if Ms.right ⟨s, fs, x⟩ m = true then Ms.print ⟨s, fs, x⟩ m else []) = Ms.print ⟨s, fs, x⟩ m := if_pos hr
    rw [e]
    refine ⟨fun u W hu hun hb => ?_, fun W hb => print_w s fv bv fs x m W (hF.later hb) q.small (by omega) (hx.later hb) hxn (by omega) (by omega) (by omega) (by omega) (by omega) z4 z5 (by omega) (by omega), fun fa9 fc9 ba9 bc9 W h1 h2 h3 hb => ?_⟩
    · have h := P.parse_new u _ (s.status == 0) m W (by rw [List.length_append]; omega) q3 hu hun (P.later hE hb)
      rw [hs0, Ms.parse_print hr l] at h
      rw [hs0]
      exact h
    · have h := same_w s s (.slice fa9 fs.length fc9) (.slice ba9 x.length bc9) fv bv fs fs x x W h1 (hF.later hb) h2 h3 (hx.later hb) hxn (by omega)
      rw [sameF_self, decide_eq_true (rfl : s = s), decide_eq_true (rfl : x = x)] at h
      exact h
end Go.Proofs.YtlbjjeonchcgbaaGreatDoor
