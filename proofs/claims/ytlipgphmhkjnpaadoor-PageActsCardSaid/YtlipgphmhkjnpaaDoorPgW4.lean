/- The program's package page: Sectors: a range over the library's iterator slices.Chunk. -/
import Derived.Test.YtlipgphmhkjnpaaDoorPgW3
import Derived.RangeFuncNested
import Derived.RangeFuncBound
import Derived.RangeFuncCalls
import Derived.RangeFuncLeaves
import Derived.RangeFuncBox
import Derived.Shelf.Abstract
import Derived.Shelf.RegionOpen
import Derived.OwnWalkIn
import Derived.TacticsInMore
import Derived.LoopNIn
import Derived.LoopIn
import Derived.Maps.AppendAt
namespace Go.Proofs.YtlipgphmhkjnpaaDoor
open Go.RowKit Go.Shelf
attribute [local go_sem] Oper.semAt_some

/-- A part of what was handed in: at most 64 octets, which read so wherever what lay then lies. -/
abbrev Prt (w : World) := {x : Value × List UInt8 // x.2.length ≤ 64 ∧ NilOk x.1 ∧ ∀ W', Below w.heap.size w W' → BIn W' x.1 x.2}
def prts {w : World} (l : List (Prt w)) : List (List UInt8) := l.map fun x => Pg.pad x.1.2
theorem prts_snoc {w : World} (l : List (Prt w)) (x : Prt w) : prts (l ++ [x]) = prts l ++ [Pg.pad x.1.2] := by unfold prts; rw [List.map_append]; rfl
/-- What a round that goes on keeps: what lay, and the iterator's two boxes. -/
def KP (n₀ b1 b2 : Nat) (A B : World) : Prop := Below n₀ A B ∧ B.heap[b1]? = A.heap[b1]? ∧ B.heap[b2]? = A.heap[b2]?
theorem KP.t {n₀ b1 b2 : Nat} {A B C : World} (h : KP n₀ b1 b2 A B) (k : KP n₀ b1 b2 B C) : KP n₀ b1 b2 A C := ⟨h.1.trans k.1, k.2.1.trans h.2.1, k.2.2.trans h.2.2⟩
theorem KP.b {n₀ b1 b2 : Nat} {w : World} (hn : n₀ ≤ w.heap.size) (h1 : b1 < w.heap.size) (h2 : b2 < w.heap.size) (W : World) (l : Nat) (o o' : Obj) (hl : w.heap.size ≤ l) (h : W.heap[l]? = some o) (hc : o.isCells = false) (hw : o.isWalk = false) : KP n₀ b1 b2 W (W.putObj l o') :=
  ⟨belowK_b hn W l o o' hl h hc hw, World.putObj_heap_other (by omega), World.putObj_heap_other (by omega)⟩
theorem grown_drew (W : World) : W.grownBy W.drew none := ⟨rfl, rfl, rfl, Nat.le_refl _, fun _ _ _ => rfl⟩

set_option maxHeartbeats 1000000 in
set_option maxRecDepth 100000 in
/-- slices.Chunk(s, 64): both boxed, and captured. -/
theorem chunk_in (F : Fence) (n : Nat) (h48 : F.fn 48) (hro : F.round = none) (a : Option Addr) (len cap : Nat) (w : World) :
    CallsIn F n Tryd.prog 48 #[.slice a len cap, .int .i64 64] w fun e w' => e = .returned (.func (.func 58) #[] #[.pointer (some ⟨w.heap.size, 0, none⟩), .pointer (some ⟨w.heap.size + 1, 0, none⟩)]) ∧ w' = (w.alloc (.cells #[.slice a len cap] 23)).alloc (.cells #[.int .i64 64] 3) := by
  refine callsIn_of_wp Tryd.func48 rfl h48 ?_ hro
  simp only [Tryd.ntmps48, List.size_toArray, List.length_cons, List.length_nil, Nat.reduceAdd, Nat.reduceSub, Array.replicate_succ, Array.replicate_zero, List.push_toArray, List.append_toArray, List.nil_append, List.cons_append]
  gi_wp2
  go_ret
  exact ⟨rfl, rfl⟩

set_option maxHeartbeats 4000000 in
set_option maxRecDepth 100000 in
/-- Its closure. -/
theorem chunk1_in (F : Fence) (n : Nat) (h58 : F.fn 58) (hro : F.round = none) (hn : 1 ≤ n) (l b1 b2 : Nat) (w : World) (ao : Option Addr) (L cap : Nat) (s : List UInt8) (hs : BIn w (.slice ao L cap) s) (J Jx : List (Prt w) → World → Prop)
    (hJd : ∀ pre W, J pre W → J pre W.drew)
    (hY : ∀ pre (x : Prt w) W, J pre W → pre.length < (L + 63) / 64 → YieldAt F (n - 1) Tryd.prog l #[x.1.1] W fun e W' =>
      (e = .returned (.bool true) ∧ J (pre ++ [x]) W' ∧ KP w.heap.size b1 b2 W W') ∨ (e = .returned (.bool false) ∧ Jx (pre ++ [x]) W'))
    (W : World) (hw : Below w.heap.size w W) (hc1 : W.cell? ⟨b1, 0, none⟩ = some (.slice ao L cap)) (hc2 : W.cell? ⟨b2, 0, none⟩ = some (.int .i64 64)) (hL6 : L ≤ 1000000) (h0 : J [] W) :
    CallsIn F n Tryd.prog 58 #[.func (.yield l) #[] #[], .pointer (some ⟨b1, 0, none⟩), .pointer (some ⟨b2, 0, none⟩)] W fun e W' => (∃ v, e = .returned v) ∧
      ((∃ ys : List (Prt w), prts ys = Pg.sectors s ∧ J ys W') ∨ (∃ pre, True ∧ Jx pre W')) := by
  have HJD := Lib.hid hJd
  have HY := Lib.hid hY
  have HS := Lib.hid hs
  obtain ⟨ao', cap', hv, hlc, hc9, hg⟩ := hs
  obtain ⟨hv1, hL, hv3⟩ : ao = ao' ∧ L = s.length ∧ cap = cap' := by injection hv with h1 h2 h3; exact ⟨h1, h2, h3⟩
  subst hv1 hv3
  have HL := Lib.hid hL
  have HG := Lib.hid hg
  rw [← hL] at hlc
  clear hJd hY hg hL hv
  refine callsIn_of_wp Tryd.func58 rfl h58 ?_ hro
  simp only [Tryd.ntmps58, List.size_toArray, List.length_cons, List.length_nil, Nat.reduceAdd, Nat.reduceSub, Array.replicate_succ, Array.replicate_zero, List.push_toArray, List.append_toArray, List.nil_append, List.cons_append]
  gi_wp2
  gi_loopw [4] (fun i wr => ∃ (k : Nat) (pre : List (Prt w)), 64 * k < L + 64 ∧ i = .int .i64 ((64 * k : Nat) : Int) ∧ pre.length = k ∧ Hid (prts pre = Pg.secs k s) ∧ J pre wr ∧ Hid (Below w.heap.size w wr) ∧ wr.cell? ⟨b1, 0, none⟩ = some (.slice ao L cap) ∧ wr.cell? ⟨b2, 0, none⟩ = some (.int .i64 64)) (fun i _ => L + 64 - (intOf i).toNat)
  case atStart => exact ⟨0, [], by omega, rfl, rfl, Lib.hid rfl, h0, Lib.hid hw, hc1, hc2⟩
  case round =>
    obtain ⟨k, pre, hk, rfl, hpl, HP, hJ, HW, q1, q2⟩ := hrel
    clear hc1 hc2 h0 hw
    obtain ⟨K, hK⟩ : ∃ K, K = 64 * k := ⟨_, rfl⟩
    have HK := Lib.hid hK
    rw [← hK] at hk ⊢
    clear hK
    by_cases hlt : K < L
    · have hki : (K : Int) < L := by omega
      have hs0 : s ≠ [] := fun e => by have := HL.out; rw [e] at this; simp at this; omega
      obtain ⟨b, o, hao, hb, hcell⟩ := HG.out.resolve_left hs0
      subst hao
      obtain ⟨q, hq⟩ : ∃ q, q = min 64 (L - K) := ⟨_, rfl⟩
      have HQ := Lib.hid hq
      have hq1 : 1 ≤ q ∧ q ≤ 64 ∧ K + q ≤ L := by omega
      obtain ⟨X, hX⟩ : ∃ X, X = (s.drop K).take 64 := ⟨_, rfl⟩
      have HX := Lib.hid hX
      have hXl : X.length = q := by rw [hX, List.length_take, List.length_drop, ← HL.out]; omega
      obtain ⟨x, hx⟩ : ∃ x : Prt w, x.1 = (.slice (some ⟨b, o + K, none⟩) q q, X) := ⟨⟨(.slice (some ⟨b, o + K, none⟩) q q, X), by show X.length ≤ 64; omega, some_ok _ _ _, fun W' hW' => ⟨_, q, by rw [hXl], by rw [hXl]; exact Nat.le_refl _, by omega, .inr ⟨b, o + K, rfl, Nat.lt_of_lt_of_le hb hW'.size, fun j hj => by
        have hj2 : K + j < s.length := by rw [← HL.out]; rw [hXl] at hj; omega
        have := hcell (K + j) hj2
        rw [← Nat.add_assoc] at this
        rw [cell_later hW' this]
        simp [hX]⟩⟩⟩, rfl⟩
      have hJ2 := HJD.out pre wr hJ
      obtain ⟨fn, tmps, assign, body, hy, hR⟩ := HY.out pre x wr.drew hJ2 (by rw [hpl]; have := HK.out; omega)
      rw [hx] at hy
      dsimp only at hy
      clear hcell
      clear hX hXl hq HS HG hs0
      have hck : ¬ cap = K := by omega
      have hKL : K ≤ L := by omega
      have hmin : min (64 : Int) ((L - K : Nat) : Int) = (q : Int) := by have := HQ.out; omega
      have hkq : K + q ≤ cap := by omega
      gi_wp2
      gi_region
      all_goals
        gi_wp2
        refine hR.mono ?_
        rintro e W3 (⟨rfl, hJ3, hk3⟩ | ⟨rfl, hJx3⟩)
        · have p1 : W3.cell? ⟨b1, 0, none⟩ = some (.slice (some ⟨b, o, none⟩) L cap) := (World.cell?_of_block (a := ⟨b1, 0, none⟩) hk3.2.1).trans q1
          have p2 : W3.cell? ⟨b2, 0, none⟩ = some (.int .i64 64) := (World.cell?_of_block (a := ⟨b2, 0, none⟩) hk3.2.2).trans q2
          have hb3 := HW.out.drew.trans hk3.1
          gi_wp2
          go_roundw
          case rel => exact ⟨k + 1, pre ++ [x], by have := HK.out; omega, by have := HK.out; go_num, by rw [List.length_append, hpl]; rfl, Lib.hid (by rw [prts_snoc, HP.out, Pg.secs_snoc, hx, HX.out, HK.out]), hJ3, Lib.hid hb3, p1, p2⟩
          case measure => simp [intOf]; omega
        · gi_wp2
          refine bodyPost_ret (results_none rfl _ _ _) rfl ?_
          exact ⟨⟨_, rfl⟩, .inr ⟨pre ++ [x], trivial, hJx3⟩⟩
    · have hki : ¬ (K : Int) < L := by omega
      have HE : Hid (prts pre = Pg.sectors s) := Lib.hid (by
        rw [HP.out]; unfold Pg.sectors; congr 1; have := HK.out; have := HL.out; omega)
      gi_wp2
      go_end0
      exact ⟨⟨_, rfl⟩, .inl ⟨pre, HE.out, hJ⟩⟩
end Go.Proofs.YtlipgphmhkjnpaaDoor
