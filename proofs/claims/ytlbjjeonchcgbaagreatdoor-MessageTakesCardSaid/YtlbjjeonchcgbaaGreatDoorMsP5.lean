/- Package message, the program: of the body is taken what is there. -/
import Derived.Test.YtlbjjeonchcgbaaGreatDoorMsP4
namespace Go.Proofs.YtlbjjeonchcgbaaGreatDoor
open Go.RowKit

set_option maxHeartbeats 6400000 in
set_option maxRecDepth 100000 in
theorem BClone_w (v : Value) (l : List UInt8) (w : World) (h : BIn w v l) (hn : NilOk v) (hl : l.length ≤ 100000000) :
    Calls Tryz.prog 94 #[v] w fun e w' => ∃ u, e = .returned u ∧ Buf w w' u l := by
  have H := Lib.hid h
  have HN := Lib.hid hn
  obtain ⟨ao, c, rfl, h1, h2, hg⟩ := h
  have hlen : ([] : List UInt8).length + l.length ≤ 1000000000 := by simp; omega
  cases ao with
  | none =>
    have h0 : l = [] := by
      rcases hg with h | ⟨b, o, h, _⟩
      · exact h
      · cases h
    subst h0
    have := hn c rfl
    subst this
    clear hn hl h1 h2 hg hlen
    have he : (binOp BinOp.eql 22 (.slice none 0 0) (.slice none 0 0)).run Tryz.prog w = .ok (.bool true) w := by kernel_rfl
    go_enter Tryz.func94, Tryz.ntmps94
    go_wp2_with fail
    go_ret
    exact ⟨_, rfl, Buf.nil w⟩
  | some ad =>
    clear hn hg
    generalize hL : l.length = L at *
    have he : (binOp BinOp.eql 22 (.slice (some ad) L c) (.slice none 0 0)).run Tryz.prog w = .ok (.bool false) w := by kernel_rfl
    go_enter Tryz.func94, Tryz.ntmps94
    go_wp2_with (at_builtin; refine appBs (Buf.none_ w w (Below.refl _ _)) (H.out.later ((Below.refl _ w).alloc (Nat.le_refl _) _)) HN.out (by rw [hL]; exact hlen) rfl (.tmp 5) (.tmp 6) rfl rfl rfl ?_; intro v2 w2 hB2 _)
    go_ret
    exact ⟨_, rfl, hB2⟩

set_option maxHeartbeats 6400000 in
set_option maxRecDepth 100000 in
theorem takeBody_none {g : Nat} {a : Int} {cs : Array Value} (v : Value) (w : World) (hR : RB w g cs) (ha : cs[0]? = some (.int .i64 a)) (h2 : a ≠ 2) (h3 : a ≠ 3) :
    Calls Tryz.prog 73 #[.pointer (some ⟨g, 0, none⟩), v] w fun x w' => x = .returned (.tuple #[.slice none 0 0, .int .i64 0, .int .i64 0]) ∧ w = w' := by
  have c0 := (hR.cell 0).trans ha
  have e2 : (a == 2) = false := beq_eq_false_iff_ne.2 h2
  have e3 : (a == 3) = false := beq_eq_false_iff_ne.2 h3
  clear h2 h3 ha hR
  go_enter Tryz.func73, Tryz.ntmps73
  go_wp2_with fail
  go_ret3
  exact ⟨rfl, rfl⟩

theorem row_base {w : World} {b b' : Nat} {e : TypeId} {s n : Nat} {v : Value} {xs : List Value} (h : w.ownsRow b e s v n xs) (hb : b' ≤ b) : w.ownsRow b' e s v n xs := by
  refine ⟨h.1, ?_⟩
  rcases h.2 with h0 | ⟨g, cap, cur, hv, hg, rest⟩
  · exact .inl h0
  · exact .inr ⟨g, cap, cur, hv, Nat.le_trans hb hg, rest⟩
set_option maxHeartbeats 6400000 in
set_option maxRecDepth 100000 in
theorem takeBody_sized {g n : Nat} {asks hd : Bool} {dv : Value} {x1 x2 x3 x4 x5 : Value} {fa : Option Addr} {N fc : Nat} (v : Value) (l : List UInt8) (w : World) (hR : RB w g #[.int .i64 2, x1, x2, x3, x4, x5, .slice fa N fc, .slice none 0 0, .int .i64 n, dv, .bool asks, .bool hd, .int .i64 0]) (hn20 : n ≤ 1048576) (hoc : ∀ j x, w.cell? ⟨g, j, none⟩ ≠ some (.int .u8 x)) (hl : l.length ≤ 1000000) (h : BIn w v l) (hn : NilOk v) :
    Calls Tryz.prog 73 #[.pointer (some ⟨g, 0, none⟩), v] w fun x w' => ∃ u, x = .returned (.tuple #[u, .int .i64 (l.take n).length, .int .i64 0]) ∧ w'.ownsRow w.heap.size 5 1 u (l.take n).length (Lib.byteCells (l.take n)) ∧ Buts g g w w' ∧
      RB w' g #[.int .i64 (if n - (l.take n).length = 0 then 4 else 2), x1, x2, x3, x4, x5, .slice fa N fc, .slice none 0 0, .int .i64 (n - (l.take n).length : Nat), dv, .bool asks, .bool hd, .int .i64 0] := by
  have h0 := h
  obtain ⟨ao, c, rfl, hlc, hc9, hg⟩ := h
  have hnil := hn
  have hoct := hoc
  obtain ⟨L, hL⟩ : ∃ L, L = l.length := ⟨_, rfl⟩
  rw [← hL] at hlc h0 ⊢
  obtain ⟨M, hM⟩ : ∃ M, M = min L n := ⟨_, rfl⟩
  have hmin : min (L : Int) (n : Int) = (M : Int) := by omega
  have hML : M ≤ L := by omega
  have hMn : M ≤ n := by omega
  have hMc : M ≤ c := by omega
  have htl : (l.take n).length = M := by rw [List.length_take, ← hL, hM]; omega
  have hbt : ∀ W, BIn W (.slice ao L c) l → BIn W (.slice ao M c) (l.take n) := by
    intro W hW
    obtain ⟨ao', c', hv, q1, q2, q3⟩ := hW
    injection hv with v1 v2 v3
    subst v1 v3
    refine ⟨ao, c, by rw [htl], by omega, by omega, ?_⟩
    rcases q3 with q | ⟨b, o, r1, r2, r3⟩
    · left; rw [q]; exact List.take_nil
    · right
      refine ⟨b, o, r1, r2, fun j hj => ?_⟩
      rw [r3 j (by omega)]
      simp
  have hnm : NilOk (.slice ao M c) := by
    intro k hk
    injection hk with k1 k2 k3
    subst k1
    rcases hg with q | ⟨b, o, r1, _⟩
    · subst q
      have : L = 0 := hL
      subst this
      have := hnil c rfl
      omega
    · cases r1
  have HBT := Lib.hid hbt
  have HNM := Lib.hid hnm
  have HL := Lib.hid hL
  have HM := Lib.hid hM
  have HTL := Lib.hid htl
  have HOC := Lib.hid hoct
  have HV := Lib.hid h0
  have HR := Lib.hid hR
  have hzt : (l.take n).length ≤ 100000000 := by rw [htl]; omega
  have HZT := Lib.hid hzt
  have hn9 : (n : Int) ≤ 1048576 := by omega
  have hM9 : (M : Int) ≤ 1048576 := by omega
  obtain ⟨D, hD⟩ : ∃ D : Nat, n - M = D := ⟨_, rfl⟩
  have hw1 : IntKind.i64.wrap ((n : Int) - (M : Int)) = (D : Int) := by rw [IntWalk.i64_in _ (by omega)]; omega
  obtain ⟨A, hA⟩ : ∃ A : Int, (if D = 0 then (4 : Int) else 2) = A := ⟨_, rfl⟩
  rw [htl, hD, hA]
  have HD := Lib.hid hD
  have HA := Lib.hid hA
  have hnM : (n : Int) - (M : Int) = (D : Int) := by omega
  obtain ⟨c0, _, _, _, _, _, _, _, c8, _, _, _, _⟩ := hR.set13
  have f8 := hR.free 8
  clear hn hg hnil hoct hoc htl hbt hnm hL hM hR h0 hzt hl hn20 hD hA
  go_enter Tryz.func73, Tryz.ntmps73
  go_upto_region 5 with fail
  have hR1 := HR.out.put 8 (.int .i64 (D : Int))
  have hU1 : Buts g g w (w.setCell ⟨g, 8, none⟩ (.int .i64 (D : Int))) := (Buts.refl g g w).put 8 _
  generalize w.setCell ⟨g, 8, none⟩ (.int .i64 (D : Int)) = w1 at *
  have HR1 : Hid (RB w1 g #[.int .i64 2, x1, x2, x3, x4, x5, .slice fa N fc, .slice none 0 0, .int .i64 D, dv, .bool asks, .bool hd, .int .i64 0]) := Lib.hid hR1
  have HU1 := Lib.hid hU1
  obtain ⟨d0, _, _, _, _, _, _, _, d8, _, _, _, _⟩ := HR1.out.set13
  have f0 := HR1.out.free 0
  clear c0 c8 f8 hR1 hU1 hw1
  by_cases hz : D = 0
  · have HA4 : Hid (A = 4) := Lib.hid (HA.out.symm.trans (if_pos hz))
    have d8' : w1.cell? ⟨g, 8, none⟩ = some (.int .i64 ((0 : Nat) : Int)) := by rw [d8, hz]
    clear d8 HA hz
    go_upto_region 7 with fail
    have hR2 := HR1.out.put 0 (.int .i64 4)
    have hU2 : Buts g g w1 (w1.setCell ⟨g, 0, none⟩ (.int .i64 4)) := (Buts.refl g g w1).put 0 _
    generalize w1.setCell ⟨g, 0, none⟩ (.int .i64 4) = w2 at *
    have HR2 : Hid (RB w2 g #[.int .i64 4, x1, x2, x3, x4, x5, .slice fa N fc, .slice none 0 0, .int .i64 D, dv, .bool asks, .bool hd, .int .i64 0]) := Lib.hid hR2
    have HU2 : Hid (Buts g g w w2) := Lib.hid (HU1.out.trans hU2)
    have hb2 := HV.out.buts HU2.out HOC.out HOC.out
    have hb3 := HBT.out w2 hb2
    have cC := BClone_w (.slice ao M c) (l.take n) w2 hb3 HNM.out HZT.out
    clear d0 d8' f0 hR2 hU2 hb2 hb3
    go_wp2_with fail
    refine cC.mono ?_
    rintro x w3 ⟨u, rfl, hB3⟩
    have HB3 := Lib.hid hB3
    clear cC hB3
    go_wp2_with fail
    go_ret3
    refine ⟨u, rfl, ?_, HU2.out.more HB3.out.2, ?_⟩
    · have := HB3.out.1
      rw [HTL.out] at this
      exact row_base this HU2.out.size
    · rw [HA4.out]
      exact HR2.out.later HB3.out.2
  · have hzb : (((D : Int)) == 0) = false := beq_eq_false_iff_ne.2 (by omega)
    have HA4 : Hid (A = 2) := Lib.hid (HA.out.symm.trans (if_neg hz))
    clear HA
    go_upto_region 7 with fail
    have hb2 := HV.out.buts HU1.out HOC.out HOC.out
    have hb3 := HBT.out w1 hb2
    have cC := BClone_w (.slice ao M c) (l.take n) w1 hb3 HNM.out HZT.out
    clear d0 d8 f0 hzb hz hb2 hb3
    go_wp2_with fail
    refine cC.mono ?_
    rintro x w3 ⟨u, rfl, hB3⟩
    have HB3 := Lib.hid hB3
    clear cC hB3
    go_wp2_with fail
    go_ret3
    refine ⟨u, rfl, ?_, HU1.out.more HB3.out.2, ?_⟩
    · have := HB3.out.1
      rw [HTL.out] at this
      exact row_base this HU1.out.size
    · rw [HA4.out]
      exact HR1.out.later HB3.out.2


set_option maxHeartbeats 6400000 in
set_option maxRecDepth 100000 in
theorem takeBody_bad {g d n : Nat} {asks hd : Bool} {x1 x2 x3 x4 x5 : Value} {fa : Option Addr} {N fc : Nat} (c : Ck.S) (v : Value) (l : List UInt8) (w : World) (hR : RB w g #[.int .i64 3, x1, x2, x3, x4, x5, .slice fa N fc, .slice none 0 0, .int .i64 n, .pointer (some ⟨d, 0, none⟩), .bool asks, .bool hd, .int .i64 0]) (hne : d ≠ g) (hmd : 1 ≠ d) (hD : Dst w d c 0) (hm : MaxOk w) (hl : l.length ≤ 1000000) (h : BIn w v l) {e : Int} (he : (Ck.go c l).2.2.2 = e) (h0 : e ≠ 0) :
    Calls Tryz.prog 73 #[.pointer (some ⟨g, 0, none⟩), v] w fun x w' => (∃ u, x = .returned (.tuple #[u, .int .i64 0, .int .i64 e])) ∧ Buts g d w w' ∧ RB w' g #[.int .i64 3, x1, x2, x3, x4, x5, .slice fa N fc, .slice none 0 0, .int .i64 n, .pointer (some ⟨d, 0, none⟩), .bool asks, .bool hd, .int .i64 0] := by
  have cF := feed_w d c v l w (by omega) h hD hm hmd
  unfold Says at cF
  have hfd : Ck.fed c l = ([], 0, false, e) := by unfold Ck.fed; rw [if_pos (by rw [he]; exact h0), he]
  rw [hfd] at cF
  clear hfd he h0
  obtain ⟨c0, _, _, _, _, _, _, _, _, c9, _, _, _⟩ := hR.set13
  have HR := Lib.hid hR
  have HNE := Lib.hid hne
  clear hR hne hmd hD hm hl h
  go_enter Tryz.func73, Tryz.ntmps73
  go_wp2_with fail
  refine cF.mono ?_
  rintro x w1 ⟨⟨u, rfl, hrow⟩, hb1, hd1⟩
  have hR1 := HR.out.same (hb1.block g HR.out.lt (Ne.symm HNE.out))
  obtain ⟨d0, _, _, _, _, _, _, _, _, _, _, _, _⟩ := hR1.set13
  have f0 := hR1.free 0
  have HR1 := Lib.hid hR1
  have HROW := Lib.hid hrow
  have HB1 := Lib.hid hb1
  have HD1 := Lib.hid hd1
  clear hR1 hrow hb1 hd1 cF c0 c9
  go_wp2_with fail
  go_ret3
  exact ⟨⟨u, rfl⟩, Buts.ofBut HB1.out, HR1.out⟩

set_option maxHeartbeats 6400000 in
set_option maxRecDepth 100000 in
theorem takeBody_chunk {g d n : Nat} {asks hd : Bool} {x1 x2 x3 x4 x5 : Value} {fa : Option Addr} {N fc : Nat} (c : Ck.S) (v : Value) (l : List UInt8) (w : World) (hR : RB w g #[.int .i64 3, x1, x2, x3, x4, x5, .slice fa N fc, .slice none 0 0, .int .i64 n, .pointer (some ⟨d, 0, none⟩), .bool asks, .bool hd, .int .i64 0]) (hne : d ≠ g) (hmd : 1 ≠ d) (hD : Dst w d c 0) (hm : MaxOk w) (hl : l.length ≤ 1000000) (h : BIn w v l) {x0 : List UInt8} {k : Nat} {s' : Ck.S} (hgo : Ck.go c l = (x0, k, s', 0)) :
    Calls Tryz.prog 73 #[.pointer (some ⟨g, 0, none⟩), v] w fun x w' => ∃ u, x = .returned (.tuple #[u, .int .i64 k, .int .i64 0]) ∧ w'.ownsRow w.heap.size 5 1 u x0.length (Lib.byteCells x0) ∧ Buts g d w w' ∧ RB w' g #[.int .i64 (if Ck.isOver s' = true then 4 else 3), x1, x2, x3, x4, x5, .slice fa N fc, .slice none 0 0, .int .i64 n, .pointer (some ⟨d, 0, none⟩), .bool asks, .bool hd, .int .i64 0] ∧ Dst w' d s' 0 := by
  have cF := feed_w d c v l w (by omega) h hD hm hmd
  unfold Says at cF
  have hfd : Ck.fed c l = (x0, k, Ck.isOver s', 0) := by unfold Ck.fed; rw [hgo, if_neg (by simp)]
  have hnx : Ck.next c l = .inl s' := by unfold Ck.next; rw [hgo, if_neg (by simp)]
  rw [hfd, hnx] at cF
  clear hfd hnx hgo
  obtain ⟨ov, hov⟩ : ∃ ov, Ck.isOver s' = ov := ⟨_, rfl⟩
  obtain ⟨A, hA⟩ : ∃ A : Int, (if ov = true then (4 : Int) else 3) = A := ⟨_, rfl⟩
  rw [hov] at cF ⊢
  rw [hA]
  have HOV := Lib.hid hov
  have HA := Lib.hid hA
  clear hov hA
  obtain ⟨c0, _, _, _, _, _, _, _, _, c9, _, _, _⟩ := hR.set13
  have HR := Lib.hid hR
  have HNE := Lib.hid hne
  clear hR hne hmd hD hm hl h
  go_enter Tryz.func73, Tryz.ntmps73
  go_wp2_with fail
  refine cF.mono ?_
  rintro x w1 ⟨⟨u, rfl, hrow⟩, hb1, hd1⟩
  have hR1 := HR.out.same (hb1.block g HR.out.lt (Ne.symm HNE.out))
  obtain ⟨d0, _, _, _, _, _, _, _, _, _, _, _, _⟩ := hR1.set13
  have f0 := hR1.free 0
  have HR1 := Lib.hid hR1
  have HROW := Lib.hid hrow
  have HB1 := Lib.hid hb1
  have HD1 := Lib.hid hd1
  clear hR1 hrow hb1 hd1 cF c0 c9
  cases ov with
  | true =>
    have HA4 : Hid (A = 4) := Lib.hid (HA.out.symm.trans (if_pos rfl))
    clear HA
    go_wp2_with fail
    go_ret3
    refine ⟨u, rfl, ?_, (Buts.ofBut HB1.out).put 0 _, ?_, ?_⟩
    · refine row_after HROW.out (fun j cur hc => ?_)
      have hjg : j ≠ g := by
        rintro rfl
        have := HR1.out
        unfold RB at this
        rw [hc] at this
        injection this with h1
        injection h1 with _ h2
        exact absurd h2 (by decide)
      rw [Below.heap_setCell _ _ _ _ (by simpa using hjg)]; exact hc
    · rw [HA4.out]
      exact HR1.out.put 0 _
    · have : Dst _ d s' 0 := HD1.out
      refine Dst.same this ?_
      rw [Below.heap_setCell _ _ _ _ (by simpa using HNE.out)]
  | false =>
    have HA4 : Hid (A = 3) := Lib.hid (HA.out.symm.trans (if_neg (by simp)))
    clear HA
    go_wp2_with fail
    go_ret3
    refine ⟨u, rfl, HROW.out, Buts.ofBut HB1.out, ?_, HD1.out⟩
    rw [HA4.out]
    exact HR1.out
end Go.Proofs.YtlbjjeonchcgbaaGreatDoor
