/- Package message, the program: the first line is taken. -/
import Derived.Test.YtlbjjeonchcgbaaGreatDoorMsP2
namespace Go.Proofs.YtlbjjeonchcgbaaGreatDoor
open Go.RowKit

theorem BIn.off {w : World} {v : Value} {l : List UInt8} {g : Nat} {cs : Array Value} (h : BIn w v l) (hr : RB w g cs) (hc : ∀ x : Int, Value.int .u8 x ∉ cs.toList) : l = [] ∨ ∃ ad n c, v = .slice (some ad) n c ∧ ad.block ≠ g := by
  obtain ⟨ao, cap, hv, h1, h2, hg⟩ := h
  rcases hg with h | ⟨b, o, h3, h4, h5⟩
  · exact .inl h
  · by_cases hl : l = []
    · exact .inl hl
    · refine .inr ⟨⟨b, o, none⟩, l.length, cap, by rw [hv, h3], ?_⟩
      exact hr.ne_cell (h5 0 (List.length_pos_iff.2 hl)) (hc _)
/-- A first line goes into a reader's message. -/
theorem stLine {ops : Array Oper} {rest : List Oper} {o : Oper} {a : Act} {Q : Exit → Act → World → Prop} {W : World} {g : Nat} {c0 c1 c2 c3 c4 c5 c6 c7 c8 c9 ca cb cc : Value} (h : RB W g #[c0, c1, c2, c3, c4, c5, c6, c7, c8, c9, ca, cb, cc])
    (hgd : o.guard = none) (px py : Operand) (ho : o.op = .store 25 px py) (x0 x1 : ByteArray) (x2 : Int) (x3 : ByteArray) (x4 : Int) (hx : a.eval px = .pointer (some ⟨g, 1, none⟩))
    (hy : a.eval py = .agg #[.string x0, .string x1, .int .i64 x2, .string x3, .int .i64 x4])
    (hK : ∀ W', RB W' g #[c0, .string x0, .string x1, .int .i64 x2, .string x3, .int .i64 x4, c6, c7, c8, c9, ca, cb, cc] → Buts g g W W' → wpList Tryz.prog ops Q rest (a.put o.dst undef) W') : wpList Tryz.prog ops Q (o :: rest) a W :=
  wpList_store_mid hgd 25 px py ho g 1 #[.string x0, .string x1, .int .i64 x2, .string x3, .int .i64 x4] hx hy (h.there 1 5 (by simp)) (by kernel_rfl) (by simp [Value.oneCell'])
    (hK _ (RB.puts [.string x0, .string x1, .int .i64 x2, .string x3, .int .i64 x4] 1 W _ _ h rfl) (Buts.puts _ 1 _ (Buts.refl g g W)))

set_option maxHeartbeats 6400000 in
set_option maxRecDepth 100000 in
theorem takeLine_wait (g d : Nat) (asks hd : Bool) (fv v : Value) (l : List UInt8) (w : World) (hR : RB w g (rcs 0 .first fv d asks hd 0)) (hl : l.length ≤ 500000) (h : BIn w v l) (hm : MaxOk w) {s : St.S} {n : Int} (hq : Ms.line asks l = (s, n, 11)) :
    Calls Tryz.prog 71 #[.pointer (some ⟨g, 0, none⟩), v] w fun x w' => x = .returned (.tuple #[.int .i64 0, .int .i64 0]) ∧ Below w.heap.size w w' ∧ RB w' g (rcs 0 .first fv d asks hd 0) := by
  cases asks with
  | true =>
    have hq : St.request l = (s, n, 11) := hq
    have cL := Request_w v l w hl h hm
    rw [hq, sres_s] at cL
    have hR : RB w g #[.int .i64 0, .string ⟨#[]⟩, .string ⟨#[]⟩, .int .i64 0, .string ⟨#[]⟩, .int .i64 0, fv, .slice none 0 0, .int .i64 0, .pointer none, .bool true, .bool hd, .int .i64 0] := hR
    obtain ⟨c0, _, _, _, _, _, _, _, _, _, ca, _, _⟩ := hR.set13
    have HR := Lib.hid hR
    clear hq hl h hm hR
    generalize str s.method = M at *
    generalize str s.target = T at *
    generalize s.status = st at *
    generalize str s.reason = R at *
    generalize s.minor = k at *
    go_enter Tryz.func71, Tryz.ntmps71
    go_wp2_with fail
    refine cL.mono ?_
    rintro x w1 ⟨rfl, hb1⟩
    clear cL
    go_wp2_with fail
    go_ret2
    exact ⟨rfl, bt5 hb1 ((Below.refl _ w1).alloc (Nat.le_refl _) _), (HR.out.later hb1).later ((Below.refl _ w1).alloc (Nat.le_refl _) _)⟩
  | false =>
    have hq : St.response l = (s, n, 11) := hq
    have cL := Response_w v l w hl h hm
    rw [hq, sres_s] at cL
    have hR : RB w g #[.int .i64 0, .string ⟨#[]⟩, .string ⟨#[]⟩, .int .i64 0, .string ⟨#[]⟩, .int .i64 0, fv, .slice none 0 0, .int .i64 0, .pointer none, .bool false, .bool hd, .int .i64 0] := hR
    obtain ⟨c0, _, _, _, _, _, _, _, _, _, ca, _, _⟩ := hR.set13
    have HR := Lib.hid hR
    clear hq hl h hm hR
    generalize str s.method = M at *
    generalize str s.target = T at *
    generalize s.status = st at *
    generalize str s.reason = R at *
    generalize s.minor = k at *
    go_enter Tryz.func71, Tryz.ntmps71
    go_wp2_with fail
    refine cL.mono ?_
    rintro x w1 ⟨rfl, hb1⟩
    clear cL
    go_wp2_with fail
    go_ret2
    exact ⟨rfl, bt5 hb1 ((Below.refl _ w1).alloc (Nat.le_refl _) _), (HR.out.later hb1).later ((Below.refl _ w1).alloc (Nat.le_refl _) _)⟩

set_option maxHeartbeats 6400000 in
set_option maxRecDepth 100000 in
theorem takeLine_bad (g d : Nat) (asks hd : Bool) (fv v : Value) (l : List UInt8) (w : World) (hR : RB w g (rcs 0 .first fv d asks hd 0)) (hl : l.length ≤ 500000) (h : BIn w v l) (hm : MaxOk w) {s : St.S} {n e : Int} (hq : Ms.line asks l = (s, n, e)) (h0 : e ≠ 0) (h1 : e ≠ 11) :
    Calls Tryz.prog 71 #[.pointer (some ⟨g, 0, none⟩), v] w fun x w' => x = .returned (.tuple #[.int .i64 n, .int .i64 e]) ∧ Below w.heap.size w w' ∧ RB w' g (rcs 0 .first fv d asks hd 0) := by
  cases asks with
  | true =>
    have hq : St.request l = (s, n, e) := hq
    have cL := Request_w v l w hl h hm
    rw [hq, sres_s] at cL
    have hR : RB w g #[.int .i64 0, .string ⟨#[]⟩, .string ⟨#[]⟩, .int .i64 0, .string ⟨#[]⟩, .int .i64 0, fv, .slice none 0 0, .int .i64 0, .pointer none, .bool true, .bool hd, .int .i64 0] := hR
    obtain ⟨c0, _, _, _, _, _, _, _, _, _, ca, _, _⟩ := hR.set13
    have HR := Lib.hid hR
    clear hq hl h hm hR
    generalize str s.method = M at *
    generalize str s.target = T at *
    generalize s.status = st at *
    generalize str s.reason = R at *
    generalize s.minor = k at *
    have e1 : (e == 0) = false := beq_eq_false_iff_ne.2 h0
    have e2 : (e == 11) = false := beq_eq_false_iff_ne.2 h1
    clear h0 h1
    go_enter Tryz.func71, Tryz.ntmps71
    go_wp2_with fail
    refine cL.mono ?_
    rintro x w1 ⟨rfl, hb1⟩
    clear cL
    go_wp2_with fail
    go_ret2
    exact ⟨rfl, bt5 hb1 ((Below.refl _ w1).alloc (Nat.le_refl _) _), (HR.out.later hb1).later ((Below.refl _ w1).alloc (Nat.le_refl _) _)⟩
  | false =>
    have hq : St.response l = (s, n, e) := hq
    have cL := Response_w v l w hl h hm
    rw [hq, sres_s] at cL
    have hR : RB w g #[.int .i64 0, .string ⟨#[]⟩, .string ⟨#[]⟩, .int .i64 0, .string ⟨#[]⟩, .int .i64 0, fv, .slice none 0 0, .int .i64 0, .pointer none, .bool false, .bool hd, .int .i64 0] := hR
    obtain ⟨c0, _, _, _, _, _, _, _, _, _, ca, _, _⟩ := hR.set13
    have HR := Lib.hid hR
    clear hq hl h hm hR
    generalize str s.method = M at *
    generalize str s.target = T at *
    generalize s.status = st at *
    generalize str s.reason = R at *
    generalize s.minor = k at *
    have e1 : (e == 0) = false := beq_eq_false_iff_ne.2 h0
    have e2 : (e == 11) = false := beq_eq_false_iff_ne.2 h1
    clear h0 h1
    go_enter Tryz.func71, Tryz.ntmps71
    go_wp2_with fail
    refine cL.mono ?_
    rintro x w1 ⟨rfl, hb1⟩
    clear cL
    go_wp2_with fail
    go_ret2
    exact ⟨rfl, bt5 hb1 ((Below.refl _ w1).alloc (Nat.le_refl _) _), (HR.out.later hb1).later ((Below.refl _ w1).alloc (Nat.le_refl _) _)⟩

set_option maxHeartbeats 6400000 in
set_option maxRecDepth 100000 in
theorem takeLine_ok (g d : Nat) (asks hd : Bool) (fv v : Value) (l : List UInt8) (w : World) (hR : RB w g (rcs 0 .first fv d asks hd 0)) (hl : l.length ≤ 500000) (h : BIn w v l) (hm : MaxOk w) {s : St.S} {n : Int} (hq : Ms.line asks l = (s, n, 0)) :
    Calls Tryz.prog 71 #[.pointer (some ⟨g, 0, none⟩), v] w fun x w' => x = .returned (.tuple #[.int .i64 n, .int .i64 0]) ∧ Buts g g w w' ∧ RB w' g (rcs 1 (.head s) fv d asks hd 0) := by
  cases asks with
  | true =>
    have hq : St.request l = (s, n, 0) := hq
    have cL := Request_w v l w hl h hm
    rw [hq, sres_s] at cL
    have hR : RB w g #[.int .i64 0, .string ⟨#[]⟩, .string ⟨#[]⟩, .int .i64 0, .string ⟨#[]⟩, .int .i64 0, fv, .slice none 0 0, .int .i64 0, .pointer none, .bool true, .bool hd, .int .i64 0] := hR
    obtain ⟨c0, _, _, _, _, _, _, _, _, _, ca, _, _⟩ := hR.set13
    have HR := Lib.hid hR
    clear hq hl h hm hR
    have hcs : rcs 1 (.head s) fv d true hd 0 = #[.int .i64 1, .string (str s.method), .string (str s.target), .int .i64 s.status, .string (str s.reason), .int .i64 s.minor, fv, .slice none 0 0, .int .i64 0, .pointer none, .bool true, .bool hd, .int .i64 0] := rfl
    rw [hcs]
    clear hcs
    generalize str s.method = M at *
    generalize str s.target = T at *
    generalize s.status = st at *
    generalize str s.reason = R at *
    generalize s.minor = k at *
    go_enter Tryz.func71, Tryz.ntmps71
    go_wp2_with fail
    refine cL.mono ?_
    rintro x w1 ⟨rfl, hb1⟩
    clear cL c0 ca
    have hR1 := HR.out.later hb1
    obtain ⟨c0, _, _, _, _, _, _, _, _, _, _, _, _⟩ := hR1.set13
    have HR1 := Lib.hid hR1
    have HB1 := Lib.hid hb1
    clear hR1 hb1 HR
    go_upto_region 7 with fail
    have h5 : (w1.alloc (.cells #[.string M, .string T, .int .i64 st, .string R, .int .i64 k] 25)).heap[w1.heap.size]? = some (.cells #[.string M, .string T, .int .i64 st, .string R, .int .i64 k] 25 (0, 0)) := heap_alloc_new w1 _
    have hb2 : Below w1.heap.size w1 (w1.alloc (.cells #[.string M, .string T, .int .i64 st, .string R, .int .i64 k] 25)) := (Below.refl _ w1).alloc (Nat.le_refl _) _
    generalize w1.alloc (.cells #[.string M, .string T, .int .i64 st, .string R, .int .i64 k] 25) = w2 at *
    generalize w1.heap.size = b at h5 ⊢
    have hR2 := HR1.out.later hb2
    have HB2 := Lib.hid (bt5 HB1.out hb2)
    obtain ⟨d0, d1, d2, d3, d4⟩ := set5 h5
    have HR2 := Lib.hid hR2
    clear h5 hb2 hR2 HR1 HB1 c0
    go_wp2_with (refine stLine HR2.out rfl (.tmp 30) (.tmp 26) rfl M T st R k rfl rfl ?_; intro w3 hR3 hB3; have HR3 := Lib.hid hR3; have HB3 := Lib.hid hB3; obtain ⟨e0, _, _, _, _, _, _, _, _, _, _, _, _⟩ := hR3.set13; have f0 := hR3.free 0; clear hR3 hB3)
    go_ret2
    exact ⟨rfl, (((Buts.of HB2.out).trans HB3.out).put 0 _), HR3.out.put 0 _⟩
  | false =>
    have hq : St.response l = (s, n, 0) := hq
    have cL := Response_w v l w hl h hm
    rw [hq, sres_s] at cL
    have hR : RB w g #[.int .i64 0, .string ⟨#[]⟩, .string ⟨#[]⟩, .int .i64 0, .string ⟨#[]⟩, .int .i64 0, fv, .slice none 0 0, .int .i64 0, .pointer none, .bool false, .bool hd, .int .i64 0] := hR
    obtain ⟨c0, _, _, _, _, _, _, _, _, _, ca, _, _⟩ := hR.set13
    have HR := Lib.hid hR
    clear hq hl h hm hR
    have hcs : rcs 1 (.head s) fv d false hd 0 = #[.int .i64 1, .string (str s.method), .string (str s.target), .int .i64 s.status, .string (str s.reason), .int .i64 s.minor, fv, .slice none 0 0, .int .i64 0, .pointer none, .bool false, .bool hd, .int .i64 0] := rfl
    rw [hcs]
    clear hcs
    generalize str s.method = M at *
    generalize str s.target = T at *
    generalize s.status = st at *
    generalize str s.reason = R at *
    generalize s.minor = k at *
    go_enter Tryz.func71, Tryz.ntmps71
    go_wp2_with fail
    refine cL.mono ?_
    rintro x w1 ⟨rfl, hb1⟩
    clear cL c0 ca
    have hR1 := HR.out.later hb1
    obtain ⟨c0, _, _, _, _, _, _, _, _, _, _, _, _⟩ := hR1.set13
    have HR1 := Lib.hid hR1
    have HB1 := Lib.hid hb1
    clear hR1 hb1 HR
    go_upto_region 7 with fail
    have h5 : (w1.alloc (.cells #[.string M, .string T, .int .i64 st, .string R, .int .i64 k] 25)).heap[w1.heap.size]? = some (.cells #[.string M, .string T, .int .i64 st, .string R, .int .i64 k] 25 (0, 0)) := heap_alloc_new w1 _
    have hb2 : Below w1.heap.size w1 (w1.alloc (.cells #[.string M, .string T, .int .i64 st, .string R, .int .i64 k] 25)) := (Below.refl _ w1).alloc (Nat.le_refl _) _
    generalize w1.alloc (.cells #[.string M, .string T, .int .i64 st, .string R, .int .i64 k] 25) = w2 at *
    generalize w1.heap.size = b at h5 ⊢
    have hR2 := HR1.out.later hb2
    have HB2 := Lib.hid (bt5 HB1.out hb2)
    obtain ⟨d0, d1, d2, d3, d4⟩ := set5 h5
    have HR2 := Lib.hid hR2
    clear h5 hb2 hR2 HR1 HB1 c0
    go_wp2_with (refine stLine HR2.out rfl (.tmp 30) (.tmp 26) rfl M T st R k rfl rfl ?_; intro w3 hR3 hB3; have HR3 := Lib.hid hR3; have HB3 := Lib.hid hB3; obtain ⟨e0, _, _, _, _, _, _, _, _, _, _, _, _⟩ := hR3.set13; have f0 := hR3.free 0; clear hR3 hB3)
    go_ret2
    exact ⟨rfl, (((Buts.of HB2.out).trans HB3.out).put 0 _), HR3.out.put 0 _⟩
end Go.Proofs.YtlbjjeonchcgbaaGreatDoor
