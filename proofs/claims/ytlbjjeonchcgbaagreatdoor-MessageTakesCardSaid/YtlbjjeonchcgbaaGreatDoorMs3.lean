/- Package message: the document's Same, Right, Print. -/
import Derived.Test.YtlbjjeonchcgbaaGreatDoorMs2
import Derived.Test.YtlbjjeonchcgbaaGreatDoorHeld
namespace Go.Proofs.YtlbjjeonchcgbaaGreatDoor
open Go.RowKit

/-- A part of a block, loaded as one value. -/
theorem ldP {ops : Array Oper} {rest : List Oper} {o : Oper} {a : Act} {Q : Exit → Act → World → Prop} {W : World} {T : TypeId} {p v : Value} (hr : (Instr.loadAt T p).run Tryz.prog W = .ok v W)
    (hgd : o.guard = none) (t : Tmp) (ho : o.op = .load T (.tmp t)) (hx : a.eval (.tmp t) = p) (hK : wpList Tryz.prog ops Q rest (a.put o.dst v) W) : wpList Tryz.prog ops Q (o :: rest) a W := by
  refine wpList_plain hgd fun K hK2 => ?_
  unfold Oper.wp
  rw [exec_load ho hx hr]
  exact hK2 _ _ hK
/-- A message's first line. -/
theorem ld_start {W : World} {g : Nat} {s : St.S} {fv bv : Value} (h : W.heap[g]? = some (.cells #[.string (str s.method), .string (str s.target), .int .i64 s.status, .string (str s.reason), .int .i64 s.minor, fv, bv] 28 (0, 0))) :
    (Instr.loadAt 25 (.pointer (some ⟨g, 0, none⟩))).run Tryz.prog W = .ok (sval s) W := by
  obtain ⟨c0, c1, c2, c3, c4, c5, c6⟩ := set7 h
  rw [sval_s]
  clear h
  go_simp

set_option maxHeartbeats 6400000 in
set_option maxRecDepth 100000 in
theorem same_w (s r : St.S) (fv bv gv cv : Value) (fs gs : List Fld.F) (x y : List UInt8) (w : World) (hf : FIn w fv fs) (hg : FIn w gv gs) (hx : BIn w bv x) (hxn : NilOk bv) (hy : BIn w cv y) (hyn : NilOk cv) (hl : fs.length ≤ 1000000000) :
    Calls Tryz.prog 12 #[mval s fv bv, mval r gv cv] w fun e w' => e = .returned (.bool (decide (s = r) && (sameF fs gs && decide (x = y)))) ∧ Below w.heap.size w w' := by
  rw [mval_s, mval_s]
  have HE := Lib.hid (fun (W : World) => eql_st s r W)
  have HGD := Lib.hid (fun (W : World) => guard_st .eql (.inl rfl) 6 8 s r W)
  have HFS := Lib.hid (fun (W : World) (hb : Below w.heap.size w W) => SameF_w fv gv fs gs W (hf.later hb) (hg.later hb) hl)
  have HX := Lib.hid (fun (W : World) (hb : Below w.heap.size w W) => (hx.later hb).all hxn)
  have HY := Lib.hid (fun (W : World) (hb : Below w.heap.size w W) => (hy.later hb).all hyn)
  have hxy := str_beq x y
  clear hf hg hx hxn hy hyn hl
  go_enter Tryz.func12, Tryz.ntmps12
  go_upto_region 1 with fail
  have b0 : (w.alloc (.cells #[.string (str s.method), .string (str s.target), .int .i64 s.status, .string (str s.reason), .int .i64 s.minor, fv, bv] 28)).heap[w.heap.size]? = some (.cells #[.string (str s.method), .string (str s.target), .int .i64 s.status, .string (str s.reason), .int .i64 s.minor, fv, bv] 28 (0, 0)) := heap_alloc_new w _
  have hb0 : Below w.heap.size w (w.alloc (.cells #[.string (str s.method), .string (str s.target), .int .i64 s.status, .string (str s.reason), .int .i64 s.minor, fv, bv] 28)) := (Below.refl _ w).alloc (Nat.le_refl _) _
  have hsz : (w.alloc (.cells #[.string (str s.method), .string (str s.target), .int .i64 s.status, .string (str s.reason), .int .i64 s.minor, fv, bv] 28)).heap.size = w.heap.size + 1 := by simp
  generalize w.alloc (.cells #[.string (str s.method), .string (str s.target), .int .i64 s.status, .string (str s.reason), .int .i64 s.minor, fv, bv] 28) = W0 at *
  have b1 : (W0.alloc (.cells #[.string (str r.method), .string (str r.target), .int .i64 r.status, .string (str r.reason), .int .i64 r.minor, gv, cv] 28)).heap[W0.heap.size]? = some (.cells #[.string (str r.method), .string (str r.target), .int .i64 r.status, .string (str r.reason), .int .i64 r.minor, gv, cv] 28 (0, 0)) := heap_alloc_new W0 _
  have hb1' : Below W0.heap.size W0 (W0.alloc (.cells #[.string (str r.method), .string (str r.target), .int .i64 r.status, .string (str r.reason), .int .i64 r.minor, gv, cv] 28)) := (Below.refl _ W0).alloc (Nat.le_refl _) _
  have b0 := blk_later b0 hb1'
  have hb1 := bt5 hb0 hb1'
  rw [hsz] at b1
  generalize W0.alloc (.cells #[.string (str r.method), .string (str r.target), .int .i64 r.status, .string (str r.reason), .int .i64 r.minor, gv, cv] 28) = W1 at *
  generalize hpp : w.heap.size = p at b0 b1 ⊢
  obtain ⟨c0, c1, c2, c3, c4, c5, c6⟩ := set7 b0
  obtain ⟨d0, d1, d2, d3, d4, d5, d6⟩ := set7 b1
  have hE := HE.out W1
  have hG := HGD.out W1
  have hl0 := ld_start b0
  have hl1 := ld_start b1
  have cS := HFS.out W1 hb1
  have HB1 := Lib.hid hb1
  clear b0 b1 hb0 hb1' hb1 HE HGD HFS hsz
  by_cases h1 : s = r
  · have v1 : decide (s = r) = true := decide_eq_true h1
    rw [v1] at hE
    cases h2 : sameF fs gs with
    | false =>
      rw [h2] at cS
      have HV : Hid ((decide (s = r) && (sameF fs gs && decide (x = y))) = false) := Lib.hid (by rw [v1, h2]; rfl)
      clear h1 v1 h2 HX HY hxy
      go_wp2_with (first | (refine ldP hl0 rfl 5 rfl rfl ?_) | (refine ldP hl1 rfl 7 rfl rfl ?_))
      refine cS.mono ?_
      rintro e W2 ⟨rfl, hb2⟩
      go_wp2_with fail
      go_ret
      rw [HV.out]
      exact ⟨rfl, by first | exact bt5 HB1.out hb2 | (rw [← hpp]; exact bt5 HB1.out hb2)⟩
    | true =>
      rw [h2] at cS
      obtain ⟨xy, hv⟩ : ∃ xy, decide (x = y) = xy := ⟨_, rfl⟩
      rw [hv] at hxy
      have HV : Hid ((decide (s = r) && (sameF fs gs && decide (x = y))) = xy) := Lib.hid (by rw [v1, h2, hv]; cases xy <;> rfl)
      clear h1 v1 h2 hv
      generalize str x = sx at *
      generalize str y = sy at *
      go_wp2_with (first | (refine ldP hl0 rfl 5 rfl rfl ?_) | (refine ldP hl1 rfl 7 rfl rfl ?_))
      refine cS.mono ?_
      rintro e W2 ⟨rfl, hb2⟩
      have hb02 := bt5 HB1.out hb2
      have k1 := HX.out W2 hb02
      have k2 := HY.out W2 hb02
      have c6' : W2.cell? ⟨p, 6, none⟩ = some bv := (hb2.cell (p := ⟨p, 6, none⟩) (World.block_lt_of_cell? W1 _ c6)).trans c6
      have d6' : W2.cell? ⟨p + 1, 6, none⟩ = some cv := (hb2.cell (p := ⟨p + 1, 6, none⟩) (World.block_lt_of_cell? W1 _ d6)).trans d6
      go_wp2_with fail
      go_ret
      rw [HV.out]
      exact ⟨rfl, by first | exact hb02 | (rw [← hpp]; exact hb02)⟩
  · have v1 : decide (s = r) = false := decide_eq_false h1
    rw [v1] at hE
    have HV : Hid ((decide (s = r) && (sameF fs gs && decide (x = y))) = false) := Lib.hid (by rw [v1]; rfl)
    clear h1 v1 HX HY cS hxy
    go_wp2_with (first | (refine ldP hl0 rfl 5 rfl rfl ?_) | (refine ldP hl1 rfl 7 rfl rfl ?_))
    go_ret
    rw [HV.out]
    exact ⟨rfl, by first | exact HB1.out | (rw [← hpp]; exact HB1.out)⟩
set_option maxHeartbeats 6400000 in
set_option maxRecDepth 100000 in
theorem right_w (s : St.S) (fv bv : Value) (fs : List Fld.F) (x m : List UInt8) (w : World) (hF : FIn w fv fs) (hS : Small fs) (hfl : fs.length ≤ 1000) (hx : BIn w bv x) (hxn : NilOk bv) (hxl : x.length ≤ 10000000) (hm : m.length ≤ 1000000) (z1 : s.method.length ≤ 1000000) (z2 : s.target.length ≤ 1000000) (z3 : s.reason.length ≤ 1000000) :
    Calls Tryz.prog 17 #[mval s fv bv, .string (str m)] w fun e w' => e = .returned (.bool (Ms.right ⟨s, fs, x⟩ m)) ∧ Below w.heap.size w w' := by
  have HFR := Lib.hid (fun (W : World) (hb : Below w.heap.size w W) => (by have h := framing_w s fv bv fs m W (hF.later hb) hS hfl hm; rw [mval_s] at h; exact h))
  have HRI := Lib.hid (fun (W : World) => (by have h := rRight_s s W z1 z2 z3; rw [sval_s] at h; exact h))
  have HFA := Lib.hid (fun (W : World) (hb : Below w.heap.size w W) => rFault_w fv fs W (hF.later hb) hS)
  have HX := Lib.hid hx
  obtain ⟨⟨kd, sz, e⟩, hfr⟩ : ∃ y, Ms.framed s fs m = y := ⟨_, rfl⟩
  have HR : Hid (Ms.right ⟨s, fs, x⟩ m = if e ≠ 0 ∨ St.right s = false ∨ Fld.fault fs ≠ 0 then false else if kd = 2 then decide (x.length ≤ 1048576) else decide ((x.length : Int) = sz)) := Lib.hid (by unfold Ms.right; rw [hfr])
  rw [hfr] at HFR
  generalize Ms.right ⟨s, fs, x⟩ m = rr at *
  generalize hsr : St.right s = sr at *
  generalize Fld.fault fs = ff at *
  obtain ⟨ba, bc, rfl⟩ : ∃ a c, bv = .slice a x.length c := by obtain ⟨a, c, h, _⟩ := hx; exact ⟨a, c, h⟩
  have HXL := Lib.hid hxl
  obtain ⟨XL, hXL⟩ : ∃ XL, XL = x.length := ⟨_, rfl⟩
  rw [← hXL] at HR HX HFR ⊢
  rw [mval_s]
  generalize str s.method = a0 at *
  generalize str s.target = a1 at *
  generalize s.status = st at *
  generalize str s.reason = a3 at *
  generalize s.minor = mi at *
  generalize str m = mm at *
  clear hF hS hfl hx hxn hxl hm z1 z2 z3 hfr hsr hXL
  go_enter Tryz.func17, Tryz.ntmps17
  go_upto_region 1 with fail
  have b0 : (w.alloc (.cells #[.string a0, .string a1, .int .i64 st, .string a3, .int .i64 mi, fv, .slice ba XL bc] 28)).heap[w.heap.size]? = some (.cells #[.string a0, .string a1, .int .i64 st, .string a3, .int .i64 mi, fv, .slice ba XL bc] 28 (0, 0)) := heap_alloc_new w _
  have hb0 : Below w.heap.size w (w.alloc (.cells #[.string a0, .string a1, .int .i64 st, .string a3, .int .i64 mi, fv, .slice ba XL bc] 28)) := (Below.refl _ w).alloc (Nat.le_refl _) _
  generalize w.alloc (.cells #[.string a0, .string a1, .int .i64 st, .string a3, .int .i64 mi, fv, .slice ba XL bc] 28) = W0 at *
  generalize hpp : w.heap.size = p at b0 ⊢
  have cF := HFR.out W0 hb0
  simp only [] at cF
  go_wp2_with (refine ldM b0 rfl (.tmp 2) rfl rfl ?_)
  refine cF.mono ?_
  rintro e' W1 ⟨rfl, hb1'⟩
  have b1 := blk_later b0 hb1'
  have hb1 := bt5 hb0 hb1'
  obtain ⟨c0, c1, c2, c3, c4, c5, c6⟩ := set7 b1
  have HB1 := Lib.hid hb1
  have H1 := Lib.hid b1
  clear b0 hb0 hb1' cF b1 hb1
  by_cases e0 : e = 0
  case neg =>
    have e0b : (e != 0) = true := by simpa using e0
    have HV := Lib.hid (HR.out.trans (if_pos (.inl e0)))
    go_wp2_with fail
    go_ret
    rw [HV.out]
    exact ⟨rfl, by first | exact HB1.out | (rw [← hpp]; exact HB1.out)⟩
  case pos =>
    subst e0
    have cR := HRI.out W1
    clear HRI HFR
    cases sr with
    | false =>
      have HV := Lib.hid (HR.out.trans (if_pos (.inr (.inl rfl))))
      go_wp2_with fail
      refine cR.mono ?_
      rintro e' W2 ⟨rfl, hb2⟩
      go_wp2_with fail
      go_ret
      rw [HV.out]
      exact ⟨rfl, by first | exact bt5 HB1.out hb2 | (rw [← hpp]; exact bt5 HB1.out hb2)⟩
    | true =>
      go_wp2_with fail
      refine cR.mono ?_
      rintro e' W2 ⟨rfl, hb2'⟩
      have hb2 := bt5 HB1.out hb2'
      have b2 := blk_later H1.out hb2'
      have cA := HFA.out W2 hb2
      have HB2 := Lib.hid hb2
      clear c0 c1 c2 c3 c4 c5 c6 cR
      obtain ⟨c0, c1, c2, c3, c4, c5, c6⟩ := set7 b2
      have H2 := Lib.hid b2
      clear hb2 hb2' b2
      go_wp2_with fail
      refine cA.mono ?_
      rintro e' W3 ⟨rfl, hb3'⟩
      have hb3 := bt5 HB2.out hb3'
      have b3 := blk_later H2.out hb3'
      have HB3 := Lib.hid hb3
      clear c0 c1 c2 c3 c4 c5 c6 cA
      obtain ⟨c0, c1, c2, c3, c4, c5, c6⟩ := set7 b3
      clear hb3 hb3' b3
      by_cases f0 : ff = 0
      case neg =>
        have f0b : (ff != 0) = true := by simpa using f0
        have HV := Lib.hid (HR.out.trans (if_pos (.inr (.inr f0))))
        go_wp2_with fail
        go_ret
        rw [HV.out]
        exact ⟨rfl, by first | exact HB3.out | (rw [← hpp]; exact HB3.out)⟩
      case pos =>
        subst f0
        have HR2 := Lib.hid (HR.out.trans (if_neg (by simp)))
        by_cases k2 : kd = 2
        · have HV := Lib.hid (HR2.out.trans (if_pos k2))
          subst k2
          obtain ⟨dd, hdd⟩ : ∃ dd, decide (XL ≤ 1048576) = dd := ⟨_, rfl⟩
          have hdi : decide ((XL : Int) ≤ 1048576) = dd := by rw [← hdd, decide_eq_decide]; omega
          rw [hdd] at HV
          clear HR HR2 hdd
          go_wp2_with fail
          go_ret
          rw [HV.out]
          exact ⟨by simp only [← hdi]; rfl, by first | exact HB3.out | (rw [← hpp]; exact HB3.out)⟩
        · have HV := Lib.hid (HR2.out.trans (if_neg k2))
          have k2b : (kd == 2) = false := beq_eq_false_iff_ne.2 k2
          obtain ⟨dd, hdd⟩ : ∃ dd, decide ((XL : Int) = sz) = dd := ⟨_, rfl⟩
          have hdi : ((XL : Int) == sz) = dd := by rw [← hdd, Bool.eq_iff_iff, beq_iff_eq, decide_eq_true_iff]
          rw [hdd] at HV
          clear HR HR2 hdd k2
          go_wp2_with fail
          go_ret
          rw [HV.out]
          exact ⟨by rfl, by first | exact HB3.out | (rw [← hpp]; exact HB3.out)⟩
end Go.Proofs.YtlbjjeonchcgbaaGreatDoor
