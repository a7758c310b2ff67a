/- Package message, the program: Right, Print; what its calls answer, in one pack. -/
import Derived.Test.YtlbjjeonchcgbaaGreatDoorMsP1
import Derived.Test.YtlbjjeonchcgbaaGreatDoorCkPb
import Derived.Test.YtlbjjeonchcgbaaGreatDoorMsQ
import Derived.Test.YtlbjjeonchcgbaaGreatDoorMsS
import Derived.Lib.AppendZerosOnto
namespace Go.Proofs.YtlbjjeonchcgbaaGreatDoor
open Go.RowKit

set_option maxHeartbeats 6400000 in
set_option maxRecDepth 100000 in
theorem GrowB_w (n : Nat) (w : World) (hn : n ≤ 1000000000) :
    Calls Tryz.prog 67 #[.slice none 0 0, .int .i64 n] w fun e w' => ∃ v, e = .returned v ∧ Buf w w' v [] := by
  by_cases h0 : n = 0
  · subst h0
    go_enter Tryz.func67, Tryz.ntmps67
    go_wp2_with fail
    go_ret
    exact ⟨_, rfl, Buf.nil _⟩
  obtain ⟨i0, hi, hz0, hz1, hz2⟩ := info_parts bytes_info
  have hpos : 0 < (n : Int) := by omega
  have hrz := Lib.run_append_grow_zeros w 22 3 22 5 i0 _ .i64 .i64 Tryz.underlying22 Tryz.underlying3 hi hz0 none 0 0 [] (by exact run_firstCells_none w.drew i0.size 0 0 0) n (by omega) (by omega) (by omega) (by omega) (by rw [hz2]; omega) (by rw [hz2]; exact growslice_fits (by omega) (by omega))
  have hcap : grownCap w n 0 5 ≤ maxLen := grownCap_le_maxLen w n 0 5 (by unfold maxLen; omega)
  have hge : n ≤ grownCap w n 0 5 := grownCap_ge w _ _ _
  rw [Nat.zero_add] at hrz
  generalize grownCap w n 0 5 = G at hrz hcap hge
  have hrow : Buf w (w.drew.alloc (.cells (([] : List Value).toArray ++ Builtin.zeroCells (Value.int .u8 0).cells n ++ Builtin.zeroCells (Value.int .u8 0).cells (G - n)) 5)) (.slice (some ⟨w.heap.size, 0, none⟩) 0 G) [] :=
    ⟨World.ownsRow_made w.drew _ G (Nat.le_refl _) hcap (by simp [Builtin.zeroCells, Value.cells]; omega), (Below.refl _ w).drew.alloc (Nat.le_refl _) _⟩
  generalize w.drew.alloc _ = w1 at hrz hrow
  have hG63 : G ≤ 9223372036854775807 := by unfold maxLen at hcap; omega
  clear hcap hi hz0 hz1 hz2 h0
  go_enter Tryz.func67, Tryz.ntmps67
  go_wp2_with (at_builtin; refine Lib.wpList_append_run _ rfl _ _ _ _ rfl _ _ rfl rfl _ _ hrz ?_)
  all_goals (go_ret; exact ⟨_, rfl, hrow⟩)

set_option maxHeartbeats 6400000 in
set_option maxRecDepth 100000 in
theorem ConcatB_w (va vb vc : Value) (xs ys zs : List UInt8) (g : Nat) (w : World) (ha : BIn w va xs) (hb : BIn w vb ys) (hc : BIn w vc zs) (na : NilOk va) (nb : NilOk vb) (nc : NilOk vc) (hg : g < w.heap.size) (h0 : w.cell? ⟨g, 0, none⟩ = some va) (h1 : w.cell? ⟨g, 1, none⟩ = some vb) (h2 : w.cell? ⟨g, 2, none⟩ = some vc) (hx : xs.length ≤ 100000000) (hy : ys.length ≤ 100000000) (hz : zs.length ≤ 100000000) :
    Calls Tryz.prog 38 #[.slice (some ⟨g, 0, none⟩) 3 3] w fun e w' => ∃ v, e = .returned v ∧ Buf w w' v (xs ++ ys ++ zs) := by
  have cG := GrowB_w (xs.length + ys.length + zs.length) w (by omega)
  have HA := Lib.hid ha
  have HB := Lib.hid hb
  have HC := Lib.hid hc
  have NA := Lib.hid na
  have NB := Lib.hid nb
  have NC := Lib.hid nc
  obtain ⟨aa, ca, hva, ka, ja, _⟩ := ha
  obtain ⟨ab, cb, hvb, kb, jb, _⟩ := hb
  obtain ⟨ac, cc, hvc, kc, jc, _⟩ := hc
  rw [hva] at h0
  rw [hvb] at h1
  rw [hvc] at h2
  have HVA := Lib.hid hva
  have HVB := Lib.hid hvb
  have HVC := Lib.hid hvc
  obtain ⟨n, hn⟩ : ∃ n, n = xs.length := ⟨_, rfl⟩
  obtain ⟨m, hm⟩ : ∃ m, m = ys.length := ⟨_, rfl⟩
  obtain ⟨r, hr⟩ : ∃ r, r = zs.length := ⟨_, rfl⟩
  have HL := Lib.hid (⟨hn, hm, hr⟩ : n = xs.length ∧ m = ys.length ∧ r = zs.length)
  rw [← hn] at h0 hx cG
  rw [← hm] at h1 hy cG
  rw [← hr] at h2 hz cG
  have e0 : ((n + m + r : Nat) : Int) = (n : Int) + m + r := by omega
  rw [e0] at cG
  clear hva hvb hvc na nb nc hn hm hr e0 ka ja kb jb kc jc
  go_enter Tryz.func38, Tryz.ntmps38
  go_wp2_with fail
  refine wp_loop_rounds 4 ?_
  rw [rounds_succ]
  go_wp2_with fail
  rw [rounds_succ]
  go_wp2_with fail
  rw [rounds_succ]
  go_wp2_with fail
  rw [rounds_succ]
  go_wp2_with fail
  refine cG.mono ?_
  rintro e w1 ⟨v, rfl, hB⟩
  have h0' := (hB.2.cell (p := ⟨g, 0, none⟩) hg).trans h0
  have f0 : BIn w1 (.slice aa n ca) xs := by have := HA.out.later hB.2; rw [HVA.out, ← HL.out.1] at this; exact this
  have n0 : NilOk (.slice aa n ca) := by have := NA.out; rw [HVA.out, ← HL.out.1] at this; exact this
  have n1 : NilOk (.slice ab m cb) := by have := NB.out; rw [HVB.out, ← HL.out.2.1] at this; exact this
  have n2 : NilOk (.slice ac r cc) := by have := NC.out; rw [HVC.out, ← HL.out.2.2] at this; exact this
  have k0 : ([] : List UInt8).length + xs.length ≤ 1000000000 := by rw [← HL.out.1]; simp; omega
  go_wp2_with fail
  refine wp_loop_rounds 4 ?_
  rw [rounds_succ]
  go_wp2_with (at_builtin; refine appBs hB f0 n0 k0 rfl _ _ rfl rfl rfl ?_; intro v' w2 hB2 _)
  rw [List.nil_append] at hB2
  have h1'' := (hB2.2.cell (p := ⟨g, 1, none⟩) hg).trans h1
  have f1' : BIn w2 (.slice ab m cb) ys := by have := HB.out.later hB2.2; rw [HVB.out, ← HL.out.2.1] at this; exact this
  have k1 : xs.length + ys.length ≤ 1000000000 := by rw [← HL.out.1, ← HL.out.2.1]; omega
  rw [rounds_succ]
  go_wp2_with (at_builtin; refine appBs hB2 f1' n1 k1 rfl _ _ rfl rfl rfl ?_; intro v'' w3 hB3 _)
  have h2'' := (hB3.2.cell (p := ⟨g, 2, none⟩) hg).trans h2
  have f2' : BIn w3 (.slice ac r cc) zs := by have := HC.out.later hB3.2; rw [HVC.out, ← HL.out.2.2] at this; exact this
  have k2 : (xs ++ ys).length + zs.length ≤ 1000000000 := by rw [List.length_append, ← HL.out.1, ← HL.out.2.1, ← HL.out.2.2]; omega
  rw [rounds_succ]
  go_wp2_with (at_builtin; refine appBs hB3 f2' n2 k2 rfl _ _ rfl rfl rfl ?_; intro v3 w4 hB4 _)
  rw [rounds_succ]
  go_wp2_with fail
  go_ret
  exact ⟨_, rfl, hB4⟩

set_option maxHeartbeats 6400000 in
set_option maxRecDepth 100000 in
theorem pRight_w (s : St.S) (fv bv : Value) (fs : List Fld.F) (x m : List UInt8) (w : World) (hF : FIn w fv fs) (hS : Small fs) (hfl : fs.length ≤ 1000) (hx : BIn w bv x) (_hxl : x.length ≤ 10000000) (z1 : s.method.length ≤ 100000) (z2 : s.target.length ≤ 100000) (z3 : s.reason.length ≤ 100000) :
    Calls Tryz.prog 18 #[mval s fv bv, .string (str m)] w fun e w' => e = .returned (.bool (Ms.right ⟨s, fs, x⟩ m)) ∧ Below w.heap.size w w' := by
  have HFR := Lib.hid (fun (W : World) (hb : Below w.heap.size w W) => (by have h := pFraming_w s fv bv fs m W (hF.later hb) hS hfl; rw [mval_s] at h; exact h))
  have HRI := Lib.hid (fun (W : World) => (by have h := Right_s s W (by omega) (by omega) (by omega); rw [sval_s] at h; exact h))
  have HFA := Lib.hid (fun (W : World) (hb : Below w.heap.size w W) => Right_w fv fs W (hF.later hb) hS)
  obtain ⟨⟨kd, sz, e⟩, hfr⟩ : ∃ y, Ms.framed s fs m = y := ⟨_, rfl⟩
  have HR : Hid (Ms.right ⟨s, fs, x⟩ m = if e ≠ 0 ∨ St.right s = false ∨ Fld.fault fs ≠ 0 then false else if kd = 2 then decide (x.length ≤ 1048576) else decide ((x.length : Int) = sz)) := Lib.hid (by unfold Ms.right; rw [hfr])
  rw [hfr] at HFR
  generalize Ms.right ⟨s, fs, x⟩ m = rr at *
  generalize hsr : St.right s = sr at *
  obtain ⟨fk, hfk⟩ : ∃ q, (Fld.fault fs == 0) = q := ⟨_, rfl⟩
  have HR : Hid (rr = if e ≠ 0 ∨ sr = false ∨ fk = false then false else if kd = 2 then decide (x.length ≤ 1048576) else decide ((x.length : Int) = sz)) := Lib.hid (by
    rw [HR.out]
    have : Fld.fault fs ≠ 0 ↔ fk = false := by rw [← hfk]; simp
    simp only [this])
  rw [hfk] at HFA
  obtain ⟨ba, bc, rfl⟩ : ∃ a c, bv = .slice a x.length c := by obtain ⟨a, c, h, _⟩ := hx; exact ⟨a, c, h⟩
  obtain ⟨XL, hXL⟩ : ∃ XL, XL = x.length := ⟨_, rfl⟩
  rw [← hXL] at HR HFR ⊢
  rw [mval_s]
  generalize str s.method = a0 at *
  generalize str s.target = a1 at *
  generalize s.status = st at *
  generalize str s.reason = a3 at *
  generalize s.minor = mi at *
  generalize str m = mm at *
  clear hF hS hfl hx z1 z2 z3 hfr hsr hXL hfk
  go_enter Tryz.func18, Tryz.ntmps18
  go_upto_region 1 with fail
  have b0 : (w.alloc (.cells #[.string a0, .string a1, .int .i64 st, .string a3, .int .i64 mi, fv, .slice ba XL bc] 28)).heap[w.heap.size]? = some (.cells #[.string a0, .string a1, .int .i64 st, .string a3, .int .i64 mi, fv, .slice ba XL bc] 28 (0, 0)) := heap_alloc_new w _
  have hb0 : Below w.heap.size w (w.alloc (.cells #[.string a0, .string a1, .int .i64 st, .string a3, .int .i64 mi, fv, .slice ba XL bc] 28)) := (Below.refl _ w).alloc (Nat.le_refl _) _
  generalize w.alloc (.cells #[.string a0, .string a1, .int .i64 st, .string a3, .int .i64 mi, fv, .slice ba XL bc] 28) = W0 at *
  generalize hpp : w.heap.size = p at b0 ⊢
  have cF := HFR.out W0 hb0
  simp only [] at cF
  go_wp2_with (refine ldM b0 rfl (.tmp 2) rfl rfl ?_)
  refine cF.mono ?_
  rintro e' W1 ⟨rfl, hb1'⟩
  have b1 := blk_later b0 hb1'
  have hb1 := bt5 hb0 hb1'
  have cR := HRI.out W1
  obtain ⟨c0, c1, c2, c3, c4, c5, c6⟩ := set7 b1
  have HB1 := Lib.hid hb1
  have H1 := Lib.hid b1
  clear b0 hb0 hb1' cF b1 hb1 HRI HFR
  cases sr with
  | false =>
    have HV := Lib.hid (HR.out.trans (if_pos (.inr (.inl rfl))))
    go_wp2_with fail
    refine cR.mono ?_
    rintro e' W2 ⟨rfl, hb2⟩
    go_wp2_with fail
    go_ret
    rw [HV.out]
    exact ⟨rfl, by first | exact bt5 HB1.out hb2 | (rw [← hpp]; exact bt5 HB1.out hb2)⟩
  | true =>
    go_wp2_with fail
    refine cR.mono ?_
    rintro e' W2 ⟨rfl, hb2'⟩
    have hb2 := bt5 HB1.out hb2'
    have b2 := blk_later H1.out hb2'
    have cA := HFA.out W2 hb2
    have HB2 := Lib.hid hb2
    clear c0 c1 c2 c3 c4 c5 c6 cR H1 HB1 HFA
    obtain ⟨c0, c1, c2, c3, c4, c5, c6⟩ := set7 b2
    have H2 := Lib.hid b2
    clear hb2 hb2' b2
    cases fk with
    | false =>
      have HV := Lib.hid (HR.out.trans (if_pos (.inr (.inr rfl))))
      go_wp2_with fail
      refine cA.mono ?_
      rintro e' W3 ⟨rfl, hb3⟩
      go_wp2_with fail
      go_ret
      rw [HV.out]
      exact ⟨rfl, by first | exact bt5 HB2.out hb3 | (rw [← hpp]; exact bt5 HB2.out hb3)⟩
    | true =>
      by_cases e0 : e = 0
      case neg =>
        have e0b : (e == 0) = false := by simpa using e0
        have HV := Lib.hid (HR.out.trans (if_pos (.inl e0)))
        clear e0
        go_wp2_with fail
        refine cA.mono ?_
        rintro e' W3 ⟨rfl, hb3⟩
        go_wp2_with fail
        go_ret
        rw [HV.out]
        exact ⟨rfl, by first | exact bt5 HB2.out hb3 | (rw [← hpp]; exact bt5 HB2.out hb3)⟩
      case pos =>
        subst e0
        have HV := Lib.hid (HR.out.trans (if_neg (by simp)))
        have cT := fun W => fits_w XL kd sz W
        obtain ⟨q, hq⟩ : ∃ q, (if kd = 2 then decide (XL ≤ 1048576) else decide ((XL : Int) = sz)) = q := ⟨_, rfl⟩
        rw [hq] at HV cT
        clear hq HR
        go_wp2_with fail
        refine cA.mono ?_
        rintro e' W3 ⟨rfl, hb3'⟩
        have hb3 := bt5 HB2.out hb3'
        have b3 := blk_later H2.out hb3'
        clear c0 c1 c2 c3 c4 c5 c6 H2 HB2 hb3' cA
        obtain ⟨c0, c1, c2, c3, c4, c5, c6⟩ := set7 b3
        clear b3
        go_wp2_with fail
        refine (cT _).mono ?_
        rintro e' W4 ⟨rfl, rfl⟩
        go_wp2_with fail
        go_ret
        rw [HV.out]
        exact ⟨rfl, by first | exact hb3 | (rw [← hpp]; exact hb3)⟩

set_option maxHeartbeats 6400000 in
set_option maxRecDepth 100000 in
theorem pPrint_w (s : St.S) (fv bv : Value) (fs : List Fld.F) (x m : List UInt8) (w : World) (hF : FIn w fv fs) (hS : Small fs) (hfl : fs.length ≤ 1000) (hx : BIn w bv x) (hxn : NilOk bv) (hxl : x.length ≤ 1000000) (z1 : s.method.length ≤ 100000) (z2 : s.target.length ≤ 100000) (z3 : s.reason.length ≤ 100000) (z4 : s.status ≤ 9223372036854775807) (z5 : s.minor ≤ 9223372036854775807) (hE : Env w) :
    Calls Tryz.prog 16 #[mval s fv bv, .string (str m)] w fun e w' => (∃ u, e = .returned (.tuple #[u, .int .i64 (if Ms.right ⟨s, fs, x⟩ m = true then 0 else 10)]) ∧ BIn w' u (if Ms.right ⟨s, fs, x⟩ m = true then Ms.print ⟨s, fs, x⟩ m else []) ∧ NilOk u) ∧ Below w.heap.size w w' := by
  have HRR := Lib.hid (fun (W : World) (hb : Below w.heap.size w W) => (by have h := pRight_w s fv bv fs x m W (hF.later hb) hS hfl (hx.later hb) (by omega) z1 z2 z3; rw [mval_s] at h; exact h))
  have HFR := Lib.hid (fun (W : World) (hb : Below w.heap.size w W) => (by have h := pFraming_w s fv bv fs m W (hF.later hb) hS hfl; rw [mval_s] at h; exact h))
  have HSP := Lib.hid (fun (W : World) (hb : Below w.heap.size w W) => (by have h := Print_st s W z1 z2 z3 z4 z5 (hE.2.later hb); rw [sval_s] at h; exact h))
  have HFP := Lib.hid (fun (W : World) (hb : Below w.heap.size w W) (h0 : Fld.fault fs = 0) => Print_yes fv fs W (hF.later hb) hS h0)
  have HX := Lib.hid (fun (W : World) (hb : Below w.heap.size w W) => hx.later hb)
  have HXN := Lib.hid hxn
  have HXL := Lib.hid hxl
  have HET := Lib.hid hE.2
  have HLEN := Lib.hid (fun (h : Ms.right ⟨s, fs, x⟩ m = true) => ((by
    obtain ⟨_, h2, h3, _⟩ := Ms.right_parts h
    refine ⟨h2, h3, ?_, ?_⟩
    · rw [Fld.print_length]; have : Fld.size fs ≤ 65536 := (Fld.fault_zero h3).2.2; omega
    · have a := St.body_len h2
      rw [St.text_len]
      by_cases h0 : s.status = 0
      · have := a.1 h0; simp only [] at this; omega
      · have := a.2 h0; simp only [] at this; omega) : St.right s = true ∧ Fld.fault fs = 0 ∧ (Fld.print fs).length ≤ 70000 ∧ (St.text s).length ≤ 9000))
  obtain ⟨⟨kd, sz, e⟩, hfr⟩ : ∃ y, Ms.framed s fs m = y := ⟨_, rfl⟩
  have HR : Hid (Ms.print ⟨s, fs, x⟩ m = (St.text s ++ Fld.print fs) ++ (if kd = 2 then Ck.encode [x] else x)) := Lib.hid (by unfold Ms.print Ms.kind Ms.head; rw [hfr])
  rw [hfr] at HFR
  obtain ⟨ba, bc, rfl⟩ : ∃ a c, bv = .slice a x.length c := by obtain ⟨a, c, h, _⟩ := hx; exact ⟨a, c, h⟩
  obtain ⟨XL, hXL⟩ : ∃ XL, XL = x.length := ⟨_, rfl⟩
  rw [← hXL] at HFR HRR HX HXN ⊢
  generalize Ms.print ⟨s, fs, x⟩ m = pr at *
  rw [mval_s]
  cases hrr : Ms.right ⟨s, fs, x⟩ m with
  | false =>
    rw [hrr] at HRR
    generalize str s.method = a0 at *
    generalize str s.target = a1 at *
    generalize s.status = st at *
    generalize str s.reason = a3 at *
    generalize s.minor = mi at *
    clear hF hS hfl hx hxn hxl z1 z2 z3 z4 z5 hE hfr HFR HSP HFP hXL hrr HLEN HR
    go_enter Tryz.func16, Tryz.ntmps16
    go_upto_region 1 with fail
    have b0 : (w.alloc (.cells #[.string a0, .string a1, .int .i64 st, .string a3, .int .i64 mi, fv, .slice ba XL bc] 28)).heap[w.heap.size]? = some (.cells #[.string a0, .string a1, .int .i64 st, .string a3, .int .i64 mi, fv, .slice ba XL bc] 28 (0, 0)) := heap_alloc_new w _
    have hb0 : Below w.heap.size w (w.alloc (.cells #[.string a0, .string a1, .int .i64 st, .string a3, .int .i64 mi, fv, .slice ba XL bc] 28)) := (Below.refl _ w).alloc (Nat.le_refl _) _
    generalize w.alloc (.cells #[.string a0, .string a1, .int .i64 st, .string a3, .int .i64 mi, fv, .slice ba XL bc] 28) = W0 at *
    have cR := HRR.out W0 hb0
    go_wp2_with (refine ldM b0 rfl (.tmp 2) rfl rfl ?_)
    refine cR.mono ?_
    rintro e' W1 ⟨rfl, hb1⟩
    have hB := bt5 hb0 hb1
    go_wp2_with fail
    go_ret2
    exact ⟨⟨_, rfl, (bin_nil W1).1, (bin_nil W1).2⟩, hB⟩
  | true =>
    obtain ⟨r1, r2, r3, r4⟩ := HLEN.out hrr
    rw [hrr] at HRR
    have HFP := Lib.hid (fun W hb => HFP.out W hb r2)
    have HTX := Lib.hid (rfl : str s.method = str s.method)
    rw [r1] at HSP
    have HRT := Lib.hid (⟨r3, r4⟩ : (Fld.print fs).length ≤ 70000 ∧ (St.text s).length ≤ 9000)
    simp only [if_true] at HSP ⊢
    generalize St.text s = T1 at *
    generalize Fld.print fs = T2 at *
    generalize str s.method = a0 at *
    generalize str s.target = a1 at *
    generalize s.status = st at *
    generalize str s.reason = a3 at *
    generalize s.minor = mi at *
    have HE := Lib.hid hE.2
    clear hF hS hfl hx hxn hxl z1 z2 z3 z4 z5 hE hfr hXL hrr HLEN r1 r2 r3 r4 HTX
    go_enter Tryz.func16, Tryz.ntmps16
    go_upto_region 1 with fail
    have b0 : (w.alloc (.cells #[.string a0, .string a1, .int .i64 st, .string a3, .int .i64 mi, fv, .slice ba XL bc] 28)).heap[w.heap.size]? = some (.cells #[.string a0, .string a1, .int .i64 st, .string a3, .int .i64 mi, fv, .slice ba XL bc] 28 (0, 0)) := heap_alloc_new w _
    have hb0 : Below w.heap.size w (w.alloc (.cells #[.string a0, .string a1, .int .i64 st, .string a3, .int .i64 mi, fv, .slice ba XL bc] 28)) := (Below.refl _ w).alloc (Nat.le_refl _) _
    generalize w.alloc (.cells #[.string a0, .string a1, .int .i64 st, .string a3, .int .i64 mi, fv, .slice ba XL bc] 28) = W0 at *
    generalize hpp : w.heap.size = p at b0 ⊢
    have cR := HRR.out W0 hb0
    go_wp2_with (refine ldM b0 rfl (.tmp 2) rfl rfl ?_)
    refine cR.mono ?_
    rintro e' W1 ⟨rfl, hb1'⟩
    have b1 := blk_later b0 hb1'
    have hb1 := bt5 hb0 hb1'
    obtain ⟨c0, c1, c2, c3, c4, c5, c6⟩ := set7 b1
    have cS := HSP.out W1 hb1
    clear b0 hb0 hb1' cR HRR HSP
    go_wp2_with fail
    refine cS.mono ?_
    rintro e' W2 ⟨⟨v1, rfl, hv1, hn1⟩, hb2'⟩
    obtain ⟨va1, vc1, rfl⟩ : ∃ a c, v1 = .slice a T1.length c := by obtain ⟨a, c, h, _⟩ := hv1; exact ⟨a, c, h⟩
    have b2 := blk_later b1 hb2'
    have hb2 := bt5 hb1 hb2'
    have cP := HFP.out W2 hb2
    have H1 := Lib.hid hn1
    clear c0 c1 c2 c3 c4 c5 c6 b1 hb1 hb2' cS HFP hn1
    obtain ⟨c0, c1, c2, c3, c4, c5, c6⟩ := set7 b2
    go_wp2_with fail
    refine cP.mono ?_
    rintro e' W3 ⟨v2, rfl, hB2⟩
    have hb3' := hB2.2
    have b3 := blk_later b2 hb3'
    have hb3 := bt5 hb2 hb3'
    have hv1 := hv1.later hb3'
    have hv2 := hB2.in_
    obtain ⟨va2, vc2, rfl⟩ : ∃ a c, v2 = .slice a T2.length c := by obtain ⟨a, c, h, _⟩ := hv2.1; exact ⟨a, c, h⟩
    clear c0 c1 c2 c3 c4 c5 c6 b2 hb2 hb3' cP hB2
    obtain ⟨c0, c1, c2, c3, c4, c5, c6⟩ := set7 b3
    have cF := HFR.out W3 hb3
    go_wp2_with (first | refine ldM b3 rfl (.tmp 2) rfl rfl ?_)
    refine cF.mono ?_
    rintro e' W4 ⟨rfl, hb4'⟩
    have hb4 := bt5 hb3 hb4'
    have hv1 := hv1.later hb4'
    have hv2a := hv2.1.later hb4'
    have H2 := Lib.hid hv2.2
    clear c0 c1 c2 c3 c4 c5 c6 b3 hb3 hb4' cF HFR hv2
    by_cases k2 : kd = 2
    · have HR2 : Hid (pr = T1 ++ T2 ++ Ck.encode [x]) := Lib.hid (by rw [HR.out, if_pos k2])
      have hbs := bs_lit W4 #[.slice ba XL bc] [x] 1 rfl (by decide) (fun j hj => by
        match j, hj with
        | 0, _ => exact ⟨_, rfl, HX.out W4 hb4, HXN.out⟩)
      have hez := enc_one_len x (by have := HXL.out; omega)
      have hb5' : Below W4.heap.size W4 (W4.alloc (.cells #[.slice ba XL bc] 22)) := (Below.refl _ W4).alloc (Nat.le_refl _) _
      have cE := encode_b _ [x] _ hez hbs (HE.out.later (bt5 hb4 hb5'))
      have hv1 := hv1.later hb5'
      have hv2a := hv2a.later hb5'
      have hb5 := bt5 hb4 hb5'
      have HEZ := Lib.hid hez
      subst k2
      clear hbs hb5' HR HX HXN HE hb4 HET hez
      go_wp2_with fail
      refine cE.mono ?_
      rintro e' W6 ⟨⟨u, rfl, hu⟩, hb6'⟩
      have hb6 := bt5 hb5 hb6'
      have hu := hu.in_
      obtain ⟨va3, vc3, rfl⟩ : ∃ a c, u = .slice a (Ck.encode [x]).length c := by obtain ⟨a, c, h, _⟩ := hu.1; exact ⟨a, c, h⟩
      have hv1 := hv1.later hb6'
      have hv2a := hv2a.later hb6'
      clear hb6' cE hb5
      have hb7' : Below W6.heap.size W6 (W6.alloc (.cells #[.slice va1 T1.length vc1, .slice va2 T2.length vc2, .slice va3 (Ck.encode [x]).length vc3] 22)) := (Below.refl _ W6).alloc (Nat.le_refl _) _
      have cC := ConcatB_w (.slice va1 T1.length vc1) (.slice va2 T2.length vc2) (.slice va3 (Ck.encode [x]).length vc3) T1 T2 (Ck.encode [x]) W6.heap.size (W6.alloc (.cells #[.slice va1 T1.length vc1, .slice va2 T2.length vc2, .slice va3 (Ck.encode [x]).length vc3] 22)) (hv1.later hb7') (hv2a.later hb7') (hu.1.later hb7') H1.out H2.out hu.2 (by simp) (by rw [World.cell?_alloc_at _ _ _ _ rfl]; rfl) (by rw [World.cell?_alloc_at _ _ _ _ rfl]; rfl) (by rw [World.cell?_alloc_at _ _ _ _ rfl]; rfl) (by have := HRT.out; omega) (by have := HRT.out; omega) (by have := HEZ.out; omega)
      have hb7 := bt5 hb6 hb7'
      clear hb7' hb6 hv1 hv2a hu
      go_wp2_with fail
      refine cC.mono ?_
      rintro e' W8 ⟨u2, rfl, hu2⟩
      have hB := bt5 hb7 hu2.2
      have hu2 := hu2.in_
      clear cC
      go_wp2_with fail
      go_ret2
      refine ⟨⟨u2, rfl, ?_, hu2.2⟩, by first | exact hB | (rw [← hpp]; exact hB)⟩
      rw [HR2.out]; exact hu2.1
    · have HR2 : Hid (pr = T1 ++ T2 ++ x) := Lib.hid (by rw [HR.out, if_neg k2])
      have k2b : (kd == 2) = false := beq_eq_false_iff_ne.2 k2
      have hx4 := HX.out W4 hb4
      clear HR HX HE HET k2
      have hb7' : Below W4.heap.size W4 (W4.alloc (.cells #[.slice va1 T1.length vc1, .slice va2 T2.length vc2, .slice ba XL bc] 22)) := (Below.refl _ W4).alloc (Nat.le_refl _) _
      have cC := ConcatB_w (.slice va1 T1.length vc1) (.slice va2 T2.length vc2) (.slice ba XL bc) T1 T2 x W4.heap.size (W4.alloc (.cells #[.slice va1 T1.length vc1, .slice va2 T2.length vc2, .slice ba XL bc] 22)) (hv1.later hb7') (hv2a.later hb7') (hx4.later hb7') H1.out H2.out HXN.out (by simp) (by rw [World.cell?_alloc_at _ _ _ _ rfl]; rfl) (by rw [World.cell?_alloc_at _ _ _ _ rfl]; rfl) (by rw [World.cell?_alloc_at _ _ _ _ rfl]; rfl) (by have := HRT.out; omega) (by have := HRT.out; omega) (by have := HXL.out; omega)
      have hb7 := bt5 hb4 hb7'
      clear hb7' hb4 hv1 hv2a hx4
      go_wp2_with fail
      refine cC.mono ?_
      rintro e' W8 ⟨u2, rfl, hu2⟩
      have hB := bt5 hb7 hu2.2
      have hu2 := hu2.in_
      clear cC
      go_wp2_with fail
      go_ret2
      refine ⟨⟨u2, rfl, ?_, hu2.2⟩, by first | exact hB | (rw [← hpp]; exact hB)⟩
      rw [HR2.out]; exact hu2.1

theorem prog8 : Prog8 Env where
  later := fun h hb => ⟨h.1.later hb, h.2.later hb⟩
  parse_new := fun v l asks m w hl hm h hn hE => read8.parse_new v l asks m w hl hm h hn hE.1
  framing := fun s fv bv fs x m w hs hF _ _ _ => pFraming_w s fv bv fs m w hF hs.small (by have := hs.count; omega)
  right := fun s fv bv fs x m w hs hF hx _ _ => pRight_w s fv bv fs x m w hF hs.small (by have := hs.count; omega) hx (by have := hs.body; omega) (by have := hs.method; omega) (by have := hs.target; omega) (by have := hs.reason; omega)
  print := fun s fv bv fs x m w hs hF hx hxn hE => pPrint_w s fv bv fs x m w hF hs.small (by have := hs.count; omega) hx hxn (by have := hs.body; omega) (by have := hs.method; omega) (by have := hs.target; omega) (by have := hs.reason; omega) hs.status hs.minor hE
end Go.Proofs.YtlbjjeonchcgbaaGreatDoor
