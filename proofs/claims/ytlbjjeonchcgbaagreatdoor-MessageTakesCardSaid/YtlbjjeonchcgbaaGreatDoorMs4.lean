/- Package message: the document's Print. -/
import Derived.Test.YtlbjjeonchcgbaaGreatDoorMs3
import Derived.Test.YtlbjjeonchcgbaaGreatDoorQuiet
namespace Go.Proofs.YtlbjjeonchcgbaaGreatDoor
open Go.RowKit

/-- A literal row of lists of octets. -/
theorem bs_lit (w : World) (C : Array Value) (ls : List (List UInt8)) (n : Nat) (hn : ls.length = n) (hl : n ≤ 1000000) (h : ∀ j (hj : j < ls.length), ∃ u, C[j]? = some u ∧ BIn w u ls[j] ∧ NilOk u) : BsIn (w.alloc (.cells C 22)) (.slice (some ⟨w.heap.size, 0, none⟩) n n) ls := by
  refine ⟨_, n, by rw [hn], by rw [hn]; exact Nat.le_refl _, by omega, .inr ⟨w.heap.size, 0, rfl, by simp, fun j hj => ?_⟩⟩
  obtain ⟨u, hu, hb, hnil⟩ := h j hj
  refine ⟨u, ?_, hb.later ((Below.refl _ w).alloc (Nat.le_refl _) _), hnil⟩
  rw [Nat.zero_add, World.cell?_alloc_at _ _ _ _ rfl]; exact hu

theorem enc_one_len (x : List UInt8) (h : x.length ≤ 5000000) : (Ck.encode [x]).length ≤ 10000000 := by
  unfold Ck.encode Ck.chunkOf
  by_cases h0 : x = []
  · subst h0; decide
  · simp only [List.flatMap_cons, List.flatMap_nil, List.append_nil]
    rw [if_neg h0]
    have h2 : (Oct.print (x.length : Int) 16).length ≤ 20 := Ck.hex_len 19 x.length (by omega)
    simp only [List.length_append, List.length_cons, List.length_nil]
    omega
set_option maxHeartbeats 6400000 in
set_option maxRecDepth 100000 in
theorem print_w (s : St.S) (fv bv : Value) (fs : List Fld.F) (x m : List UInt8) (w : World) (hF : FIn w fv fs) (hS : Small fs) (hfl : fs.length ≤ 1000) (hx : BIn w bv x) (hxn : NilOk bv) (hxl : x.length ≤ 5000000) (hm : m.length ≤ 1000000) (z1 : s.method.length ≤ 1000000) (z2 : s.target.length ≤ 1000000) (z3 : s.reason.length ≤ 1000000) (z4 : s.status ≤ 9223372036854775807) (z5 : s.minor ≤ 9223372036854775807) (hp : (Fld.print fs).length ≤ 100000000) (ht : (St.text s).length ≤ 100000000) :
    Calls Tryz.prog 19 #[mval s fv bv, .string (str m)] w fun e w' => e = .returned (.string (str (Ms.print ⟨s, fs, x⟩ m))) ∧ Below w.heap.size w w' := by
  have HFR := Lib.hid (fun (W : World) (hb : Below w.heap.size w W) => (by have h := framing_w s fv bv fs m W (hF.later hb) hS hfl hm; rw [mval_s] at h; exact h))
  have HSP := Lib.hid (fun (W : World) => (by have h := rPrint_st s W z1 z2 z3 z4 z5; rw [sval_s] at h; exact h))
  have HFP := Lib.hid (fun (W : World) (hb : Below w.heap.size w W) => rPrint_w fv fs W (hF.later hb) hS)
  have HX := Lib.hid (fun (W : World) (hb : Below w.heap.size w W) => hx.later hb)
  have HXN := Lib.hid hxn
  have HXL := Lib.hid hxl
  obtain ⟨⟨kd, sz, e⟩, hfr⟩ : ∃ y, Ms.framed s fs m = y := ⟨_, rfl⟩
  have HR : Hid (Ms.print ⟨s, fs, x⟩ m = (St.text s ++ Fld.print fs) ++ (if kd = 2 then Ck.encode [x] else x)) := Lib.hid (by unfold Ms.print Ms.kind Ms.head; rw [hfr])
  rw [hfr] at HFR
  have HW : Hid (∀ y, str (St.text s ++ Fld.print fs ++ y) = str (St.text s) ++ str (Fld.print fs) ++ str y) := Lib.hid (fun y => by
    rw [← str_of (str (St.text s) ++ str (Fld.print fs) ++ str y)]
    simp [str_list])
  have q1 : ((str (St.text s)).size : Int) ≤ 100000000 := by rw [str_size]; omega
  have q2 : ((str (Fld.print fs)).size : Int) ≤ 100000000 := by rw [str_size]; omega
  obtain ⟨ba, bc, rfl⟩ : ∃ a c, bv = .slice a x.length c := by obtain ⟨a, c, h, _⟩ := hx; exact ⟨a, c, h⟩
  generalize Ms.print ⟨s, fs, x⟩ m = pr at *
  rw [mval_s]
  generalize str (Fld.print fs) = T2 at *
  generalize str (St.text s) = T1 at *
  obtain ⟨T, hT⟩ : ∃ T, T1 ++ T2 = T := ⟨_, rfl⟩
  have hTz : (T.size : Int) ≤ 200000000 := by
    have h9 : T.size = T1.size + T2.size := by rw [← hT]; simp
    omega
  have hsum : ¬ 9223372036854775807 < T1.size + T2.size := by omega
  rw [hT] at HW
  clear hF hS hfl hx hxn hxl hm z1 z2 z3 z4 z5 hp ht hfr
  go_enter Tryz.func19, Tryz.ntmps19
  go_upto_region 1 with fail
  have b0 : (w.alloc (.cells #[.string (str s.method), .string (str s.target), .int .i64 s.status, .string (str s.reason), .int .i64 s.minor, fv, .slice ba x.length bc] 28)).heap[w.heap.size]? = some (.cells #[.string (str s.method), .string (str s.target), .int .i64 s.status, .string (str s.reason), .int .i64 s.minor, fv, .slice ba x.length bc] 28 (0, 0)) := heap_alloc_new w _
  have hb0 : Below w.heap.size w (w.alloc (.cells #[.string (str s.method), .string (str s.target), .int .i64 s.status, .string (str s.reason), .int .i64 s.minor, fv, .slice ba x.length bc] 28)) := (Below.refl _ w).alloc (Nat.le_refl _) _
  generalize w.alloc (.cells #[.string (str s.method), .string (str s.target), .int .i64 s.status, .string (str s.reason), .int .i64 s.minor, fv, .slice ba x.length bc] 28) = W0 at *
  obtain ⟨p, hpp⟩ : ∃ p, p = w.heap.size := ⟨_, rfl⟩
  rw [← hpp] at b0 ⊢
  obtain ⟨c0, c1, c2, c3, c4, c5, _⟩ := set7 b0
  have m0 := fun pp : LateOf W0 => pp.cell c0
  have m1 := fun pp : LateOf W0 => pp.cell c1
  have m2 := fun pp : LateOf W0 => pp.cell c2
  have m3 := fun pp : LateOf W0 => pp.cell c3
  have m4 := fun pp : LateOf W0 => pp.cell c4
  have l1 := fun pp : LateOf W0 => pp.cell c5
  have l2 := fun pp : LateOf W0 => HSP.out pp.w
  have l3 := fun pp : LateOf W0 => HFP.out pp.w (bt5 hb0 pp.h)
  have HB0 := Lib.hid b0
  have HBB := Lib.hid hb0
  clear b0 hb0 HSP HFP c0 c1 c2 c3 c4 c5 hpp
  refine wp_region_late (by kernel_rfl) (by kernel_rfl) ?_
  repeat (quiet_step (fail))
  quiet_step ((go_at_call 44; exact late _ (l2 _)))
  repeat (quiet_step (fail))
  quiet_step ((go_at_call 45; exact late _ (l3 _)))
  repeat (quiet_step (fail))
  refine wpQuiet_nil ?_
  intro W1 hw'
  have hb1' : Below W0.heap.size W0 W1 := by obtain ⟨pp, rfl⟩ := hw'; exact pp.h
  have b1 := blk_later HB0.out hb1'
  have hb1 := bt5 HBB.out hb1'
  have cF := HFR.out W1 hb1
  simp only [] at cF
  clear hw' m0 m1 m2 m3 m4 l1 l2 l3 HB0 HBB hb1' HFR
  go_wp2_with (refine ldM b1 rfl (.tmp 2) rfl rfl ?_)
  refine cF.mono ?_
  rintro e' W2 ⟨rfl, hb2'⟩
  have b2 := blk_later b1 hb2'
  have hb2 := bt5 hb1 hb2'
  obtain ⟨_, _, _, _, _, _, c6⟩ := set7 b2
  clear b1 hb1 hb2' b2
  by_cases k2 : kd = 2
  · have HR2 : Hid (pr = St.text s ++ Fld.print fs ++ Ck.encode [x]) := Lib.hid (by rw [HR.out, if_pos k2])
    have hbs := bs_lit W2 #[.slice ba x.length bc] [x] 1 rfl (by decide) (fun j hj => by
      match j, hj with
      | 0, _ => exact ⟨_, rfl, HX.out W2 hb2, HXN.out⟩)
    have cE := rEncode_w _ _ _ (enc_one_len x HXL.out) hbs
    have hez := enc_one_len x HXL.out
    have hb3 := hb2.alloc hb2.size (.cells #[.slice ba x.length bc] 22)
    have HB3 := Lib.hid hb3
    obtain ⟨E, hE⟩ : ∃ E, E = str (Ck.encode [x]) := ⟨_, rfl⟩
    have hEz : (E.size : Int) ≤ 10000000 := by rw [hE, str_size]; omega
    have HWE := HW.out (Ck.encode [x])
    rw [← hE] at HWE
    have HWE := Lib.hid HWE
    subst k2
    have hsum2 : ¬ 9223372036854775807 < T.size + E.size := by omega
    clear hbs hb2 hb3 hez HR HW
    go_wp2_with fail
    refine cE.mono ?_
    rintro e' W4 ⟨⟨u, rfl, hu, hun⟩, hb4⟩
    have hcv := hu.all hun
    rw [← hE] at hcv
    have hB := bt5 HB3.out hb4
    clear cE hu hun hb4 hE
    go_wp2_with fail
    go_ret
    refine ⟨?_, hB⟩
    rw [HR2.out, HWE.out]
    rfl
  · have HR2 : Hid (pr = St.text s ++ Fld.print fs ++ x) := Lib.hid (by rw [HR.out, if_neg k2])
    have k2b : (kd == 2) = false := beq_eq_false_iff_ne.2 k2
    have hcv := (HX.out W2 hb2).all HXN.out
    obtain ⟨E, hE⟩ : ∃ E, E = str x := ⟨_, rfl⟩
    have hEz : (E.size : Int) ≤ 10000000 := by rw [hE, str_size]; have := HXL.out; omega
    have HWE := HW.out x
    rw [← hE] at HWE hcv
    have HWE := Lib.hid HWE
    have hsum2 : ¬ 9223372036854775807 < T.size + E.size := by omega
    clear HR HW k2 hE
    go_wp2_with fail
    go_ret
    refine ⟨?_, hb2⟩
    rw [HR2.out, HWE.out]
    rfl
end Go.Proofs.YtlbjjeonchcgbaaGreatDoor
