/- Package message, the program: the header is taken, and a reader goes on to the body. -/
import Derived.Test.YtlbjjeonchcgbaaGreatDoorMsP3
import Derived.Test.YtlbjjeonchcgbaaGreatDoorMsF
namespace Go.Proofs.YtlbjjeonchcgbaaGreatDoor
open Go.RowKit

/-- Where a reader stands behind its framing. -/
def FrameTo (w w' : World) (g : Nat) (asks hd : Bool) (s : St.S) (fv : Value) (kd sz : Int) : Prop :=
  (kd = 2 ∧ ∃ d, w.heap.size ≤ d ∧ 1 ≠ d ∧ Dst w' d (.size 0) 0 ∧ RB w' g #[.int .i64 3, .string (str s.method), .string (str s.target), .int .i64 s.status, .string (str s.reason), .int .i64 s.minor, fv, .slice none 0 0, .int .i64 0, .pointer (some ⟨d, 0, none⟩), .bool asks, .bool hd, .int .i64 0]) ∨
    (kd ≠ 2 ∧ RB w' g #[.int .i64 2, .string (str s.method), .string (str s.target), .int .i64 s.status, .string (str s.reason), .int .i64 s.minor, fv, .slice none 0 0, .int .i64 sz, .pointer none, .bool asks, .bool hd, .int .i64 0])
set_option maxHeartbeats 6400000 in
set_option maxRecDepth 100000 in
theorem frame_w (g : Nat) (asks hd : Bool) (s : St.S) (fs : List Fld.F) (fa : Option Addr) (N fc : Nat) (w : World) (hR : RB w g #[.int .i64 1, .string (str s.method), .string (str s.target), .int .i64 s.status, .string (str s.reason), .int .i64 s.minor, .slice fa N fc, .slice none 0 0, .int .i64 0, .pointer none, .bool asks, .bool hd, .int .i64 0]) (hF : FIn w (.slice fa N fc) fs) (hfit : Fit fs) (hm : MaxOk w) :
    Calls Tryz.prog 93 #[.pointer (some ⟨g, 0, none⟩)] w fun x w' => x = .returned (.int .i64 (Ms.framed s fs (Ms.asHead hd)).2.2) ∧ Buts g g w w' ∧
      FrameTo w w' g asks hd s (.slice fa N fc) (Ms.framed s fs (Ms.asHead hd)).1 (Ms.framed s fs (Ms.asHead hd)).2.1 := by
  have hmx := maxOk_lt hm
  have cF := fun (W : World) (hb : Below w.heap.size w W) => pframing_w s (.slice fa N fc) (.slice none 0 0) fs hd W (hF.later hb) hfit.small (by have := hfit.1; omega)
  simp only [mval_s] at cF
  obtain ⟨⟨kd, sz, e⟩, hkd⟩ : ∃ x, (Ms.framed s fs (Ms.asHead hd)) = x := ⟨_, rfl⟩
  rw [hkd] at cF ⊢
  have cN := fun (W : World) => new_w W
  have hR0 := hR
  obtain ⟨a0, ha0⟩ : ∃ a, str s.method = a := ⟨_, rfl⟩
  obtain ⟨a1, ha1⟩ : ∃ a, str s.target = a := ⟨_, rfl⟩
  obtain ⟨ss, hss⟩ : ∃ a, s.status = a := ⟨_, rfl⟩
  obtain ⟨a3, ha3⟩ : ∃ a, str s.reason = a := ⟨_, rfl⟩
  obtain ⟨si, hsi⟩ : ∃ a, s.minor = a := ⟨_, rfl⟩
  rw [ha0, ha1, hss, ha3, hsi] at hR
  simp only [ha0, ha1, hss, ha3, hsi] at cF
  have HEQ := Lib.hid (fun (w' : World) (h : (kd = 2 ∧ ∃ d, w.heap.size ≤ d ∧ 1 ≠ d ∧ Dst w' d (.size 0) 0 ∧ RB w' g #[.int .i64 3, .string a0, .string a1, .int .i64 ss, .string a3, .int .i64 si, .slice fa N fc, .slice none 0 0, .int .i64 0, .pointer (some ⟨d, 0, none⟩), .bool asks, .bool hd, .int .i64 0]) ∨ (kd ≠ 2 ∧ RB w' g #[.int .i64 2, .string a0, .string a1, .int .i64 ss, .string a3, .int .i64 si, .slice fa N fc, .slice none 0 0, .int .i64 sz, .pointer none, .bool asks, .bool hd, .int .i64 0])) => (by unfold FrameTo; rw [ha0, ha1, hss, ha3, hsi]; exact h : FrameTo w w' g asks hd s (.slice fa N fc) kd sz))
  clear ha0 ha1 hss ha3 hsi hR0
  have HR := Lib.hid hR
  have HMX := Lib.hid hmx
  clear hF hfit hkd hm hmx hR
  go_enter Tryz.func93, Tryz.ntmps93
  go_upto_region 1 with fail
  have HA0 : Hid (Below w.heap.size w w.drew) := Lib.hid (Below.refl _ w).drew
  have KEY := Lib.hid (fun (W : World) (hb : Below w.heap.size w W) => (by
    obtain ⟨_, c1, c2, c3, c4, c5, c6, c7, _, _, _, cb, _⟩ := (HR.out.later hb).set13
    exact ⟨c1, c2, c3, c4, c5, c6, c7, cb⟩ : W.cell? ⟨g, 1, none⟩ = some (.string a0) ∧ W.cell? ⟨g, 2, none⟩ = some (.string a1) ∧ W.cell? ⟨g, 3, none⟩ = some (.int .i64 ss) ∧ W.cell? ⟨g, 4, none⟩ = some (.string a3) ∧ W.cell? ⟨g, 5, none⟩ = some (.int .i64 si) ∧ W.cell? ⟨g, 6, none⟩ = some (.slice fa N fc) ∧ W.cell? ⟨g, 7, none⟩ = some (.slice none 0 0) ∧ W.cell? ⟨g, 11, none⟩ = some (.bool hd)))
  go_region_held3 (fun w' => w'.cell? ⟨g, 1, none⟩ = some (.string a0) ∧ w'.cell? ⟨g, 2, none⟩ = some (.string a1) ∧ w'.cell? ⟨g, 3, none⟩ = some (.int .i64 ss) ∧ w'.cell? ⟨g, 4, none⟩ = some (.string a3) ∧ w'.cell? ⟨g, 5, none⟩ = some (.int .i64 si) ∧ w'.cell? ⟨g, 6, none⟩ = some (.slice fa N fc) ∧ w'.cell? ⟨g, 7, none⟩ = some (.slice none 0 0) ∧ w'.cell? ⟨g, 11, none⟩ = some (.bool hd))
    (first | exact KEY.out _ HA6.out | exact KEY.out _ HA0.out)
    ((go_at_call 30; refine (cF _ HA0.out).mono ?_; rintro x w6 ⟨rfl, hb6⟩; have HA6 := Lib.hid (bt5 HA0.out hb6); clear hb6))
  have hR6 := HR.out.later HA6.out
  have HR6 := Lib.hid hR6
  obtain ⟨c0, _, _, _, _, _, _, _, c8, c9, _, _, _⟩ := hR6.set13
  clear hR6 cF KEY HA0 HR
  by_cases k2 : kd = 2
  · subst k2
    go_wp2_with fail
    refine (cN _).mono ?_
    rintro x w7 ⟨rfl, hl7, hD7, hb7⟩
    have hR7 := HR6.out.later hb7
    have HR7 := Lib.hid hR7
    have HB7 := Lib.hid (bt5 HA6.out hb7)
    have HD7 := Lib.hid hD7
    have HS6 : Hid (w.heap.size ≤ w6.heap.size) := Lib.hid HA6.out.size
    have HGW : Hid (g < w6.heap.size) := Lib.hid HR6.out.lt
    generalize hdd : w6.heap.size = d at *
    obtain ⟨d0, _, _, _, _, _, _, _, _, d9, _, _, _⟩ := hR7.set13
    have f0 := hR7.free 0
    have f9 := hR7.free 9
    clear c0 c8 c9 HR6 cN hR7 hD7 hb7 hl7
    go_wp2_with fail
    go_ret
    refine ⟨by trivial, ((Buts.of HB7.out).put 0 _).put 9 _, HEQ.out _ (Or.inl ⟨by trivial, d, HS6.out, by have := HMX.out; have := HS6.out; omega, ?_, ?_⟩)⟩
    · refine HD7.out.same ?_
      have hne : d ≠ g := by have := HGW.out; omega
      rw [Below.heap_setCell _ _ _ _ (by simpa using hne), Below.heap_setCell _ _ _ _ (by simpa using hne)]
    · exact (HR7.out.put 0 _).put 9 _
  · have k2b : (kd == 2) = false := beq_eq_false_iff_ne.2 k2
    have f0 := HR6.out.free 0
    have f8 := HR6.out.free 8
    have K2 := Lib.hid k2
    clear k2
    go_wp2_with fail
    go_ret
    exact ⟨by trivial, ((Buts.of HA6.out).put 0 _).put 8 _, HEQ.out _ (Or.inr ⟨K2.out, (HR6.out.put 0 _).put 8 _⟩)⟩

set_option maxHeartbeats 6400000 in
set_option maxRecDepth 100000 in
theorem takeHeader_wait (g d : Nat) (asks hd : Bool) (s : St.S) (v : Value) (l : List UInt8) (w : World) (hR : RB w g (rcs 1 (.head s) (.slice none 0 0) d asks hd 0)) (hl : l.length ≤ 500000) (h : BIn w v l) (hn : NilOk v) (hm : MaxOk w) {fs : List Fld.F} {k : Nat} (hq : Fld.parse l = (fs, k, 11)) :
    Calls Tryz.prog 72 #[.pointer (some ⟨g, 0, none⟩), v] w fun x w' => x = .returned (.tuple #[.int .i64 0, .int .i64 0]) ∧ Below w.heap.size w w' ∧ RB w' g (rcs 1 (.head s) (.slice none 0 0) d asks hd 0) := by
  have cP := Parse_b v l w (by omega) h hn hm
  rw [hq] at cP
  have HR := Lib.hid hR
  clear hl h hn hm hR hq
  go_enter Tryz.func72, Tryz.ntmps72
  go_wp2_with fail
  refine cP.mono ?_
  rintro x w1 ⟨u, rfl, hB⟩
  have HB := Lib.hid hB.2
  clear cP hB
  go_wp2_with fail
  go_ret2
  exact ⟨rfl, HB.out, HR.out.later HB.out⟩

set_option maxHeartbeats 6400000 in
set_option maxRecDepth 100000 in
theorem takeHeader_bad (g d : Nat) (asks hd : Bool) (s : St.S) (v : Value) (l : List UInt8) (w : World) (hR : RB w g (rcs 1 (.head s) (.slice none 0 0) d asks hd 0)) (hl : l.length ≤ 500000) (h : BIn w v l) (hn : NilOk v) (hm : MaxOk w) {fs : List Fld.F} {k : Nat} {e : Int} (hq : Fld.parse l = (fs, k, e)) (h0 : e ≠ 0) (h1 : e ≠ 11) :
    Calls Tryz.prog 72 #[.pointer (some ⟨g, 0, none⟩), v] w fun x w' => x = .returned (.tuple #[.int .i64 0, .int .i64 e]) ∧ Below w.heap.size w w' ∧ RB w' g (rcs 1 (.head s) (.slice none 0 0) d asks hd 0) := by
  have cP := Parse_b v l w (by omega) h hn hm
  rw [hq] at cP
  have HR := Lib.hid hR
  have e1 : (e == 0) = false := beq_eq_false_iff_ne.2 h0
  have e2 : (e == 11) = false := beq_eq_false_iff_ne.2 h1
  clear hl h hn hm hR hq h0 h1
  go_enter Tryz.func72, Tryz.ntmps72
  go_wp2_with fail
  refine cP.mono ?_
  rintro x w1 ⟨u, rfl, hB⟩
  have HB := Lib.hid hB.2
  clear cP hB
  go_wp2_with fail
  go_ret2
  exact ⟨rfl, HB.out, HR.out.later HB.out⟩

/-- Behind a header that is whole: its fields, where they lie; and where the reader stands. -/
def HeadTo (w w' : World) (g : Nat) (asks hd : Bool) (s : St.S) (fs : List Fld.F) : Prop :=
  Buts g g w w' ∧ ∃ fa N fc w1, FIn w' (.slice fa N fc) fs ∧ NilOk (.slice fa N fc) ∧ (∀ ad, fa = some ad → ad.block ≠ g) ∧ w.heap.size ≤ w1.heap.size ∧ FrameTo w1 w' g asks hd s (.slice fa N fc) (Ms.framed s fs (Ms.asHead hd)).1 (Ms.framed s fs (Ms.asHead hd)).2.1
set_option maxHeartbeats 6400000 in
set_option maxRecDepth 100000 in
theorem takeHeader_ok (g d : Nat) (asks hd : Bool) (s : St.S) (v : Value) (l : List UInt8) (w : World) (hR : RB w g (rcs 1 (.head s) (.slice none 0 0) d asks hd 0)) (hl : l.length ≤ 500000) (h : BIn w v l) (hn : NilOk v) (hm : MaxOk w) (hgm : 1 ≠ g) {fs : List Fld.F} {k : Nat} (hq : Fld.parse l = (fs, k, 0)) :
    Calls Tryz.prog 72 #[.pointer (some ⟨g, 0, none⟩), v] w fun x w' => x = .returned (.tuple #[.int .i64 k, .int .i64 (Ms.framed s fs (Ms.asHead hd)).2.2]) ∧ HeadTo w w' g asks hd s fs := by
  have cP := Parse_b v l w (by omega) h hn hm
  rw [hq] at cP
  have hR0 : RB w g #[.int .i64 1, .string (str s.method), .string (str s.target), .int .i64 s.status, .string (str s.reason), .int .i64 s.minor, .slice none 0 0, .slice none 0 0, .int .i64 0, .pointer none, .bool asks, .bool hd, .int .i64 0] := hR
  have hfit : Fit fs := by
    have := Fld.parse_small l
    rw [hq] at this
    exact ⟨this.1, fun f hf => ⟨by have := (this.2 f hf).1; omega, by have := (this.2 f hf).2; omega⟩⟩
  have cF := fun (fa : Option Addr) (N fc : Nat) (W : World) (h1 : RB W g #[.int .i64 1, .string (str s.method), .string (str s.target), .int .i64 s.status, .string (str s.reason), .int .i64 s.minor, .slice fa N fc, .slice none 0 0, .int .i64 0, .pointer none, .bool asks, .bool hd, .int .i64 0]) (h2 : FIn W (.slice fa N fc) fs) (h3 : MaxOk W) => frame_w g asks hd s fs fa N fc W h1 h2 hfit h3
  have HT := Lib.hid (fun (w' : World) (h : HeadTo w w' g asks hd s fs) => h)
  have HU : Hid (∀ (fa : Option Addr) (N fc : Nat) (w1 w' : World), Buts g g w w' → FIn w' (.slice fa N fc) fs → NilOk (.slice fa N fc) → (∀ ad, fa = some ad → ad.block ≠ g) → w.heap.size ≤ w1.heap.size → FrameTo w1 w' g asks hd s (.slice fa N fc) (Ms.framed s fs (Ms.asHead hd)).1 (Ms.framed s fs (Ms.asHead hd)).2.1 → HeadTo w w' g asks hd s fs) := Lib.hid (fun fa N fc w1 w' hb hf hn ho hs hfr => ⟨hb, fa, N, fc, w1, hf, hn, ho, hs, hfr⟩)
  have HM := Lib.hid hm
  have HGM := Lib.hid hgm
  clear hgm
  have HGW : Hid (g < w.heap.size) := Lib.hid hR.lt
  obtain ⟨kd, hkd⟩ : ∃ x, (Ms.framed s fs (Ms.asHead hd)) = x := ⟨_, rfl⟩
  simp only [hkd] at cF HU ⊢
  have HR := Lib.hid hR0
  obtain ⟨a0, ha0⟩ : ∃ a, str s.method = a := ⟨_, rfl⟩
  obtain ⟨a1, ha1⟩ : ∃ a, str s.target = a := ⟨_, rfl⟩
  obtain ⟨ss, hss⟩ : ∃ a, s.status = a := ⟨_, rfl⟩
  obtain ⟨a3, ha3⟩ : ∃ a, str s.reason = a := ⟨_, rfl⟩
  obtain ⟨si, hsi⟩ : ∃ a, s.minor = a := ⟨_, rfl⟩
  simp only [ha0, ha1, hss, ha3, hsi] at cF HR
  clear ha0 ha1 hss ha3 hsi hR0 hR hl h hn hm hq hkd hfit HT
  go_enter Tryz.func72, Tryz.ntmps72
  go_wp2_with fail
  refine cP.mono ?_
  rintro x w1 ⟨u, rfl, hB⟩
  obtain ⟨fa, fc, rfl, _⟩ : ∃ a c, u = .slice a fs.length c ∧ True := by obtain ⟨a, c, h, _⟩ := hB.fin; exact ⟨a, c, h, trivial⟩
  obtain ⟨N, hN⟩ : ∃ N, fs.length = N := ⟨_, rfl⟩
  have hNk := row_nilok hB.1
  have hoff : ∀ ad, fa = some ad → ad.block ≠ g := by
    intro ad had
    have hgw := HGW.out
    rcases hB.1.2 with ⟨hv, _⟩ | ⟨b, cap, cur, hv, hb, _⟩
    · injection hv with h1; rw [had] at h1; cases h1
    · injection hv with h1; rw [had] at h1; cases h1; show b ≠ g; omega
  have hF1 := hB.fin
  have hB1 := hB.2
  have HOFF := Lib.hid hoff
  have HNK := Lib.hid hNk
  have hR1 := HR.out.later hB1
  have HF1 := Lib.hid hF1
  have HB1 := Lib.hid hB1
  have HR1 := Lib.hid hR1
  clear hN N hB cP hNk hoff hF1 hB1 HR
  obtain ⟨_, _, _, _, _, _, c6, _, _, _, _, _, _⟩ := hR1.set13
  have f6 := hR1.free 6
  generalize fs.length = N at *
  clear hR1
  go_upto_region 5 with fail
  have hR2 := HR1.out.put 6 (.slice fa N fc)
  have hU2 : Buts g g w1 (w1.setCell ⟨g, 6, none⟩ (.slice fa N fc)) := (Buts.refl g g w1).put 6 _
  generalize w1.setCell ⟨g, 6, none⟩ (.slice fa N fc) = w2 at *
  have hF2 := HF1.out.buts hU2 (fun ad n c e => by injection e with e1; exact ⟨HOFF.out ad e1, HOFF.out ad e1⟩)
  have hM2 := (HM.out.later HB1.out).buts hU2 HGM.out HGM.out
  have HU2 := Lib.hid hU2
  have HF2 := Lib.hid hF2
  clear c6 f6 HR1 HF1 hU2
  go_wp2_with fail
  refine (cF fa N fc w2 hR2 hF2 hM2).mono ?_
  rintro x w3 ⟨rfl, hb3, hfr⟩
  have hF3 := HF2.out.buts hb3 (fun ad n c e => by injection e with e1; exact ⟨HOFF.out ad e1, HOFF.out ad e1⟩)
  have HZ := Lib.hid (HU.out fa N fc w2 w3 (((Buts.of HB1.out).trans HU2.out).trans hb3) hF3 HNK.out HOFF.out (Nat.le_trans HB1.out.size HU2.out.size) hfr)
  clear hF2 hM2 hR2 hb3 hfr hF3 cF HU
  go_wp2_with fail
  go_ret2
  exact ⟨by trivial, HZ.out⟩
end Go.Proofs.YtlbjjeonchcgbaaGreatDoor
