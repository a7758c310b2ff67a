/- Package message, the program: octets are taken, whatever is awaited. -/
import Derived.Test.YtlbjjeonchcgbaaGreatDoorMsP6
namespace Go.Proofs.YtlbjjeonchcgbaaGreatDoor
open Go.RowKit

set_option maxHeartbeats 6400000 in
set_option maxRecDepth 100000 in
theorem take_first_wait (g d : Nat) (asks hd : Bool) (fv v : Value) (l : List UInt8) (w : World) (hR : RdAt w g d asks hd (awaits .first) .first fv 0) (hl : l.length ≤ 500000) (h : BIn w v l) (hn : NilOk v) (hm : MaxOk w) (hgm : 1 ≠ g) {s : St.S} {n : Int} (hq : Ms.line asks l = (s, n, 11)) :
    Calls Tryz.prog 47 #[.pointer (some ⟨g, 0, none⟩), v] w fun x w' => TakeTo w g d asks hd (Ms.go asks (Ms.asHead hd) .first l) x w' := by
  have hoct := hR.no_oct
  have HOCT := Lib.hid hoct
  have H := Lib.hid h
  have HN := Lib.hid hn
  have HM := Lib.hid hm
  have HGM := Lib.hid hgm
  have hfv := hR.bare (fun _ _ _ h => by cases h) (fun _ _ c h => by cases h)
  subst hfv
  have HRD := Lib.hid hR
  have hrow := hR.row
  have cL := takeLine_wait g d asks hd (.slice none 0 0) v l w hrow hl h hm hq
  have HRR : Hid (Ms.go asks (Ms.asHead hd) .first l = ([], 0, .first, 0)) := Lib.hid (Ms.gf_wait hq)
  have c0 : w.cell? ⟨g, 0, none⟩ = some (.int .i64 0) := hrow.cell 0
  obtain ⟨u, slu, binu, nilu⟩ := slice_from h hn (K := 0) 0 (by first | rfl | simp) (Nat.zero_le _)
  have BINu := Lib.hid binu
  have NILu := Lib.hid nilu
  clear hoct h hn hm hgm hR hrow hq hl binu nilu
  generalize Ms.go asks (Ms.asHead hd) .first l = r at *
  go_enter Tryz.func47, Tryz.ntmps47
  go_wp2_with fail
  refine cL.mono ?_
  rintro x w1 ⟨rfl, hb1, hR1⟩
  have d0 : w1.cell? ⟨g, 0, none⟩ = some (.int .i64 0) := hR1.cell 0
  have HR1 := Lib.hid hR1
  have HB1 := Lib.hid hb1
  clear cL c0 hb1 hR1
  go_wp2_with fail
  refine (takeBody_none _ w1 HR1.out rfl (by decide) (by decide)).mono ?_
  rintro x w2 ⟨rfl, rfl⟩
  go_wp2_with fail
  go_ret3
  rw [HRR.out]
  exact Or.inr ⟨rfl, ⟨_, rfl, World.ownsRow_nil _ _ _ _⟩, Buts.of HB1.out, d, _, .inl rfl, ⟨HR1.out, ⟨none, 0, rfl, .inl rfl⟩, HRD.out.nil, Fit.nil, trivial, (fun ad n c e => by cases e), Nat.zero_le _, Ms.Short.zero, fun _ _ => rfl⟩⟩

set_option maxHeartbeats 6400000 in
set_option maxRecDepth 100000 in
theorem take_first_bad (g d : Nat) (asks hd : Bool) (fv v : Value) (l : List UInt8) (w : World) (hR : RdAt w g d asks hd (awaits .first) .first fv 0) (hl : l.length ≤ 500000) (h : BIn w v l) (hn : NilOk v) (hm : MaxOk w) (hgm : 1 ≠ g) {s : St.S} {n e : Int} (hq : Ms.line asks l = (s, n, e)) (h0 : e ≠ 0) (h1 : e ≠ 11) :
    Calls Tryz.prog 47 #[.pointer (some ⟨g, 0, none⟩), v] w fun x w' => TakeTo w g d asks hd (Ms.go asks (Ms.asHead hd) .first l) x w' := by
  have hoct := hR.no_oct
  have HOCT := Lib.hid hoct
  have H := Lib.hid h
  have HN := Lib.hid hn
  have HM := Lib.hid hm
  have HGM := Lib.hid hgm
  have hfv := hR.bare (fun _ _ _ h => by cases h) (fun _ _ c h => by cases h)
  subst hfv
  have HRD := Lib.hid hR
  have hrow := hR.row
  have cL := takeLine_bad g d asks hd (.slice none 0 0) v l w hrow hl h hm hq h0 h1
  have HRR : Hid (Ms.go asks (Ms.asHead hd) .first l = ([], 0, .first, e)) := Lib.hid (Ms.gf_bad hq h0 h1)
  have c0 : w.cell? ⟨g, 0, none⟩ = some (.int .i64 0) := hrow.cell 0
  have e1 : (e != 0) = true := by simpa using h0
  have H0 := Lib.hid h0
  clear hoct h hn hm hgm hR hrow hq hl h0 h1
  generalize Ms.go asks (Ms.asHead hd) .first l = r at *
  go_enter Tryz.func47, Tryz.ntmps47
  go_wp2_with fail
  refine cL.mono ?_
  rintro x w1 ⟨rfl, hb1, hR1⟩
  have HR1 := Lib.hid hR1
  have HB1 := Lib.hid hb1
  clear cL c0 hb1 hR1
  go_wp2_with fail
  go_ret3
  rw [HRR.out]
  exact Or.inl ⟨H0.out, ⟨_, _, rfl⟩, Buts.of HB1.out, _, _, _, _, _, _, _, _, _, _, HR1.out⟩

set_option maxHeartbeats 6400000 in
set_option maxRecDepth 100000 in
theorem take_first_hwait (g d : Nat) (asks hd : Bool) (fv v : Value) (l : List UInt8) (w : World) (hR : RdAt w g d asks hd (awaits .first) .first fv 0) (hl : l.length ≤ 500000) (h : BIn w v l) (hn : NilOk v) (hm : MaxOk w) (hgm : 1 ≠ g) {s : St.S} {n : Nat} (hq : Ms.line asks l = (s, (n : Int), 0)) {fs : List Fld.F} {k : Nat} (hp : Fld.parse (l.drop n) = (fs, k, 11)) :
    Calls Tryz.prog 47 #[.pointer (some ⟨g, 0, none⟩), v] w fun x w' => TakeTo w g d asks hd (Ms.go asks (Ms.asHead hd) .first l) x w' := by
  have hoct := hR.no_oct
  have HOCT := Lib.hid hoct
  have H := Lib.hid h
  have HN := Lib.hid hn
  have HM := Lib.hid hm
  have HGM := Lib.hid hgm
  have hfv := hR.bare (fun _ _ _ h => by cases h) (fun _ _ c h => by cases h)
  subst hfv
  have HRD := Lib.hid hR
  have hrow := hR.row
  have HSH : Hid (Ms.Short s) := Lib.hid (Ms.line_short hq)
  have hpl := Fld.parse_le (l.drop n)
  rw [hp] at hpl
  have hnl : n ≤ l.length := by
    have := Ms.line_le (asks := asks) l
    rw [hq] at this
    simpa using this
  have hdl : (l.drop n).length = l.length - n := by simp
  have hgh : Ms.goHead (Ms.asHead hd) s (l.drop n) = _ := Ms.gh_wait hp rfl
  have HRR : Hid (Ms.go asks (Ms.asHead hd) .first l = ([], n + 0, .head s, 0)) := Lib.hid (Ms.gf_ok hq hgh)
  clear hgh
  obtain ⟨u, slu, binu, nilu⟩ := slice_from h hn (K := (n : Int)) n (by first | rfl | simp) hnl
  have BINu := Lib.hid binu
  have NILu := Lib.hid nilu
  have cL := takeLine_ok g d asks hd (.slice none 0 0) v l w hrow hl h hm hq
  have hn9 : (n : Int) ≤ 500000 := by omega
  have c0 : w.cell? ⟨g, 0, none⟩ = some (.int .i64 0) := hrow.cell 0
  have hlu : (l.drop n).length ≤ 500000 := by rw [hdl]; omega
  have cH := fun (W : World) (hr : RB W g (rcs 1 (.head s) (.slice none 0 0) d asks hd 0)) (hb : BIn W u (l.drop n)) (hm : MaxOk W) => takeHeader_wait g d asks hd s u (l.drop n) W hr hlu hb nilu hm hp
  clear hoct h hn hm hgm hR hrow hl binu nilu hpl hlu hq hnl hdl hp
  generalize Ms.go asks (Ms.asHead hd) .first l = r at *
  go_enter Tryz.func47, Tryz.ntmps47
  go_wp2_with fail
  refine cL.mono ?_
  rintro x w1 ⟨rfl, hb1, hR1⟩
  have d0 : w1.cell? ⟨g, 0, none⟩ = some (.int .i64 1) := hR1.cell 0
  have cH1 := cH w1 hR1 (BINu.out w1 (H.out.buts hb1 HOCT.out HOCT.out)) (HM.out.buts hb1 HGM.out HGM.out)
  have HB1 := Lib.hid hb1
  have hoc1 : ∀ j x, w1.cell? ⟨g, j, none⟩ ≠ some (.int .u8 x) := hR1.rcs_oct
  have HOC1 := Lib.hid hoc1
  clear cL cH c0 hb1 hR1 hoc1
  go_wp2_with fail
  refine cH1.mono ?_
  rintro x w2 ⟨rfl, hb2, hR2⟩
  have f0 : w2.cell? ⟨g, 0, none⟩ = some (.int .i64 1) := hR2.cell 0
  have HR2 := Lib.hid hR2
  have HB2 := Lib.hid hb2
  clear cH1 d0 hb2 hR2
  go_wp2_with fail
  refine (takeBody_none _ w2 HR2.out rfl (by decide) (by decide)).mono ?_
  rintro x w3 ⟨rfl, rfl⟩
  go_wp2_with fail
  go_ret3
  rw [HRR.out]
  exact Or.inr ⟨rfl, ⟨_, rfl, World.ownsRow_nil _ _ _ _⟩, (HB1.out.more HB2.out).same, d, _, .inl rfl, ⟨HR2.out, ⟨none, 0, rfl, .inl rfl⟩, HRD.out.nil, Fit.nil, trivial, (fun ad n c e => by cases e), Nat.zero_le _, HSH.out, fun _ _ => rfl⟩⟩

set_option maxHeartbeats 6400000 in
set_option maxRecDepth 100000 in
theorem take_first_hbad (g d : Nat) (asks hd : Bool) (fv v : Value) (l : List UInt8) (w : World) (hR : RdAt w g d asks hd (awaits .first) .first fv 0) (hl : l.length ≤ 500000) (h : BIn w v l) (hn : NilOk v) (hm : MaxOk w) (hgm : 1 ≠ g) {s : St.S} {n : Nat} (hq : Ms.line asks l = (s, (n : Int), 0)) {fs : List Fld.F} {k : Nat} {e : Int} (hp : Fld.parse (l.drop n) = (fs, k, e)) (h0 : e ≠ 0) (h1 : e ≠ 11) :
    Calls Tryz.prog 47 #[.pointer (some ⟨g, 0, none⟩), v] w fun x w' => TakeTo w g d asks hd (Ms.go asks (Ms.asHead hd) .first l) x w' := by
  have hoct := hR.no_oct
  have HOCT := Lib.hid hoct
  have H := Lib.hid h
  have HN := Lib.hid hn
  have HM := Lib.hid hm
  have HGM := Lib.hid hgm
  have hfv := hR.bare (fun _ _ _ h => by cases h) (fun _ _ c h => by cases h)
  subst hfv
  have HRD := Lib.hid hR
  have hrow := hR.row
  have hpl := Fld.parse_le (l.drop n)
  rw [hp] at hpl
  have hnl : n ≤ l.length := by
    have := Ms.line_le (asks := asks) l
    rw [hq] at this
    simpa using this
  have hdl : (l.drop n).length = l.length - n := by simp
  have hgh : Ms.goHead (Ms.asHead hd) s (l.drop n) = _ := Ms.gh_bad hp h0 h1
  have HRR : Hid (Ms.go asks (Ms.asHead hd) .first l = ([], n + 0, .head s, e)) := Lib.hid (Ms.gf_ok hq hgh)
  clear hgh
  obtain ⟨u, slu, binu, nilu⟩ := slice_from h hn (K := (n : Int)) n (by first | rfl | simp) hnl
  have BINu := Lib.hid binu
  have NILu := Lib.hid nilu
  have cL := takeLine_ok g d asks hd (.slice none 0 0) v l w hrow hl h hm hq
  have hn9 : (n : Int) ≤ 500000 := by omega
  have c0 : w.cell? ⟨g, 0, none⟩ = some (.int .i64 0) := hrow.cell 0
  have hlu : (l.drop n).length ≤ 500000 := by rw [hdl]; omega
  have cH := fun (W : World) (hr : RB W g (rcs 1 (.head s) (.slice none 0 0) d asks hd 0)) (hb : BIn W u (l.drop n)) (hm : MaxOk W) => takeHeader_bad g d asks hd s u (l.drop n) W hr hlu hb nilu hm hp h0 h1
  have e1 : (e != 0) = true := by simpa using h0
  have H0 := Lib.hid h0
  clear hoct h hn hm hgm hR hrow hl binu nilu hpl hlu hq hnl hdl hp h0 h1
  generalize Ms.go asks (Ms.asHead hd) .first l = r at *
  go_enter Tryz.func47, Tryz.ntmps47
  go_wp2_with fail
  refine cL.mono ?_
  rintro x w1 ⟨rfl, hb1, hR1⟩
  have d0 : w1.cell? ⟨g, 0, none⟩ = some (.int .i64 1) := hR1.cell 0
  have cH1 := cH w1 hR1 (BINu.out w1 (H.out.buts hb1 HOCT.out HOCT.out)) (HM.out.buts hb1 HGM.out HGM.out)
  have HB1 := Lib.hid hb1
  have hoc1 : ∀ j x, w1.cell? ⟨g, j, none⟩ ≠ some (.int .u8 x) := hR1.rcs_oct
  have HOC1 := Lib.hid hoc1
  clear cL cH c0 hb1 hR1 hoc1
  go_wp2_with fail
  refine cH1.mono ?_
  rintro x w2 ⟨rfl, hb2, hR2⟩
  have HR2 := Lib.hid hR2
  have HB2 := Lib.hid hb2
  clear cH1 d0 hb2 hR2
  go_wp2_with fail
  go_ret3
  rw [HRR.out]
  exact Or.inl ⟨H0.out, ⟨_, _, rfl⟩, (HB1.out.more HB2.out).same, _, _, _, _, _, _, _, _, _, _, HR2.out⟩

set_option maxHeartbeats 6400000 in
set_option maxRecDepth 100000 in
theorem take_first_hframe (g d : Nat) (asks hd : Bool) (fv v : Value) (l : List UInt8) (w : World) (hR : RdAt w g d asks hd (awaits .first) .first fv 0) (hl : l.length ≤ 500000) (h : BIn w v l) (hn : NilOk v) (hm : MaxOk w) (hgm : 1 ≠ g) {s : St.S} {n : Nat} (hq : Ms.line asks l = (s, (n : Int), 0)) {fs : List Fld.F} {k : Nat} (hp : Fld.parse (l.drop n) = (fs, k, 0)) {kd sz e : Int} (hf : Ms.framed s fs (Ms.asHead hd) = (kd, sz, e)) (h0 : e ≠ 0) :
    Calls Tryz.prog 47 #[.pointer (some ⟨g, 0, none⟩), v] w fun x w' => TakeTo w g d asks hd (Ms.go asks (Ms.asHead hd) .first l) x w' := by
  have hoct := hR.no_oct
  have HOCT := Lib.hid hoct
  have H := Lib.hid h
  have HN := Lib.hid hn
  have HM := Lib.hid hm
  have HGM := Lib.hid hgm
  have hfv := hR.bare (fun _ _ _ h => by cases h) (fun _ _ c h => by cases h)
  subst hfv
  have HRD := Lib.hid hR
  have hrow := hR.row
  have hpl := Fld.parse_le (l.drop n)
  rw [hp] at hpl
  have hnl : n ≤ l.length := by
    have := Ms.line_le (asks := asks) l
    rw [hq] at this
    simpa using this
  have hdl : (l.drop n).length = l.length - n := by simp
  have hgh : Ms.goHead (Ms.asHead hd) s (l.drop n) = _ := Ms.gh_frame hp hf h0
  have HRR : Hid (Ms.go asks (Ms.asHead hd) .first l = ([], n + 0, .head s, e)) := Lib.hid (Ms.gf_ok hq hgh)
  clear hgh
  obtain ⟨u, slu, binu, nilu⟩ := slice_from h hn (K := (n : Int)) n (by first | rfl | simp) hnl
  have BINu := Lib.hid binu
  have NILu := Lib.hid nilu
  have cL := takeLine_ok g d asks hd (.slice none 0 0) v l w hrow hl h hm hq
  have hn9 : (n : Int) ≤ 500000 := by omega
  have c0 : w.cell? ⟨g, 0, none⟩ = some (.int .i64 0) := hrow.cell 0
  have hlu : (l.drop n).length ≤ 500000 := by rw [hdl]; omega
  have cH := fun (W : World) (hr : RB W g (rcs 1 (.head s) (.slice none 0 0) d asks hd 0)) (hb : BIn W u (l.drop n)) (hm : MaxOk W) => takeHeader_ok g d asks hd s u (l.drop n) W hr hlu hb nilu hm hgm hp
  rw [hf] at cH
  have e1 : (e != 0) = true := by simpa using h0
  have H0 := Lib.hid h0
  clear hoct h hn hm hgm hR hrow hl binu nilu hpl hlu hq hnl hdl hp hf h0
  generalize Ms.go asks (Ms.asHead hd) .first l = r at *
  go_enter Tryz.func47, Tryz.ntmps47
  go_wp2_with fail
  refine cL.mono ?_
  rintro x w1 ⟨rfl, hb1, hR1⟩
  have d0 : w1.cell? ⟨g, 0, none⟩ = some (.int .i64 1) := hR1.cell 0
  have cH1 := cH w1 hR1 (BINu.out w1 (H.out.buts hb1 HOCT.out HOCT.out)) (HM.out.buts hb1 HGM.out HGM.out)
  have HB1 := Lib.hid hb1
  have hoc1 : ∀ j x, w1.cell? ⟨g, j, none⟩ ≠ some (.int .u8 x) := hR1.rcs_oct
  have HOC1 := Lib.hid hoc1
  clear cL cH c0 hb1 hR1 hoc1
  go_wp2_with fail
  refine cH1.mono ?_
  rintro x w2 ⟨rfl, hb2, fa, N, fc, wx, hF2, hnf, hof, hsx, hfr⟩
  have HB2 := Lib.hid hb2
  have HFR := Lib.hid hfr
  clear cH1 d0 hb2 hF2 hnf hof hsx hfr
  go_wp2_with fail
  go_ret3
  rw [HRR.out]
  refine Or.inl ⟨H0.out, ⟨_, _, rfl⟩, (HB1.out.trans HB2.out).same, ?_⟩
  rcases HFR.out with ⟨_, dd, _, _, _, hrb⟩ | ⟨_, hrb⟩
  · exact ⟨_, _, _, _, _, _, _, _, _, _, hrb⟩
  · exact ⟨_, _, _, _, _, _, _, _, _, _, hrb⟩

set_option maxHeartbeats 6400000 in
set_option maxRecDepth 100000 in
theorem take_first_hsized (g d : Nat) (asks hd : Bool) (fv v : Value) (l : List UInt8) (w : World) (hR : RdAt w g d asks hd (awaits .first) .first fv 0) (hl : l.length ≤ 500000) (h : BIn w v l) (hn : NilOk v) (hm : MaxOk w) (hgm : 1 ≠ g) {s : St.S} {n : Nat} (hq : Ms.line asks l = (s, (n : Int), 0)) {fs : List Fld.F} {k : Nat} (hp : Fld.parse (l.drop n) = (fs, k, 0)) {kd sz : Int} (hf : Ms.framed s fs (Ms.asHead hd) = (kd, sz, 0)) (h2 : kd ≠ 2) :
    Calls Tryz.prog 47 #[.pointer (some ⟨g, 0, none⟩), v] w fun x w' => TakeTo w g d asks hd (Ms.go asks (Ms.asHead hd) .first l) x w' := by
  have hoct := hR.no_oct
  have HOCT := Lib.hid hoct
  have H := Lib.hid h
  have HN := Lib.hid hn
  have HM := Lib.hid hm
  have HGM := Lib.hid hgm
  have hfv := hR.bare (fun _ _ _ h => by cases h) (fun _ _ c h => by cases h)
  subst hfv
  have HRD := Lib.hid hR
  have hrow := hR.row
  have HSH : Hid (Ms.Short s) := Lib.hid (Ms.line_short hq)
  have hpl := Fld.parse_le (l.drop n)
  rw [hp] at hpl
  have hnl : n ≤ l.length := by
    have := Ms.line_le (asks := asks) l
    rw [hq] at this
    simpa using this
  have hdl : (l.drop n).length = l.length - n := by simp
  obtain ⟨NK, hNK⟩ : ∃ NK, n + k = NK := ⟨_, rfl⟩
  have hNKl : NK ≤ l.length := by rw [hdl] at hpl; simp only [] at hpl; omega
  have hdr : (l.drop n).drop k = l.drop NK := by rw [List.drop_drop, hNK]
  have hgh : Ms.goHead (Ms.asHead hd) s (l.drop n) = _ := Ms.gh_sized hp hf h2 hdr
  have HRR : Hid (Ms.go asks (Ms.asHead hd) .first l = ((l.drop NK).take sz.toNat, n + (k + ((l.drop NK).take sz.toNat).length), .sized s fs (sz.toNat - ((l.drop NK).take sz.toNat).length), 0)) := Lib.hid (Ms.gf_ok hq hgh)
  clear hgh
  obtain ⟨u, slu, binu, nilu⟩ := slice_from h hn (K := (n : Int)) n (by first | rfl | simp) hnl
  have BINu := Lib.hid binu
  have NILu := Lib.hid nilu
  obtain ⟨u2, slu2, binu2, nilu2⟩ := slice_from h hn (K := (NK : Int)) NK (by first | rfl | simp) hNKl
  have BINu2 := Lib.hid binu2
  have NILu2 := Lib.hid nilu2
  have cL := takeLine_ok g d asks hd (.slice none 0 0) v l w hrow hl h hm hq
  have hn9 : (n : Int) ≤ 500000 := by omega
  have c0 : w.cell? ⟨g, 0, none⟩ = some (.int .i64 0) := hrow.cell 0
  have hlu : (l.drop n).length ≤ 500000 := by rw [hdl]; omega
  have cH := fun (W : World) (hr : RB W g (rcs 1 (.head s) (.slice none 0 0) d asks hd 0)) (hb : BIn W u (l.drop n)) (hm : MaxOk W) => takeHeader_ok g d asks hd s u (l.drop n) W hr hlu hb nilu hm hgm hp
  rw [hf] at cH
  have hwk : IntKind.i64.wrap ((n : Int) + (k : Int)) = (NK : Int) := by rw [IntWalk.i64_in _ (by omega)]; omega
  have hNKE : Hid (n + k = NK) := Lib.hid hNK
  have hsk : (n : Int) + (k : Int) = (NK : Int) := by omega
  have hk9 : (k : Int) ≤ 500000 := by omega
  have hNK9 : (NK : Int) ≤ 500000 := by omega
  have HF := Lib.hid hf
  have hsz := Ms.framed_left hf
  have HSZ := Lib.hid hsz
  have HLD : Hid ((l.drop NK).length ≤ 1000000) := Lib.hid (by rw [List.length_drop]; omega)
  have hfit : Fit fs := by
    have := Fld.parse_small (l.drop n)
    rw [hp] at this
    exact ⟨this.1, fun f hf => ⟨by have := (this.2 f hf).1; omega, by have := (this.2 f hf).2; omega⟩⟩
  have HFIT := Lib.hid hfit
  have HK2 := Lib.hid h2
  clear hoct h hn hm hgm hR hrow hl binu nilu hpl hlu hq hnl hdl binu2 nilu2 hNKl hdr hf hsz hfit hp hNK h2
  generalize Ms.go asks (Ms.asHead hd) .first l = r at *
  go_enter Tryz.func47, Tryz.ntmps47
  go_wp2_with fail
  refine cL.mono ?_
  rintro x w1 ⟨rfl, hb1, hR1⟩
  have d0 : w1.cell? ⟨g, 0, none⟩ = some (.int .i64 1) := hR1.cell 0
  have cH1 := cH w1 hR1 (BINu.out w1 (H.out.buts hb1 HOCT.out HOCT.out)) (HM.out.buts hb1 HGM.out HGM.out)
  have HB1 := Lib.hid hb1
  have hoc1 : ∀ j x, w1.cell? ⟨g, j, none⟩ ≠ some (.int .u8 x) := hR1.rcs_oct
  have HOC1 := Lib.hid hoc1
  clear cL cH c0 hb1 hR1 hoc1
  go_wp2_with fail
  refine cH1.mono ?_
  rintro x w2 ⟨rfl, hb2, fa, N, fc, wx, hF2, hnf, hof, hsx, hfr⟩
  rw [HF.out] at hfr
  have hbin2 := BINu2.out w2 ((H.out.buts HB1.out HOCT.out HOCT.out).buts hb2 HOC1.out HOC1.out)
  obtain ⟨SZ, hSZ⟩ : ∃ SZ : Nat, sz = (SZ : Int) := ⟨sz.toNat, (Int.toNat_of_nonneg HSZ.out.1).symm⟩
  have hrb : RB w2 g #[.int .i64 2, .string (str s.method), .string (str s.target), .int .i64 s.status, .string (str s.reason), .int .i64 s.minor, .slice fa N fc, .slice none 0 0, .int .i64 SZ, .pointer none, .bool asks, .bool hd, .int .i64 0] := by
    rcases hfr with ⟨h2, _⟩ | ⟨_, hrb⟩
    · exact absurd h2 HK2.out
    · rw [← hSZ]; exact hrb
  have f0 : w2.cell? ⟨g, 0, none⟩ = some (.int .i64 2) := hrb.cell 0
  have hoc2 : ∀ j x, w2.cell? ⟨g, j, none⟩ ≠ some (.int .u8 x) := fun j x => hrb.no_oct (by intro x c hc; simp at hc; rcases hc with rfl | rfl | rfl | rfl | rfl | rfl | rfl | rfl | rfl | rfl | rfl | rfl | rfl <;> simp) j x
  have cB := takeBody_sized u2 (l.drop NK) w2 hrb (by have := HSZ.out.2; omega) hoc2 HLD.out hbin2 NILu2.out
  have hST : sz.toNat = SZ := by omega
  rw [hST] at HRR
  obtain ⟨T, hT⟩ : ∃ T : Nat, ((l.drop NK).take SZ).length = T := ⟨_, rfl⟩
  have hTl : (T : Int) ≤ 1000000 := by rw [← hT, List.length_take]; have := HLD.out; omega
  rw [hT] at cB HRR
  have HT := Lib.hid hT
  have HB2 := Lib.hid hb2
  have HF2 := Lib.hid hF2
  have HNF := Lib.hid hnf
  have HOF := Lib.hid hof
  have HSZ9 : Hid (SZ ≤ 1048576) := Lib.hid (by have := HSZ.out.2; omega)
  have hwt : IntKind.i64.wrap ((NK : Int) + (T : Int)) = ((NK + T : Nat) : Int) := by rw [IntWalk.i64_in _ (by omega)]; omega
  obtain ⟨E, hE⟩ : ∃ E : Nat, NK + T = E := ⟨_, rfl⟩
  have hst : (NK : Int) + (T : Int) = (E : Int) := by omega
  rw [hE] at hwt
  have HE := Lib.hid hE
  clear cH1 d0 hb2 hF2 hnf hof hsx hfr hrb hbin2 hSZ hoc2 hST hT hE
  go_wp2_with fail
  refine cB.mono ?_
  rintro x w3 ⟨ub, rfl, hrow3, hb3, hR3⟩
  have HB3 := Lib.hid hb3
  have HR3 := Lib.hid hR3
  have HROW3 := Lib.hid hrow3
  clear cB f0 hb3 hR3 hrow3
  go_wp2_with fail
  go_ret3
  rw [HRR.out]
  have hE2 : n + (k + T) = E := by have := HE.out; have := hNKE.out; omega
  rw [hE2]
  refine Or.inr ⟨rfl, ⟨_, rfl, ?_⟩, ((HB1.out.trans HB2.out).trans HB3.out).same, d, _, .inl rfl, ⟨HR3.out, ?_, HNF.out, HFIT.out, trivial, ?_, ?_, HSH.out, ?_⟩⟩
  · rw [HT.out]
    exact row_base HROW3.out (HB1.out.trans HB2.out).size
  · exact HF2.out.buts HB3.out (fun ad n c e => by injection e with e1; exact ⟨HOF.out ad e1, HOF.out ad e1⟩)
  · intro ad n c e
    injection e with e1
    exact HOF.out ad e1
  · exact Nat.le_trans (Nat.sub_le _ _) HSZ9.out
  · intro h _
    exact absurd rfl (h _ _ _)

set_option maxHeartbeats 6400000 in
set_option maxRecDepth 100000 in
theorem take_first_hchunk (g d : Nat) (asks hd : Bool) (fv v : Value) (l : List UInt8) (w : World) (hR : RdAt w g d asks hd (awaits .first) .first fv 0) (hl : l.length ≤ 500000) (h : BIn w v l) (hn : NilOk v) (hm : MaxOk w) (hgm : 1 ≠ g) {s : St.S} {n : Nat} (hq : Ms.line asks l = (s, (n : Int), 0)) {fs : List Fld.F} {k : Nat} (hp : Fld.parse (l.drop n) = (fs, k, 0)) {sz : Int} (hf : Ms.framed s fs (Ms.asHead hd) = (2, sz, 0)) {x0 : List UInt8} {t : Nat} {c : Ck.S} (hc : Ck.go (.size 0) ((l.drop n).drop k) = (x0, t, c, 0)) :
    Calls Tryz.prog 47 #[.pointer (some ⟨g, 0, none⟩), v] w fun x w' => TakeTo w g d asks hd (Ms.go asks (Ms.asHead hd) .first l) x w' := by
  have hoct := hR.no_oct
  have HOCT := Lib.hid hoct
  have H := Lib.hid h
  have HN := Lib.hid hn
  have HM := Lib.hid hm
  have HGM := Lib.hid hgm
  have hfv := hR.bare (fun _ _ _ h => by cases h) (fun _ _ c h => by cases h)
  subst hfv
  have HRD := Lib.hid hR
  have hrow := hR.row
  have HSH : Hid (Ms.Short s) := Lib.hid (Ms.line_short hq)
  have hpl := Fld.parse_le (l.drop n)
  rw [hp] at hpl
  have hnl : n ≤ l.length := by
    have := Ms.line_le (asks := asks) l
    rw [hq] at this
    simpa using this
  have hdl : (l.drop n).length = l.length - n := by simp
  obtain ⟨NK, hNK⟩ : ∃ NK, n + k = NK := ⟨_, rfl⟩
  have hNKl : NK ≤ l.length := by rw [hdl] at hpl; simp only [] at hpl; omega
  have hdr : (l.drop n).drop k = l.drop NK := by rw [List.drop_drop, hNK]
  have hcg := hc
  rw [hdr] at hcg
  have hgh : Ms.goHead (Ms.asHead hd) s (l.drop n) = _ := Ms.gh_chunk hp hf hdr hcg
  have HRR : Hid (Ms.go asks (Ms.asHead hd) .first l = (x0, n + (k + t), .chunk s fs c, 0)) := Lib.hid (Ms.gf_ok hq hgh)
  clear hgh
  obtain ⟨u, slu, binu, nilu⟩ := slice_from h hn (K := (n : Int)) n (by first | rfl | simp) hnl
  have BINu := Lib.hid binu
  have NILu := Lib.hid nilu
  obtain ⟨u2, slu2, binu2, nilu2⟩ := slice_from h hn (K := (NK : Int)) NK (by first | rfl | simp) hNKl
  have BINu2 := Lib.hid binu2
  have NILu2 := Lib.hid nilu2
  have cL := takeLine_ok g d asks hd (.slice none 0 0) v l w hrow hl h hm hq
  have hn9 : (n : Int) ≤ 500000 := by omega
  have c0 : w.cell? ⟨g, 0, none⟩ = some (.int .i64 0) := hrow.cell 0
  have hlu : (l.drop n).length ≤ 500000 := by rw [hdl]; omega
  have cH := fun (W : World) (hr : RB W g (rcs 1 (.head s) (.slice none 0 0) d asks hd 0)) (hb : BIn W u (l.drop n)) (hm : MaxOk W) => takeHeader_ok g d asks hd s u (l.drop n) W hr hlu hb nilu hm hgm hp
  rw [hf] at cH
  have hwk : IntKind.i64.wrap ((n : Int) + (k : Int)) = (NK : Int) := by rw [IntWalk.i64_in _ (by omega)]; omega
  have hNKE : Hid (n + k = NK) := Lib.hid hNK
  have hsk : (n : Int) + (k : Int) = (NK : Int) := by omega
  have hk9 : (k : Int) ≤ 500000 := by omega
  have hNK9 : (NK : Int) ≤ 500000 := by omega
  have HF := Lib.hid hf
  have hsz := Ms.framed_left hf
  have HSZ := Lib.hid hsz
  have HLD : Hid ((l.drop NK).length ≤ 1000000) := Lib.hid (by rw [List.length_drop]; omega)
  have hfit : Fit fs := by
    have := Fld.parse_small (l.drop n)
    rw [hp] at this
    exact ⟨this.1, fun f hf => ⟨by have := (this.2 f hf).1; omega, by have := (this.2 f hf).2; omega⟩⟩
  have HFIT := Lib.hid hfit
  have HCG := Lib.hid hcg
  clear hoct h hn hm hgm hR hrow hl binu nilu hpl hlu hq hnl hdl binu2 nilu2 hNKl hdr hf hsz hfit hp hNK hcg hc
  generalize Ms.go asks (Ms.asHead hd) .first l = r at *
  go_enter Tryz.func47, Tryz.ntmps47
  go_wp2_with fail
  refine cL.mono ?_
  rintro x w1 ⟨rfl, hb1, hR1⟩
  have d0 : w1.cell? ⟨g, 0, none⟩ = some (.int .i64 1) := hR1.cell 0
  have cH1 := cH w1 hR1 (BINu.out w1 (H.out.buts hb1 HOCT.out HOCT.out)) (HM.out.buts hb1 HGM.out HGM.out)
  have HB1 := Lib.hid hb1
  have hoc1 : ∀ j x, w1.cell? ⟨g, j, none⟩ ≠ some (.int .u8 x) := hR1.rcs_oct
  have HOC1 := Lib.hid hoc1
  clear cL cH c0 hb1 hR1 hoc1
  go_wp2_with fail
  refine cH1.mono ?_
  rintro x w2 ⟨rfl, hb2, fa, N, fc, wx, hF2, hnf, hof, hsx, hfr⟩
  rw [HF.out] at hfr
  have hbin2 := BINu2.out w2 ((H.out.buts HB1.out HOCT.out HOCT.out).buts hb2 HOC1.out HOC1.out)
  obtain ⟨dd, hdx, hmd, hD2, hrb⟩ : ∃ dd, wx.heap.size ≤ dd ∧ 1 ≠ dd ∧ Dst w2 dd (.size 0) 0 ∧ RB w2 g #[.int .i64 3, .string (str s.method), .string (str s.target), .int .i64 s.status, .string (str s.reason), .int .i64 s.minor, .slice fa N fc, .slice none 0 0, .int .i64 (0 : Nat), .pointer (some ⟨dd, 0, none⟩), .bool asks, .bool hd, .int .i64 0] := by
    rcases hfr with ⟨_, h⟩ | ⟨h2, _⟩
    · exact h
    · exact absurd rfl h2
  have f0 : w2.cell? ⟨g, 0, none⟩ = some (.int .i64 3) := hrb.cell 0
  have hmx2 : MaxOk w2 := (HM.out.buts HB1.out HGM.out HGM.out).buts hb2 HGM.out HGM.out
  have hne : dd ≠ g := by obtain ⟨_, _, _, _, hA, _, _⟩ := hD2.cells; exact hrb.ne_dec hA
  have hnstr : ∀ j y, w2.cell? ⟨dd, j, none⟩ ≠ some (.string y) := by obtain ⟨_, _, _, _, hA, _, _⟩ := hD2.cells; exact hA.no_str
  have HDD : Hid (w.heap.size ≤ dd) := Lib.hid (by have := HB1.out.size; omega)
  have cB := takeBody_chunk (.size 0) u2 (l.drop NK) w2 hrb hne hmd hD2 hmx2 HLD.out hbin2 HCG.out
  have HB2 := Lib.hid hb2
  have HF2 := Lib.hid hF2
  have HNF := Lib.hid hnf
  have HOF := Lib.hid hof
  have HNE := Lib.hid hne
  have HMD := Lib.hid hmd
  have HNS := Lib.hid hnstr
  have htl := (Ck.go_len (.size 0) (l.drop NK)).1
  rw [HCG.out] at htl
  have hTl : (t : Int) ≤ 1000000 := by have := HLD.out; simp only [] at htl; omega
  have hwt : IntKind.i64.wrap ((NK : Int) + (t : Int)) = ((NK + t : Nat) : Int) := by rw [IntWalk.i64_in _ (by omega)]; omega
  obtain ⟨E, hE⟩ : ∃ E : Nat, NK + t = E := ⟨_, rfl⟩
  have hst : (NK : Int) + (t : Int) = (E : Int) := by omega
  rw [hE] at hwt
  have HE := Lib.hid hE
  clear cH1 d0 hb2 hF2 hnf hof hsx hfr hrb hbin2 hdx hmd hD2 hmx2 hne hnstr htl hE
  go_wp2_with fail
  refine cB.mono ?_
  rintro x w3 ⟨ub, rfl, hrow3, hb3, hR3, hD3⟩
  have HB3 := Lib.hid hb3
  have HR3 := Lib.hid hR3
  have HD3 := Lib.hid hD3
  have HROW3 := Lib.hid hrow3
  clear cB f0 hb3 hR3 hD3 hrow3
  go_wp2_with fail
  go_ret3
  rw [HRR.out]
  have hE2 : n + (k + t) = E := by have := HE.out; have := hNKE.out; omega
  rw [hE2]
  refine Or.inr ⟨rfl, ⟨_, rfl, ?_⟩, ((HB1.out.trans HB2.out).same).trans' HB3.out (.inr (.inr HDD.out)), dd, _, .inr HDD.out, ⟨HR3.out, ?_, HNF.out, HFIT.out, ⟨HNE.out, HMD.out, HD3.out⟩, ?_, Nat.zero_le _, HSH.out, ?_⟩⟩
  · exact row_base HROW3.out (HB1.out.trans HB2.out).size
  · exact HF2.out.buts2 HB3.out (fun ad n c e => by injection e with e1; exact HOF.out ad e1) HNS.out
  · intro ad n c e
    injection e with e1
    exact HOF.out ad e1
  · intro _ h
    exact absurd rfl (h _ _ _)

set_option maxHeartbeats 6400000 in
set_option maxRecDepth 100000 in
theorem take_first_hchunkbad (g d : Nat) (asks hd : Bool) (fv v : Value) (l : List UInt8) (w : World) (hR : RdAt w g d asks hd (awaits .first) .first fv 0) (hl : l.length ≤ 500000) (h : BIn w v l) (hn : NilOk v) (hm : MaxOk w) (hgm : 1 ≠ g) {s : St.S} {n : Nat} (hq : Ms.line asks l = (s, (n : Int), 0)) {fs : List Fld.F} {k : Nat} (hp : Fld.parse (l.drop n) = (fs, k, 0)) {sz : Int} (hf : Ms.framed s fs (Ms.asHead hd) = (2, sz, 0)) {e : Int} {x0 : List UInt8} {t : Nat} {c : Ck.S} (hc : Ck.go (.size 0) ((l.drop n).drop k) = (x0, t, c, e)) (h0 : e ≠ 0) :
    Calls Tryz.prog 47 #[.pointer (some ⟨g, 0, none⟩), v] w fun x w' => TakeTo w g d asks hd (Ms.go asks (Ms.asHead hd) .first l) x w' := by
  have hoct := hR.no_oct
  have HOCT := Lib.hid hoct
  have H := Lib.hid h
  have HN := Lib.hid hn
  have HM := Lib.hid hm
  have HGM := Lib.hid hgm
  have hfv := hR.bare (fun _ _ _ h => by cases h) (fun _ _ c h => by cases h)
  subst hfv
  have HRD := Lib.hid hR
  have hrow := hR.row
  have hpl := Fld.parse_le (l.drop n)
  rw [hp] at hpl
  have hnl : n ≤ l.length := by
    have := Ms.line_le (asks := asks) l
    rw [hq] at this
    simpa using this
  have hdl : (l.drop n).length = l.length - n := by simp
  obtain ⟨NK, hNK⟩ : ∃ NK, n + k = NK := ⟨_, rfl⟩
  have hNKl : NK ≤ l.length := by rw [hdl] at hpl; simp only [] at hpl; omega
  have hdr : (l.drop n).drop k = l.drop NK := by rw [List.drop_drop, hNK]
  have hcg := hc
  rw [hdr] at hcg
  have hgh : Ms.goHead (Ms.asHead hd) s (l.drop n) = _ := Ms.gh_chunk hp hf hdr hcg
  have HRR : Hid (Ms.go asks (Ms.asHead hd) .first l = (x0, n + (k + t), .chunk s fs c, e)) := Lib.hid (Ms.gf_ok hq hgh)
  clear hgh
  obtain ⟨u, slu, binu, nilu⟩ := slice_from h hn (K := (n : Int)) n (by first | rfl | simp) hnl
  have BINu := Lib.hid binu
  have NILu := Lib.hid nilu
  obtain ⟨u2, slu2, binu2, nilu2⟩ := slice_from h hn (K := (NK : Int)) NK (by first | rfl | simp) hNKl
  have BINu2 := Lib.hid binu2
  have NILu2 := Lib.hid nilu2
  have cL := takeLine_ok g d asks hd (.slice none 0 0) v l w hrow hl h hm hq
  have hn9 : (n : Int) ≤ 500000 := by omega
  have c0 : w.cell? ⟨g, 0, none⟩ = some (.int .i64 0) := hrow.cell 0
  have hlu : (l.drop n).length ≤ 500000 := by rw [hdl]; omega
  have cH := fun (W : World) (hr : RB W g (rcs 1 (.head s) (.slice none 0 0) d asks hd 0)) (hb : BIn W u (l.drop n)) (hm : MaxOk W) => takeHeader_ok g d asks hd s u (l.drop n) W hr hlu hb nilu hm hgm hp
  rw [hf] at cH
  have hwk : IntKind.i64.wrap ((n : Int) + (k : Int)) = (NK : Int) := by rw [IntWalk.i64_in _ (by omega)]; omega
  have hsk : (n : Int) + (k : Int) = (NK : Int) := by omega
  have hk9 : (k : Int) ≤ 500000 := by omega
  have hNK9 : (NK : Int) ≤ 500000 := by omega
  have HF := Lib.hid hf
  have hsz := Ms.framed_left hf
  have HSZ := Lib.hid hsz
  have HLD : Hid ((l.drop NK).length ≤ 1000000) := Lib.hid (by rw [List.length_drop]; omega)
  have hfit : Fit fs := by
    have := Fld.parse_small (l.drop n)
    rw [hp] at this
    exact ⟨this.1, fun f hf => ⟨by have := (this.2 f hf).1; omega, by have := (this.2 f hf).2; omega⟩⟩
  have HFIT := Lib.hid hfit
  have HCG := Lib.hid hcg
  have e1 : (e != 0) = true := by simpa using h0
  have H0 := Lib.hid h0
  clear hoct h hn hm hgm hR hrow hl binu nilu hpl hlu hq hnl hdl binu2 nilu2 hNKl hdr hf hsz hfit hp hNK hcg hc h0
  generalize Ms.go asks (Ms.asHead hd) .first l = r at *
  go_enter Tryz.func47, Tryz.ntmps47
  go_wp2_with fail
  refine cL.mono ?_
  rintro x w1 ⟨rfl, hb1, hR1⟩
  have d0 : w1.cell? ⟨g, 0, none⟩ = some (.int .i64 1) := hR1.cell 0
  have cH1 := cH w1 hR1 (BINu.out w1 (H.out.buts hb1 HOCT.out HOCT.out)) (HM.out.buts hb1 HGM.out HGM.out)
  have HB1 := Lib.hid hb1
  have hoc1 : ∀ j x, w1.cell? ⟨g, j, none⟩ ≠ some (.int .u8 x) := hR1.rcs_oct
  have HOC1 := Lib.hid hoc1
  clear cL cH c0 hb1 hR1 hoc1
  go_wp2_with fail
  refine cH1.mono ?_
  rintro x w2 ⟨rfl, hb2, fa, N, fc, wx, hF2, hnf, hof, hsx, hfr⟩
  rw [HF.out] at hfr
  have hbin2 := BINu2.out w2 ((H.out.buts HB1.out HOCT.out HOCT.out).buts hb2 HOC1.out HOC1.out)
  obtain ⟨dd, hdx, hmd, hD2, hrb⟩ : ∃ dd, wx.heap.size ≤ dd ∧ 1 ≠ dd ∧ Dst w2 dd (.size 0) 0 ∧ RB w2 g #[.int .i64 3, .string (str s.method), .string (str s.target), .int .i64 s.status, .string (str s.reason), .int .i64 s.minor, .slice fa N fc, .slice none 0 0, .int .i64 (0 : Nat), .pointer (some ⟨dd, 0, none⟩), .bool asks, .bool hd, .int .i64 0] := by
    rcases hfr with ⟨_, h⟩ | ⟨h2, _⟩
    · exact h
    · exact absurd rfl h2
  have f0 : w2.cell? ⟨g, 0, none⟩ = some (.int .i64 3) := hrb.cell 0
  have hmx2 : MaxOk w2 := (HM.out.buts HB1.out HGM.out HGM.out).buts hb2 HGM.out HGM.out
  have hne : dd ≠ g := by obtain ⟨_, _, _, _, hA, _, _⟩ := hD2.cells; exact hrb.ne_dec hA
  have hnstr : ∀ j y, w2.cell? ⟨dd, j, none⟩ ≠ some (.string y) := by obtain ⟨_, _, _, _, hA, _, _⟩ := hD2.cells; exact hA.no_str
  have HDD : Hid (w.heap.size ≤ dd) := Lib.hid (by have := HB1.out.size; omega)
  have cB := takeBody_bad (.size 0) u2 (l.drop NK) w2 hrb hne hmd hD2 hmx2 HLD.out hbin2 (e := e) (by rw [HCG.out]) H0.out
  have HB2 := Lib.hid hb2
  clear cH1 d0 hb2 hF2 hnf hof hsx hfr hrb hbin2 hdx hmd hD2 hmx2 hne hnstr
  go_wp2_with fail
  refine cB.mono ?_
  rintro x w3 ⟨⟨ub, rfl⟩, hb3, hR3⟩
  have HB3 := Lib.hid hb3
  have HR3 := Lib.hid hR3
  clear cB f0 hb3 hR3
  go_wp2_with fail
  go_ret3
  rw [HRR.out]
  exact Or.inl ⟨H0.out, ⟨_, _, rfl⟩, ((HB1.out.trans HB2.out).same).trans' HB3.out (.inr (.inr HDD.out)), _, _, _, _, _, _, _, _, _, _, HR3.out⟩

set_option maxHeartbeats 6400000 in
set_option maxRecDepth 100000 in
theorem take_head_wait {s : St.S} (g d : Nat) (asks hd : Bool) (fv v : Value) (l : List UInt8) (w : World) (hR : RdAt w g d asks hd (awaits (.head s)) (.head s) fv 0) (hl : l.length ≤ 500000) (h : BIn w v l) (hn : NilOk v) (hm : MaxOk w) (hgm : 1 ≠ g)  {fs : List Fld.F} {k : Nat} (hp : Fld.parse l = (fs, k, 11)) :
    Calls Tryz.prog 47 #[.pointer (some ⟨g, 0, none⟩), v] w fun x w' => TakeTo w g d asks hd (Ms.go asks (Ms.asHead hd) (.head s) l) x w' := by
  have hoct := hR.no_oct
  have HOCT := Lib.hid hoct
  have H := Lib.hid h
  have HN := Lib.hid hn
  have HM := Lib.hid hm
  have HGM := Lib.hid hgm
  have hfv := hR.bare (fun _ _ _ h => by cases h) (fun _ _ c h => by cases h)
  subst hfv
  have HRD := Lib.hid hR
  have hrow := hR.row
  have HSH : Hid (Ms.Short s) := Lib.hid hR.short
  have hpl := Fld.parse_le l
  rw [hp] at hpl
  have hgh : Ms.goHead (Ms.asHead hd) s l = _ := Ms.gh_wait hp rfl
  have HRR : Hid (Ms.go asks (Ms.asHead hd) (.head s) l = ([], 0, .head s, 0)) := Lib.hid hgh
  clear hgh
  obtain ⟨u, slu, binu, nilu⟩ := slice_from h hn (K := 0) 0 (by first | rfl | simp) (Nat.zero_le _)
  have BINu := Lib.hid binu
  have NILu := Lib.hid nilu
  have c0 : w.cell? ⟨g, 0, none⟩ = some (.int .i64 1) := hrow.cell 0
  have hlu : l.length ≤ 500000 := by exact hl
  have cH := fun (W : World) (hr : RB W g (rcs 1 (.head s) (.slice none 0 0) d asks hd 0)) (hb : BIn W u l) (hm : MaxOk W) => takeHeader_wait g d asks hd s u l W hr hlu hb nilu hm hp
  have hrow0 : RB w g (rcs 1 (.head s) (.slice none 0 0) d asks hd 0) := hrow
  clear hoct h hn hm hgm hR hrow hl binu nilu hpl hlu hp
  generalize Ms.go asks (Ms.asHead hd) (.head s) l = r at *
  have cH1 := cH w hrow0 ((by have := BINu.out w H.out; rwa [List.drop_zero] at this)) HM.out
  clear cH hrow0
  go_enter Tryz.func47, Tryz.ntmps47
  go_wp2_with fail
  refine cH1.mono ?_
  rintro x w2 ⟨rfl, hb2, hR2⟩
  have f0 : w2.cell? ⟨g, 0, none⟩ = some (.int .i64 1) := hR2.cell 0
  have HR2 := Lib.hid hR2
  have HB2 := Lib.hid hb2
  clear cH1 c0 hb2 hR2
  go_wp2_with fail
  refine (takeBody_none _ w2 HR2.out rfl (by decide) (by decide)).mono ?_
  rintro x w3 ⟨rfl, rfl⟩
  go_wp2_with fail
  go_ret3
  rw [HRR.out]
  exact Or.inr ⟨rfl, ⟨_, rfl, World.ownsRow_nil _ _ _ _⟩, ((Buts.refl g g w).more HB2.out).same, d, _, .inl rfl, ⟨HR2.out, ⟨none, 0, rfl, .inl rfl⟩, HRD.out.nil, Fit.nil, trivial, (fun ad n c e => by cases e), Nat.zero_le _, HSH.out, fun _ _ => rfl⟩⟩

set_option maxHeartbeats 6400000 in
set_option maxRecDepth 100000 in
theorem take_head_bad {s : St.S} (g d : Nat) (asks hd : Bool) (fv v : Value) (l : List UInt8) (w : World) (hR : RdAt w g d asks hd (awaits (.head s)) (.head s) fv 0) (hl : l.length ≤ 500000) (h : BIn w v l) (hn : NilOk v) (hm : MaxOk w) (hgm : 1 ≠ g)  {fs : List Fld.F} {k : Nat} {e : Int} (hp : Fld.parse l = (fs, k, e)) (h0 : e ≠ 0) (h1 : e ≠ 11) :
    Calls Tryz.prog 47 #[.pointer (some ⟨g, 0, none⟩), v] w fun x w' => TakeTo w g d asks hd (Ms.go asks (Ms.asHead hd) (.head s) l) x w' := by
  have hoct := hR.no_oct
  have HOCT := Lib.hid hoct
  have H := Lib.hid h
  have HN := Lib.hid hn
  have HM := Lib.hid hm
  have HGM := Lib.hid hgm
  have hfv := hR.bare (fun _ _ _ h => by cases h) (fun _ _ c h => by cases h)
  subst hfv
  have HRD := Lib.hid hR
  have hrow := hR.row
  have hpl := Fld.parse_le l
  rw [hp] at hpl
  have hgh : Ms.goHead (Ms.asHead hd) s l = _ := Ms.gh_bad hp h0 h1
  have HRR : Hid (Ms.go asks (Ms.asHead hd) (.head s) l = ([], 0, .head s, e)) := Lib.hid hgh
  clear hgh
  obtain ⟨u, slu, binu, nilu⟩ := slice_from h hn (K := 0) 0 (by first | rfl | simp) (Nat.zero_le _)
  have BINu := Lib.hid binu
  have NILu := Lib.hid nilu
  have c0 : w.cell? ⟨g, 0, none⟩ = some (.int .i64 1) := hrow.cell 0
  have hlu : l.length ≤ 500000 := by exact hl
  have cH := fun (W : World) (hr : RB W g (rcs 1 (.head s) (.slice none 0 0) d asks hd 0)) (hb : BIn W u l) (hm : MaxOk W) => takeHeader_bad g d asks hd s u l W hr hlu hb nilu hm hp h0 h1
  have e1 : (e != 0) = true := by simpa using h0
  have H0 := Lib.hid h0
  have hrow0 : RB w g (rcs 1 (.head s) (.slice none 0 0) d asks hd 0) := hrow
  clear hoct h hn hm hgm hR hrow hl binu nilu hpl hlu hp h0 h1
  generalize Ms.go asks (Ms.asHead hd) (.head s) l = r at *
  have cH1 := cH w hrow0 ((by have := BINu.out w H.out; rwa [List.drop_zero] at this)) HM.out
  clear cH hrow0
  go_enter Tryz.func47, Tryz.ntmps47
  go_wp2_with fail
  refine cH1.mono ?_
  rintro x w2 ⟨rfl, hb2, hR2⟩
  have HR2 := Lib.hid hR2
  have HB2 := Lib.hid hb2
  clear cH1 c0 hb2 hR2
  go_wp2_with fail
  go_ret3
  rw [HRR.out]
  exact Or.inl ⟨H0.out, ⟨_, _, rfl⟩, ((Buts.refl g g w).more HB2.out).same, _, _, _, _, _, _, _, _, _, _, HR2.out⟩

set_option maxHeartbeats 6400000 in
set_option maxRecDepth 100000 in
theorem take_head_frame {s : St.S} (g d : Nat) (asks hd : Bool) (fv v : Value) (l : List UInt8) (w : World) (hR : RdAt w g d asks hd (awaits (.head s)) (.head s) fv 0) (hl : l.length ≤ 500000) (h : BIn w v l) (hn : NilOk v) (hm : MaxOk w) (hgm : 1 ≠ g)  {fs : List Fld.F} {k : Nat} (hp : Fld.parse l = (fs, k, 0)) {kd sz e : Int} (hf : Ms.framed s fs (Ms.asHead hd) = (kd, sz, e)) (h0 : e ≠ 0) :
    Calls Tryz.prog 47 #[.pointer (some ⟨g, 0, none⟩), v] w fun x w' => TakeTo w g d asks hd (Ms.go asks (Ms.asHead hd) (.head s) l) x w' := by
  have hoct := hR.no_oct
  have HOCT := Lib.hid hoct
  have H := Lib.hid h
  have HN := Lib.hid hn
  have HM := Lib.hid hm
  have HGM := Lib.hid hgm
  have hfv := hR.bare (fun _ _ _ h => by cases h) (fun _ _ c h => by cases h)
  subst hfv
  have HRD := Lib.hid hR
  have hrow := hR.row
  have hpl := Fld.parse_le l
  rw [hp] at hpl
  have hgh : Ms.goHead (Ms.asHead hd) s l = _ := Ms.gh_frame hp hf h0
  have HRR : Hid (Ms.go asks (Ms.asHead hd) (.head s) l = ([], 0, .head s, e)) := Lib.hid hgh
  clear hgh
  obtain ⟨u, slu, binu, nilu⟩ := slice_from h hn (K := 0) 0 (by first | rfl | simp) (Nat.zero_le _)
  have BINu := Lib.hid binu
  have NILu := Lib.hid nilu
  have c0 : w.cell? ⟨g, 0, none⟩ = some (.int .i64 1) := hrow.cell 0
  have hlu : l.length ≤ 500000 := by exact hl
  have cH := fun (W : World) (hr : RB W g (rcs 1 (.head s) (.slice none 0 0) d asks hd 0)) (hb : BIn W u l) (hm : MaxOk W) => takeHeader_ok g d asks hd s u l W hr hlu hb nilu hm hgm hp
  rw [hf] at cH
  have e1 : (e != 0) = true := by simpa using h0
  have H0 := Lib.hid h0
  have hrow0 : RB w g (rcs 1 (.head s) (.slice none 0 0) d asks hd 0) := hrow
  clear hoct h hn hm hgm hR hrow hl binu nilu hpl hlu hp hf h0
  generalize Ms.go asks (Ms.asHead hd) (.head s) l = r at *
  have cH1 := cH w hrow0 ((by have := BINu.out w H.out; rwa [List.drop_zero] at this)) HM.out
  clear cH hrow0
  go_enter Tryz.func47, Tryz.ntmps47
  go_wp2_with fail
  refine cH1.mono ?_
  rintro x w2 ⟨rfl, hb2, fa, N, fc, wx, hF2, hnf, hof, hsx, hfr⟩
  have HB2 := Lib.hid hb2
  have HFR := Lib.hid hfr
  clear cH1 c0 hb2 hF2 hnf hof hsx hfr
  go_wp2_with fail
  go_ret3
  rw [HRR.out]
  refine Or.inl ⟨H0.out, ⟨_, _, rfl⟩, ((Buts.refl g g w).trans HB2.out).same, ?_⟩
  rcases HFR.out with ⟨_, dd, _, _, _, hrb⟩ | ⟨_, hrb⟩
  · exact ⟨_, _, _, _, _, _, _, _, _, _, hrb⟩
  · exact ⟨_, _, _, _, _, _, _, _, _, _, hrb⟩

set_option maxHeartbeats 6400000 in
set_option maxRecDepth 100000 in
theorem take_head_sized {s : St.S} (g d : Nat) (asks hd : Bool) (fv v : Value) (l : List UInt8) (w : World) (hR : RdAt w g d asks hd (awaits (.head s)) (.head s) fv 0) (hl : l.length ≤ 500000) (h : BIn w v l) (hn : NilOk v) (hm : MaxOk w) (hgm : 1 ≠ g)  {fs : List Fld.F} {k : Nat} (hp : Fld.parse l = (fs, k, 0)) {kd sz : Int} (hf : Ms.framed s fs (Ms.asHead hd) = (kd, sz, 0)) (h2 : kd ≠ 2) :
    Calls Tryz.prog 47 #[.pointer (some ⟨g, 0, none⟩), v] w fun x w' => TakeTo w g d asks hd (Ms.go asks (Ms.asHead hd) (.head s) l) x w' := by
  have hoct := hR.no_oct
  have HOCT := Lib.hid hoct
  have H := Lib.hid h
  have HN := Lib.hid hn
  have HM := Lib.hid hm
  have HGM := Lib.hid hgm
  have hfv := hR.bare (fun _ _ _ h => by cases h) (fun _ _ c h => by cases h)
  subst hfv
  have HRD := Lib.hid hR
  have hrow := hR.row
  have HSH : Hid (Ms.Short s) := Lib.hid hR.short
  have hpl := Fld.parse_le l
  rw [hp] at hpl
  obtain ⟨NK, hNK⟩ : ∃ NK, k = NK := ⟨_, rfl⟩
  have hNKl : NK ≤ l.length := by simp only [] at hpl; omega
  have hdr : l.drop k = l.drop NK := by rw [hNK]
  have hgh : Ms.goHead (Ms.asHead hd) s l = _ := Ms.gh_sized hp hf h2 hdr
  have HRR : Hid (Ms.go asks (Ms.asHead hd) (.head s) l = ((l.drop NK).take sz.toNat, k + ((l.drop NK).take sz.toNat).length, .sized s fs (sz.toNat - ((l.drop NK).take sz.toNat).length), 0)) := Lib.hid hgh
  clear hgh
  obtain ⟨u, slu, binu, nilu⟩ := slice_from h hn (K := 0) 0 (by first | rfl | simp) (Nat.zero_le _)
  have BINu := Lib.hid binu
  have NILu := Lib.hid nilu
  obtain ⟨u2, slu2, binu2, nilu2⟩ := slice_from h hn (K := (NK : Int)) NK (by first | rfl | simp) hNKl
  have BINu2 := Lib.hid binu2
  have NILu2 := Lib.hid nilu2
  have c0 : w.cell? ⟨g, 0, none⟩ = some (.int .i64 1) := hrow.cell 0
  have hlu : l.length ≤ 500000 := by exact hl
  have cH := fun (W : World) (hr : RB W g (rcs 1 (.head s) (.slice none 0 0) d asks hd 0)) (hb : BIn W u l) (hm : MaxOk W) => takeHeader_ok g d asks hd s u l W hr hlu hb nilu hm hgm hp
  rw [hf] at cH
  subst hNK
  have hk9 : (k : Int) ≤ 500000 := by omega
  have hNK9 : (k : Int) ≤ 500000 := by omega
  have HF := Lib.hid hf
  have hsz := Ms.framed_left hf
  have HSZ := Lib.hid hsz
  have HLD : Hid ((l.drop k).length ≤ 1000000) := Lib.hid (by rw [List.length_drop]; omega)
  have hfit : Fit fs := by
    have := Fld.parse_small l
    rw [hp] at this
    exact ⟨this.1, fun f hf => ⟨by have := (this.2 f hf).1; omega, by have := (this.2 f hf).2; omega⟩⟩
  have HFIT := Lib.hid hfit
  have HK2 := Lib.hid h2
  have hrow0 : RB w g (rcs 1 (.head s) (.slice none 0 0) d asks hd 0) := hrow
  clear hoct h hn hm hgm hR hrow hl binu nilu hpl hlu binu2 nilu2 hNKl hdr hf hsz hfit hp h2
  generalize Ms.go asks (Ms.asHead hd) (.head s) l = r at *
  have cH1 := cH w hrow0 ((by have := BINu.out w H.out; rwa [List.drop_zero] at this)) HM.out
  clear cH hrow0
  go_enter Tryz.func47, Tryz.ntmps47
  go_wp2_with fail
  refine cH1.mono ?_
  rintro x w2 ⟨rfl, hb2, fa, N, fc, wx, hF2, hnf, hof, hsx, hfr⟩
  rw [HF.out] at hfr
  have hbin2 := BINu2.out w2 ((H.out.buts (Buts.refl g g w) HOCT.out HOCT.out).buts hb2 HOCT.out HOCT.out)
  obtain ⟨SZ, hSZ⟩ : ∃ SZ : Nat, sz = (SZ : Int) := ⟨sz.toNat, (Int.toNat_of_nonneg HSZ.out.1).symm⟩
  have hrb : RB w2 g #[.int .i64 2, .string (str s.method), .string (str s.target), .int .i64 s.status, .string (str s.reason), .int .i64 s.minor, .slice fa N fc, .slice none 0 0, .int .i64 SZ, .pointer none, .bool asks, .bool hd, .int .i64 0] := by
    rcases hfr with ⟨h2, _⟩ | ⟨_, hrb⟩
    · exact absurd h2 HK2.out
    · rw [← hSZ]; exact hrb
  have f0 : w2.cell? ⟨g, 0, none⟩ = some (.int .i64 2) := hrb.cell 0
  have hoc2 : ∀ j x, w2.cell? ⟨g, j, none⟩ ≠ some (.int .u8 x) := fun j x => hrb.no_oct (by intro x c hc; simp at hc; rcases hc with rfl | rfl | rfl | rfl | rfl | rfl | rfl | rfl | rfl | rfl | rfl | rfl | rfl <;> simp) j x
  have cB := takeBody_sized u2 (l.drop k) w2 hrb (by have := HSZ.out.2; omega) hoc2 HLD.out hbin2 NILu2.out
  have hST : sz.toNat = SZ := by omega
  rw [hST] at HRR
  obtain ⟨T, hT⟩ : ∃ T : Nat, ((l.drop k).take SZ).length = T := ⟨_, rfl⟩
  have hTl : (T : Int) ≤ 1000000 := by rw [← hT, List.length_take]; have := HLD.out; omega
  rw [hT] at cB HRR
  have HT := Lib.hid hT
  have HB2 := Lib.hid hb2
  have HF2 := Lib.hid hF2
  have HNF := Lib.hid hnf
  have HOF := Lib.hid hof
  have HSZ9 : Hid (SZ ≤ 1048576) := Lib.hid (by have := HSZ.out.2; omega)
  have hwt : IntKind.i64.wrap ((k : Int) + (T : Int)) = ((k + T : Nat) : Int) := by rw [IntWalk.i64_in _ (by omega)]; omega
  obtain ⟨E, hE⟩ : ∃ E : Nat, k + T = E := ⟨_, rfl⟩
  have hst : (k : Int) + (T : Int) = (E : Int) := by omega
  rw [hE] at hwt
  have HE := Lib.hid hE
  clear cH1 c0 hb2 hF2 hnf hof hsx hfr hrb hbin2 hSZ hoc2 hST hT hE
  go_wp2_with fail
  refine cB.mono ?_
  rintro x w3 ⟨ub, rfl, hrow3, hb3, hR3⟩
  have HB3 := Lib.hid hb3
  have HR3 := Lib.hid hR3
  have HROW3 := Lib.hid hrow3
  clear cB f0 hb3 hR3 hrow3
  go_wp2_with fail
  go_ret3
  rw [HRR.out]
  have hE2 : k + T = E := by have := HE.out; omega
  rw [hE2]
  refine Or.inr ⟨rfl, ⟨_, rfl, ?_⟩, (((Buts.refl g g w).trans HB2.out).trans HB3.out).same, d, _, .inl rfl, ⟨HR3.out, ?_, HNF.out, HFIT.out, trivial, ?_, ?_, HSH.out, ?_⟩⟩
  · rw [HT.out]
    exact row_base HROW3.out ((Buts.refl g g w).trans HB2.out).size
  · exact HF2.out.buts HB3.out (fun ad n c e => by injection e with e1; exact ⟨HOF.out ad e1, HOF.out ad e1⟩)
  · intro ad n c e
    injection e with e1
    exact HOF.out ad e1
  · exact Nat.le_trans (Nat.sub_le _ _) HSZ9.out
  · intro h _
    exact absurd rfl (h _ _ _)

set_option maxHeartbeats 6400000 in
set_option maxRecDepth 100000 in
theorem take_head_chunk {s : St.S} (g d : Nat) (asks hd : Bool) (fv v : Value) (l : List UInt8) (w : World) (hR : RdAt w g d asks hd (awaits (.head s)) (.head s) fv 0) (hl : l.length ≤ 500000) (h : BIn w v l) (hn : NilOk v) (hm : MaxOk w) (hgm : 1 ≠ g)  {fs : List Fld.F} {k : Nat} (hp : Fld.parse l = (fs, k, 0)) {sz : Int} (hf : Ms.framed s fs (Ms.asHead hd) = (2, sz, 0)) {x0 : List UInt8} {t : Nat} {c : Ck.S} (hc : Ck.go (.size 0) (l.drop k) = (x0, t, c, 0)) :
    Calls Tryz.prog 47 #[.pointer (some ⟨g, 0, none⟩), v] w fun x w' => TakeTo w g d asks hd (Ms.go asks (Ms.asHead hd) (.head s) l) x w' := by
  have hoct := hR.no_oct
  have HOCT := Lib.hid hoct
  have H := Lib.hid h
  have HN := Lib.hid hn
  have HM := Lib.hid hm
  have HGM := Lib.hid hgm
  have hfv := hR.bare (fun _ _ _ h => by cases h) (fun _ _ c h => by cases h)
  subst hfv
  have HRD := Lib.hid hR
  have hrow := hR.row
  have HSH : Hid (Ms.Short s) := Lib.hid hR.short
  have hpl := Fld.parse_le l
  rw [hp] at hpl
  obtain ⟨NK, hNK⟩ : ∃ NK, k = NK := ⟨_, rfl⟩
  have hNKl : NK ≤ l.length := by simp only [] at hpl; omega
  have hdr : l.drop k = l.drop NK := by rw [hNK]
  have hcg := hc
  rw [hdr] at hcg
  have hgh : Ms.goHead (Ms.asHead hd) s l = _ := Ms.gh_chunk hp hf hdr hcg
  have HRR : Hid (Ms.go asks (Ms.asHead hd) (.head s) l = (x0, k + t, .chunk s fs c, 0)) := Lib.hid hgh
  clear hgh
  obtain ⟨u, slu, binu, nilu⟩ := slice_from h hn (K := 0) 0 (by first | rfl | simp) (Nat.zero_le _)
  have BINu := Lib.hid binu
  have NILu := Lib.hid nilu
  obtain ⟨u2, slu2, binu2, nilu2⟩ := slice_from h hn (K := (NK : Int)) NK (by first | rfl | simp) hNKl
  have BINu2 := Lib.hid binu2
  have NILu2 := Lib.hid nilu2
  have c0 : w.cell? ⟨g, 0, none⟩ = some (.int .i64 1) := hrow.cell 0
  have hlu : l.length ≤ 500000 := by exact hl
  have cH := fun (W : World) (hr : RB W g (rcs 1 (.head s) (.slice none 0 0) d asks hd 0)) (hb : BIn W u l) (hm : MaxOk W) => takeHeader_ok g d asks hd s u l W hr hlu hb nilu hm hgm hp
  rw [hf] at cH
  subst hNK
  have hk9 : (k : Int) ≤ 500000 := by omega
  have hNK9 : (k : Int) ≤ 500000 := by omega
  have HF := Lib.hid hf
  have hsz := Ms.framed_left hf
  have HSZ := Lib.hid hsz
  have HLD : Hid ((l.drop k).length ≤ 1000000) := Lib.hid (by rw [List.length_drop]; omega)
  have hfit : Fit fs := by
    have := Fld.parse_small l
    rw [hp] at this
    exact ⟨this.1, fun f hf => ⟨by have := (this.2 f hf).1; omega, by have := (this.2 f hf).2; omega⟩⟩
  have HFIT := Lib.hid hfit
  have HCG := Lib.hid hcg
  have hrow0 : RB w g (rcs 1 (.head s) (.slice none 0 0) d asks hd 0) := hrow
  clear hoct h hn hm hgm hR hrow hl binu nilu hpl hlu binu2 nilu2 hNKl hdr hf hsz hfit hp hcg hc
  generalize Ms.go asks (Ms.asHead hd) (.head s) l = r at *
  have cH1 := cH w hrow0 ((by have := BINu.out w H.out; rwa [List.drop_zero] at this)) HM.out
  clear cH hrow0
  go_enter Tryz.func47, Tryz.ntmps47
  go_wp2_with fail
  refine cH1.mono ?_
  rintro x w2 ⟨rfl, hb2, fa, N, fc, wx, hF2, hnf, hof, hsx, hfr⟩
  rw [HF.out] at hfr
  have hbin2 := BINu2.out w2 ((H.out.buts (Buts.refl g g w) HOCT.out HOCT.out).buts hb2 HOCT.out HOCT.out)
  obtain ⟨dd, hdx, hmd, hD2, hrb⟩ : ∃ dd, wx.heap.size ≤ dd ∧ 1 ≠ dd ∧ Dst w2 dd (.size 0) 0 ∧ RB w2 g #[.int .i64 3, .string (str s.method), .string (str s.target), .int .i64 s.status, .string (str s.reason), .int .i64 s.minor, .slice fa N fc, .slice none 0 0, .int .i64 (0 : Nat), .pointer (some ⟨dd, 0, none⟩), .bool asks, .bool hd, .int .i64 0] := by
    rcases hfr with ⟨_, h⟩ | ⟨h2, _⟩
    · exact h
    · exact absurd rfl h2
  have f0 : w2.cell? ⟨g, 0, none⟩ = some (.int .i64 3) := hrb.cell 0
  have hmx2 : MaxOk w2 := (HM.out.buts (Buts.refl g g w) HGM.out HGM.out).buts hb2 HGM.out HGM.out
  have hne : dd ≠ g := by obtain ⟨_, _, _, _, hA, _, _⟩ := hD2.cells; exact hrb.ne_dec hA
  have hnstr : ∀ j y, w2.cell? ⟨dd, j, none⟩ ≠ some (.string y) := by obtain ⟨_, _, _, _, hA, _, _⟩ := hD2.cells; exact hA.no_str
  have HDD : Hid (w.heap.size ≤ dd) := Lib.hid (by have := (Buts.refl g g w).size; omega)
  have cB := takeBody_chunk (.size 0) u2 (l.drop k) w2 hrb hne hmd hD2 hmx2 HLD.out hbin2 HCG.out
  have HB2 := Lib.hid hb2
  have HF2 := Lib.hid hF2
  have HNF := Lib.hid hnf
  have HOF := Lib.hid hof
  have HNE := Lib.hid hne
  have HMD := Lib.hid hmd
  have HNS := Lib.hid hnstr
  have htl := (Ck.go_len (.size 0) (l.drop k)).1
  rw [HCG.out] at htl
  have hTl : (t : Int) ≤ 1000000 := by have := HLD.out; simp only [] at htl; omega
  have hwt : IntKind.i64.wrap ((k : Int) + (t : Int)) = ((k + t : Nat) : Int) := by rw [IntWalk.i64_in _ (by omega)]; omega
  obtain ⟨E, hE⟩ : ∃ E : Nat, k + t = E := ⟨_, rfl⟩
  have hst : (k : Int) + (t : Int) = (E : Int) := by omega
  rw [hE] at hwt
  have HE := Lib.hid hE
  clear cH1 c0 hb2 hF2 hnf hof hsx hfr hrb hbin2 hdx hmd hD2 hmx2 hne hnstr htl hE
  go_wp2_with fail
  refine cB.mono ?_
  rintro x w3 ⟨ub, rfl, hrow3, hb3, hR3, hD3⟩
  have HB3 := Lib.hid hb3
  have HR3 := Lib.hid hR3
  have HD3 := Lib.hid hD3
  have HROW3 := Lib.hid hrow3
  clear cB f0 hb3 hR3 hD3 hrow3
  go_wp2_with fail
  go_ret3
  rw [HRR.out]
  have hE2 : k + t = E := by have := HE.out; omega
  rw [hE2]
  refine Or.inr ⟨rfl, ⟨_, rfl, ?_⟩, (((Buts.refl g g w).trans HB2.out).same).trans' HB3.out (.inr (.inr HDD.out)), dd, _, .inr HDD.out, ⟨HR3.out, ?_, HNF.out, HFIT.out, ⟨HNE.out, HMD.out, HD3.out⟩, ?_, Nat.zero_le _, HSH.out, ?_⟩⟩
  · exact row_base HROW3.out ((Buts.refl g g w).trans HB2.out).size
  · exact HF2.out.buts2 HB3.out (fun ad n c e => by injection e with e1; exact HOF.out ad e1) HNS.out
  · intro ad n c e
    injection e with e1
    exact HOF.out ad e1
  · intro _ h
    exact absurd rfl (h _ _ _)

set_option maxHeartbeats 6400000 in
set_option maxRecDepth 100000 in
theorem take_head_chunkbad {s : St.S} (g d : Nat) (asks hd : Bool) (fv v : Value) (l : List UInt8) (w : World) (hR : RdAt w g d asks hd (awaits (.head s)) (.head s) fv 0) (hl : l.length ≤ 500000) (h : BIn w v l) (hn : NilOk v) (hm : MaxOk w) (hgm : 1 ≠ g)  {fs : List Fld.F} {k : Nat} (hp : Fld.parse l = (fs, k, 0)) {sz : Int} (hf : Ms.framed s fs (Ms.asHead hd) = (2, sz, 0)) {e : Int} {x0 : List UInt8} {t : Nat} {c : Ck.S} (hc : Ck.go (.size 0) (l.drop k) = (x0, t, c, e)) (h0 : e ≠ 0) :
    Calls Tryz.prog 47 #[.pointer (some ⟨g, 0, none⟩), v] w fun x w' => TakeTo w g d asks hd (Ms.go asks (Ms.asHead hd) (.head s) l) x w' := by
  have hoct := hR.no_oct
  have HOCT := Lib.hid hoct
  have H := Lib.hid h
  have HN := Lib.hid hn
  have HM := Lib.hid hm
  have HGM := Lib.hid hgm
  have hfv := hR.bare (fun _ _ _ h => by cases h) (fun _ _ c h => by cases h)
  subst hfv
  have HRD := Lib.hid hR
  have hrow := hR.row
  have hpl := Fld.parse_le l
  rw [hp] at hpl
  obtain ⟨NK, hNK⟩ : ∃ NK, k = NK := ⟨_, rfl⟩
  have hNKl : NK ≤ l.length := by simp only [] at hpl; omega
  have hdr : l.drop k = l.drop NK := by rw [hNK]
  have hcg := hc
  rw [hdr] at hcg
  have hgh : Ms.goHead (Ms.asHead hd) s l = _ := Ms.gh_chunk hp hf hdr hcg
  have HRR : Hid (Ms.go asks (Ms.asHead hd) (.head s) l = (x0, k + t, .chunk s fs c, e)) := Lib.hid hgh
  clear hgh
  obtain ⟨u, slu, binu, nilu⟩ := slice_from h hn (K := 0) 0 (by first | rfl | simp) (Nat.zero_le _)
  have BINu := Lib.hid binu
  have NILu := Lib.hid nilu
  obtain ⟨u2, slu2, binu2, nilu2⟩ := slice_from h hn (K := (NK : Int)) NK (by first | rfl | simp) hNKl
  have BINu2 := Lib.hid binu2
  have NILu2 := Lib.hid nilu2
  have c0 : w.cell? ⟨g, 0, none⟩ = some (.int .i64 1) := hrow.cell 0
  have hlu : l.length ≤ 500000 := by exact hl
  have cH := fun (W : World) (hr : RB W g (rcs 1 (.head s) (.slice none 0 0) d asks hd 0)) (hb : BIn W u l) (hm : MaxOk W) => takeHeader_ok g d asks hd s u l W hr hlu hb nilu hm hgm hp
  rw [hf] at cH
  subst hNK
  have hk9 : (k : Int) ≤ 500000 := by omega
  have hNK9 : (k : Int) ≤ 500000 := by omega
  have HF := Lib.hid hf
  have hsz := Ms.framed_left hf
  have HSZ := Lib.hid hsz
  have HLD : Hid ((l.drop k).length ≤ 1000000) := Lib.hid (by rw [List.length_drop]; omega)
  have hfit : Fit fs := by
    have := Fld.parse_small l
    rw [hp] at this
    exact ⟨this.1, fun f hf => ⟨by have := (this.2 f hf).1; omega, by have := (this.2 f hf).2; omega⟩⟩
  have HFIT := Lib.hid hfit
  have HCG := Lib.hid hcg
  have e1 : (e != 0) = true := by simpa using h0
  have H0 := Lib.hid h0
  have hrow0 : RB w g (rcs 1 (.head s) (.slice none 0 0) d asks hd 0) := hrow
  clear hoct h hn hm hgm hR hrow hl binu nilu hpl hlu binu2 nilu2 hNKl hdr hf hsz hfit hp hcg hc h0
  generalize Ms.go asks (Ms.asHead hd) (.head s) l = r at *
  have cH1 := cH w hrow0 ((by have := BINu.out w H.out; rwa [List.drop_zero] at this)) HM.out
  clear cH hrow0
  go_enter Tryz.func47, Tryz.ntmps47
  go_wp2_with fail
  refine cH1.mono ?_
  rintro x w2 ⟨rfl, hb2, fa, N, fc, wx, hF2, hnf, hof, hsx, hfr⟩
  rw [HF.out] at hfr
  have hbin2 := BINu2.out w2 ((H.out.buts (Buts.refl g g w) HOCT.out HOCT.out).buts hb2 HOCT.out HOCT.out)
  obtain ⟨dd, hdx, hmd, hD2, hrb⟩ : ∃ dd, wx.heap.size ≤ dd ∧ 1 ≠ dd ∧ Dst w2 dd (.size 0) 0 ∧ RB w2 g #[.int .i64 3, .string (str s.method), .string (str s.target), .int .i64 s.status, .string (str s.reason), .int .i64 s.minor, .slice fa N fc, .slice none 0 0, .int .i64 (0 : Nat), .pointer (some ⟨dd, 0, none⟩), .bool asks, .bool hd, .int .i64 0] := by
    rcases hfr with ⟨_, h⟩ | ⟨h2, _⟩
    · exact h
    · exact absurd rfl h2
  have f0 : w2.cell? ⟨g, 0, none⟩ = some (.int .i64 3) := hrb.cell 0
  have hmx2 : MaxOk w2 := (HM.out.buts (Buts.refl g g w) HGM.out HGM.out).buts hb2 HGM.out HGM.out
  have hne : dd ≠ g := by obtain ⟨_, _, _, _, hA, _, _⟩ := hD2.cells; exact hrb.ne_dec hA
  have hnstr : ∀ j y, w2.cell? ⟨dd, j, none⟩ ≠ some (.string y) := by obtain ⟨_, _, _, _, hA, _, _⟩ := hD2.cells; exact hA.no_str
  have HDD : Hid (w.heap.size ≤ dd) := Lib.hid (by have := (Buts.refl g g w).size; omega)
  have cB := takeBody_bad (.size 0) u2 (l.drop k) w2 hrb hne hmd hD2 hmx2 HLD.out hbin2 (e := e) (by rw [HCG.out]) H0.out
  have HB2 := Lib.hid hb2
  clear cH1 c0 hb2 hF2 hnf hof hsx hfr hrb hbin2 hdx hmd hD2 hmx2 hne hnstr
  go_wp2_with fail
  refine cB.mono ?_
  rintro x w3 ⟨⟨ub, rfl⟩, hb3, hR3⟩
  have HB3 := Lib.hid hb3
  have HR3 := Lib.hid hR3
  clear cB f0 hb3 hR3
  go_wp2_with fail
  go_ret3
  rw [HRR.out]
  exact Or.inl ⟨H0.out, ⟨_, _, rfl⟩, (((Buts.refl g g w).trans HB2.out).same).trans' HB3.out (.inr (.inr HDD.out)), _, _, _, _, _, _, _, _, _, _, HR3.out⟩

end Go.Proofs.YtlbjjeonchcgbaaGreatDoor
