/- Package message, the program: octets are taken where a body is awaited, or nothing; all ways together. -/
import Derived.Test.YtlbjjeonchcgbaaGreatDoorMsP7
namespace Go.Proofs.YtlbjjeonchcgbaaGreatDoor
open Go.RowKit

set_option maxHeartbeats 6400000 in
set_option maxRecDepth 100000 in
theorem take_sized0 {s : St.S} {fs : List Fld.F} (g d : Nat) (asks hd : Bool) (fv v : Value) (l : List UInt8) (w : World) (hR : RdAt w g d asks hd (awaits (.sized s fs 0)) (.sized s fs 0) fv 0) (_hl : l.length ≤ 500000) (h : BIn w v l) (hn : NilOk v) (_hm : MaxOk w) (_hgm : 1 ≠ g)  :
    Calls Tryz.prog 47 #[.pointer (some ⟨g, 0, none⟩), v] w fun x w' => TakeTo w g d asks hd (Ms.go asks (Ms.asHead hd) (.sized s fs 0) l) x w' := by
  obtain ⟨fa, fc, hfv, hfx⟩ := hR.fields
  subst hfv
  have HRD := Lib.hid hR
  have hrow := hR.row
  have hoct := hR.no_oct
  obtain ⟨N, hN⟩ : ∃ N, (fieldsOf (.sized s fs 0)).length = N := ⟨_, rfl⟩
  rw [hN] at HRD hrow
  have haw : awaits (.sized s fs 0) = 4 := rfl
  rw [haw] at HRD hrow
  have HRR : Hid (Ms.go asks (Ms.asHead hd) (.sized s fs 0) l = ([], 0, (.sized s fs 0), 0)) := Lib.hid (rfl)
  have c0 : w.cell? ⟨g, 0, none⟩ = some (.int .i64 4) := hrow.cell 0
  have HROW := Lib.hid hrow
  obtain ⟨u, slu, binu, nilu⟩ := slice_from h hn (K := 0) 0 (by first | rfl | simp) (Nat.zero_le _)
  have BINu := Lib.hid binu
  have NILu := Lib.hid nilu
  have HAW := Lib.hid haw
  clear h hn _hm _hgm hR hrow _hl binu nilu hfx hN hoct haw
  generalize Ms.go asks (Ms.asHead hd) (.sized s fs 0) l = r at *
  go_enter Tryz.func47, Tryz.ntmps47
  go_wp2_with fail
  refine (takeBody_none _ w HROW.out rfl (by decide) (by decide)).mono ?_
  rintro x w1 ⟨rfl, rfl⟩
  go_wp2_with fail
  go_ret3
  rw [HRR.out]
  refine Or.inr ⟨rfl, ⟨_, rfl, World.ownsRow_nil _ _ _ _⟩, Buts.refl _ _ _, d, .slice fa N fc, .inl rfl, ?_⟩
  show RdAt _ _ _ _ _ (awaits _) _ _ _
  rw [HAW.out]
  exact HRD.out

set_option maxHeartbeats 6400000 in
set_option maxRecDepth 100000 in
theorem take_over {s : St.S} {fs : List Fld.F} (g d : Nat) (asks hd : Bool) (fv v : Value) (l : List UInt8) (w : World) (hR : RdAt w g d asks hd (awaits (.chunk s fs .over)) (.chunk s fs .over) fv 0) (_hl : l.length ≤ 500000) (h : BIn w v l) (hn : NilOk v) (_hm : MaxOk w) (_hgm : 1 ≠ g)  :
    Calls Tryz.prog 47 #[.pointer (some ⟨g, 0, none⟩), v] w fun x w' => TakeTo w g d asks hd (Ms.go asks (Ms.asHead hd) (.chunk s fs .over) l) x w' := by
  obtain ⟨fa, fc, hfv, hfx⟩ := hR.fields
  subst hfv
  have HRD := Lib.hid hR
  have hrow := hR.row
  have hoct := hR.no_oct
  obtain ⟨N, hN⟩ : ∃ N, (fieldsOf (.chunk s fs .over)).length = N := ⟨_, rfl⟩
  rw [hN] at HRD hrow
  have haw : awaits (.chunk s fs .over) = 4 := rfl
  rw [haw] at HRD hrow
  have HRR : Hid (Ms.go asks (Ms.asHead hd) (.chunk s fs .over) l = ([], 0, (.chunk s fs .over), 0)) := Lib.hid (by show ((Ck.go .over l).1, (Ck.go .over l).2.1, Ms.S.chunk s fs (Ck.go .over l).2.2.1, (Ck.go .over l).2.2.2) = _; rw [Ck.go_more (s := .over) rfl])
  have c0 : w.cell? ⟨g, 0, none⟩ = some (.int .i64 4) := hrow.cell 0
  have HROW := Lib.hid hrow
  obtain ⟨u, slu, binu, nilu⟩ := slice_from h hn (K := 0) 0 (by first | rfl | simp) (Nat.zero_le _)
  have BINu := Lib.hid binu
  have NILu := Lib.hid nilu
  have HAW := Lib.hid haw
  clear h hn _hm _hgm hR hrow _hl binu nilu hfx hN hoct haw
  generalize Ms.go asks (Ms.asHead hd) (.chunk s fs .over) l = r at *
  go_enter Tryz.func47, Tryz.ntmps47
  go_wp2_with fail
  refine (takeBody_none _ w HROW.out rfl (by decide) (by decide)).mono ?_
  rintro x w1 ⟨rfl, rfl⟩
  go_wp2_with fail
  go_ret3
  rw [HRR.out]
  refine Or.inr ⟨rfl, ⟨_, rfl, World.ownsRow_nil _ _ _ _⟩, Buts.refl _ _ _, d, .slice fa N fc, .inl rfl, ?_⟩
  show RdAt _ _ _ _ _ (awaits _) _ _ _
  rw [HAW.out]
  exact HRD.out

set_option maxHeartbeats 6400000 in
set_option maxRecDepth 100000 in
theorem take_sized {s : St.S} {fs : List Fld.F} {n : Nat} (g d : Nat) (asks hd : Bool) (fv v : Value) (l : List UInt8) (w : World) (hR : RdAt w g d asks hd (awaits (.sized s fs n)) (.sized s fs n) fv 0) (hl : l.length ≤ 500000) (h : BIn w v l) (hn : NilOk v) (_hm : MaxOk w) (_hgm : 1 ≠ g) (h0 : n ≠ 0) :
    Calls Tryz.prog 47 #[.pointer (some ⟨g, 0, none⟩), v] w fun x w' => TakeTo w g d asks hd (Ms.go asks (Ms.asHead hd) (.sized s fs n) l) x w' := by
  obtain ⟨fa, fc, hfv, hfx⟩ := hR.fields
  subst hfv
  have HRD := Lib.hid hR
  have hrow := hR.row
  have hoct := hR.no_oct
  obtain ⟨N, hN⟩ : ∃ N, (fieldsOf (.sized s fs n)).length = N := ⟨_, rfl⟩
  rw [hN] at HRD hrow
  have haw : awaits (.sized s fs n) = 2 := if_neg h0
  rw [haw] at HRD hrow
  have hrb : RB w g #[.int .i64 2, .string (str s.method), .string (str s.target), .int .i64 s.status, .string (str s.reason), .int .i64 s.minor, .slice fa N fc, .slice none 0 0, .int .i64 n, .pointer none, .bool asks, .bool hd, .int .i64 0] := hrow
  have hleft : n ≤ 1048576 := HRD.out.left
  have HRR : Hid (Ms.go asks (Ms.asHead hd) (.sized s fs n) l = (l.take n, (l.take n).length, .sized s fs (n - (l.take n).length), 0)) := Lib.hid rfl
  have c0 : w.cell? ⟨g, 0, none⟩ = some (.int .i64 2) := hrow.cell 0
  obtain ⟨u, slu, binu, nilu⟩ := slice_from h hn (K := 0) 0 (by first | rfl | simp) (Nat.zero_le _)
  have BINu := Lib.hid binu
  have NILu := Lib.hid nilu
  have cB := takeBody_sized u l w hrb hleft hoct (by omega) (by have := binu w h; rwa [List.drop_zero] at this) nilu
  have HLEFT := Lib.hid hleft
  obtain ⟨T, hT⟩ : ∃ T : Nat, (l.take n).length = T := ⟨_, rfl⟩
  have hTl : (T : Int) ≤ 1000000 := by rw [← hT, List.length_take]; omega
  rw [hT] at cB HRR
  have HT := Lib.hid hT
  clear h hn _hm _hgm hR hrow hl binu nilu hfx hN hoct haw hrb hleft hT h0
  generalize Ms.go asks (Ms.asHead hd) (.sized s fs n) l = r at *
  go_enter Tryz.func47, Tryz.ntmps47
  go_wp2_with fail
  refine cB.mono ?_
  rintro x w1 ⟨ub, rfl, hrow3, hb3, hR3⟩
  have HB3 := Lib.hid hb3
  have HR3 := Lib.hid hR3
  have HROW3 := Lib.hid hrow3
  clear cB c0 hb3 hR3 hrow3
  go_wp2_with fail
  go_ret3
  rw [HRR.out]
  refine Or.inr ⟨rfl, ⟨_, rfl, ?_⟩, HB3.out.same, d, _, .inl rfl, ⟨HR3.out, ?_, HRD.out.nil, HRD.out.fit, trivial, HRD.out.off, ?_, HRD.out.short, ?_⟩⟩
  · rw [HT.out]; exact HROW3.out
  · exact HRD.out.fields.buts HB3.out (fun ad n c e => ⟨HRD.out.off ad n c e, HRD.out.off ad n c e⟩)
  · exact Nat.le_trans (Nat.sub_le _ _) HLEFT.out
  · intro h _
    exact absurd rfl (h _ _ _)

set_option maxHeartbeats 6400000 in
set_option maxRecDepth 100000 in
theorem take_chunk {s : St.S} {fs : List Fld.F} {c : Ck.S} (g d : Nat) (asks hd : Bool) (fv v : Value) (l : List UInt8) (w : World) (hR : RdAt w g d asks hd (awaits (.chunk s fs c)) (.chunk s fs c) fv 0) (hl : l.length ≤ 500000) (h : BIn w v l) (hn : NilOk v) (hm : MaxOk w) (_hgm : 1 ≠ g) (hov : Ck.isOver c = false) {x0 : List UInt8} {t : Nat} {c2 : Ck.S} (hc : Ck.go c l = (x0, t, c2, 0)) :
    Calls Tryz.prog 47 #[.pointer (some ⟨g, 0, none⟩), v] w fun x w' => TakeTo w g d asks hd (Ms.go asks (Ms.asHead hd) (.chunk s fs c) l) x w' := by
  obtain ⟨fa, fc, hfv, hfx⟩ := hR.fields
  subst hfv
  have HRD := Lib.hid hR
  have hrow := hR.row
  have hoct := hR.no_oct
  obtain ⟨N, hN⟩ : ∃ N, (fieldsOf (.chunk s fs c)).length = N := ⟨_, rfl⟩
  rw [hN] at HRD hrow
  have haw : awaits (.chunk s fs c) = 3 := if_neg (by rw [hov]; decide)
  rw [haw] at HRD hrow
  obtain ⟨hne, hmd, hD⟩ : d ≠ g ∧ 1 ≠ d ∧ Dst w d c 0 := HRD.out.dec
  have hrb : RB w g #[.int .i64 3, .string (str s.method), .string (str s.target), .int .i64 s.status, .string (str s.reason), .int .i64 s.minor, .slice fa N fc, .slice none 0 0, .int .i64 (0 : Nat), .pointer (some ⟨d, 0, none⟩), .bool asks, .bool hd, .int .i64 0] := hrow
  have hnstr : ∀ j y, w.cell? ⟨d, j, none⟩ ≠ some (.string y) := by obtain ⟨_, _, _, _, hA, _, _⟩ := hD.cells; exact hA.no_str
  have HRR : Hid (Ms.go asks (Ms.asHead hd) (.chunk s fs c) l = (x0, t, .chunk s fs c2, 0)) := Lib.hid (by show ((Ck.go c l).1, (Ck.go c l).2.1, Ms.S.chunk s fs (Ck.go c l).2.2.1, (Ck.go c l).2.2.2) = _; rw [hc])
  have c0 : w.cell? ⟨g, 0, none⟩ = some (.int .i64 3) := hrow.cell 0
  obtain ⟨u, slu, binu, nilu⟩ := slice_from h hn (K := 0) 0 (by first | rfl | simp) (Nat.zero_le _)
  have BINu := Lib.hid binu
  have NILu := Lib.hid nilu
  have cB := takeBody_chunk c u l w hrb hne hmd hD hm (by omega) (by have := binu w h; rwa [List.drop_zero] at this) hc
  have HNE := Lib.hid hne
  have HMD := Lib.hid hmd
  have HNS := Lib.hid hnstr
  have htl := (Ck.go_len c l).1
  rw [hc] at htl
  have hTl : (t : Int) ≤ 1000000 := by simp only [] at htl; omega
  clear htl
  clear h hn hm _hgm hR hrow hl binu nilu hfx hN hoct haw hrb hne hmd hD hnstr hov hc
  generalize Ms.go asks (Ms.asHead hd) (.chunk s fs c) l = r at *
  go_enter Tryz.func47, Tryz.ntmps47
  go_wp2_with fail
  refine cB.mono ?_
  rintro x w1 ⟨ub, rfl, hrow3, hb3, hR3, hD3⟩
  have HB3 := Lib.hid hb3
  have HR3 := Lib.hid hR3
  have HD3 := Lib.hid hD3
  have HROW3 := Lib.hid hrow3
  clear cB c0 hb3 hR3 hD3 hrow3
  go_wp2_with fail
  go_ret3
  rw [HRR.out]
  refine Or.inr ⟨rfl, ⟨_, rfl, HROW3.out⟩, HB3.out, d, _, .inl rfl, ⟨HR3.out, ?_, HRD.out.nil, HRD.out.fit, ⟨HNE.out, HMD.out, HD3.out⟩, HRD.out.off, Nat.zero_le _, HRD.out.short, ?_⟩⟩
  · exact HRD.out.fields.buts2 HB3.out HRD.out.off HNS.out
  · intro _ h
    exact absurd rfl (h _ _ _)

set_option maxHeartbeats 6400000 in
set_option maxRecDepth 100000 in
theorem take_chunkbad {s : St.S} {fs : List Fld.F} {c : Ck.S} (g d : Nat) (asks hd : Bool) (fv v : Value) (l : List UInt8) (w : World) (hR : RdAt w g d asks hd (awaits (.chunk s fs c)) (.chunk s fs c) fv 0) (hl : l.length ≤ 500000) (h : BIn w v l) (hn : NilOk v) (hm : MaxOk w) (_hgm : 1 ≠ g) (hov : Ck.isOver c = false) {e : Int} {x0 : List UInt8} {t : Nat} {c2 : Ck.S} (hc : Ck.go c l = (x0, t, c2, e)) (h0 : e ≠ 0) :
    Calls Tryz.prog 47 #[.pointer (some ⟨g, 0, none⟩), v] w fun x w' => TakeTo w g d asks hd (Ms.go asks (Ms.asHead hd) (.chunk s fs c) l) x w' := by
  obtain ⟨fa, fc, hfv, hfx⟩ := hR.fields
  subst hfv
  have HRD := Lib.hid hR
  have hrow := hR.row
  have hoct := hR.no_oct
  obtain ⟨N, hN⟩ : ∃ N, (fieldsOf (.chunk s fs c)).length = N := ⟨_, rfl⟩
  rw [hN] at HRD hrow
  have haw : awaits (.chunk s fs c) = 3 := if_neg (by rw [hov]; decide)
  rw [haw] at HRD hrow
  obtain ⟨hne, hmd, hD⟩ : d ≠ g ∧ 1 ≠ d ∧ Dst w d c 0 := HRD.out.dec
  have hrb : RB w g #[.int .i64 3, .string (str s.method), .string (str s.target), .int .i64 s.status, .string (str s.reason), .int .i64 s.minor, .slice fa N fc, .slice none 0 0, .int .i64 (0 : Nat), .pointer (some ⟨d, 0, none⟩), .bool asks, .bool hd, .int .i64 0] := hrow
  have hnstr : ∀ j y, w.cell? ⟨d, j, none⟩ ≠ some (.string y) := by obtain ⟨_, _, _, _, hA, _, _⟩ := hD.cells; exact hA.no_str
  have HRR : Hid (Ms.go asks (Ms.asHead hd) (.chunk s fs c) l = (x0, t, .chunk s fs c2, e)) := Lib.hid (by show ((Ck.go c l).1, (Ck.go c l).2.1, Ms.S.chunk s fs (Ck.go c l).2.2.1, (Ck.go c l).2.2.2) = _; rw [hc])
  have c0 : w.cell? ⟨g, 0, none⟩ = some (.int .i64 3) := hrow.cell 0
  obtain ⟨u, slu, binu, nilu⟩ := slice_from h hn (K := 0) 0 (by first | rfl | simp) (Nat.zero_le _)
  have BINu := Lib.hid binu
  have NILu := Lib.hid nilu
  have cB := takeBody_bad c u l w hrb hne hmd hD hm (by omega) (by have := binu w h; rwa [List.drop_zero] at this) (e := e) (by rw [hc]) h0
  have HNE := Lib.hid hne
  have HMD := Lib.hid hmd
  have HNS := Lib.hid hnstr
  have H0 := Lib.hid h0
  clear h hn hm _hgm hR hrow hl binu nilu hfx hN hoct haw hrb hne hmd hD hnstr hov hc h0
  generalize Ms.go asks (Ms.asHead hd) (.chunk s fs c) l = r at *
  go_enter Tryz.func47, Tryz.ntmps47
  go_wp2_with fail
  refine cB.mono ?_
  rintro x w1 ⟨⟨ub, rfl⟩, hb3, hR3⟩
  have HB3 := Lib.hid hb3
  have HR3 := Lib.hid hR3
  clear cB c0 hb3 hR3
  go_wp2_with fail
  go_ret3
  rw [HRR.out]
  exact Or.inl ⟨H0.out, ⟨_, _, rfl⟩, HB3.out, _, _, _, _, _, _, _, _, _, _, HR3.out⟩

theorem take_head (s : St.S) (g d : Nat) (asks hd : Bool) (fv v : Value) (l : List UInt8) (w : World) (hR : RdAt w g d asks hd (awaits (.head s)) (.head s) fv 0) (hl : l.length ≤ 500000) (h : BIn w v l) (hn : NilOk v) (hm : MaxOk w) (hgm : 1 ≠ g) :
    Calls Tryz.prog 47 #[.pointer (some ⟨g, 0, none⟩), v] w fun x w' => TakeTo w g d asks hd (Ms.go asks (Ms.asHead hd) (.head s) l) x w' := by
  obtain ⟨⟨fs, k, e⟩, hp⟩ : ∃ x, Fld.parse l = x := ⟨_, rfl⟩
  by_cases h1 : e = 11
  · subst h1; exact take_head_wait g d asks hd fv v l w hR hl h hn hm hgm hp
  · by_cases h0 : e = 0
    · subst h0
      obtain ⟨⟨kd, sz, e⟩, hf⟩ : ∃ x, Ms.framed s fs (Ms.asHead hd) = x := ⟨_, rfl⟩
      by_cases h0 : e = 0
      · subst h0
        by_cases h2 : kd = 2
        · subst h2
          obtain ⟨⟨x0, t, c, e⟩, hc⟩ : ∃ x, Ck.go (.size 0) (l.drop k) = x := ⟨_, rfl⟩
          by_cases h0 : e = 0
          · subst h0; exact take_head_chunk g d asks hd fv v l w hR hl h hn hm hgm hp hf hc
          · exact take_head_chunkbad g d asks hd fv v l w hR hl h hn hm hgm hp hf hc h0
        · exact take_head_sized g d asks hd fv v l w hR hl h hn hm hgm hp hf h2
      · exact take_head_frame g d asks hd fv v l w hR hl h hn hm hgm hp hf h0
    · exact take_head_bad g d asks hd fv v l w hR hl h hn hm hgm hp h0 h1
theorem take_first (g d : Nat) (asks hd : Bool) (fv v : Value) (l : List UInt8) (w : World) (hR : RdAt w g d asks hd (awaits .first) .first fv 0) (hl : l.length ≤ 500000) (h : BIn w v l) (hn : NilOk v) (hm : MaxOk w) (hgm : 1 ≠ g) :
    Calls Tryz.prog 47 #[.pointer (some ⟨g, 0, none⟩), v] w fun x w' => TakeTo w g d asks hd (Ms.go asks (Ms.asHead hd) .first l) x w' := by
  obtain ⟨⟨s, ni, e⟩, hq⟩ : ∃ x, Ms.line asks l = x := ⟨_, rfl⟩
  by_cases h1 : e = 11
  · subst h1; exact take_first_wait g d asks hd fv v l w hR hl h hn hm hgm hq
  · by_cases h0 : e = 0
    · subst h0
      obtain ⟨n, hnn, _⟩ := Ms.line_nat asks l
      rw [hq] at hnn
      have hnn : ni = n := hnn
      subst hnn
      obtain ⟨⟨fs, k, e⟩, hp⟩ : ∃ x, Fld.parse (l.drop n) = x := ⟨_, rfl⟩
      by_cases h1 : e = 11
      · subst h1; exact take_first_hwait g d asks hd fv v l w hR hl h hn hm hgm hq hp
      · by_cases h0 : e = 0
        · subst h0
          obtain ⟨⟨kd, sz, e⟩, hf⟩ : ∃ x, Ms.framed s fs (Ms.asHead hd) = x := ⟨_, rfl⟩
          by_cases h0 : e = 0
          · subst h0
            by_cases h2 : kd = 2
            · subst h2
              obtain ⟨⟨x0, t, c, e⟩, hc⟩ : ∃ x, Ck.go (.size 0) ((l.drop n).drop k) = x := ⟨_, rfl⟩
              by_cases h0 : e = 0
              · subst h0; exact take_first_hchunk g d asks hd fv v l w hR hl h hn hm hgm hq hp hf hc
              · exact take_first_hchunkbad g d asks hd fv v l w hR hl h hn hm hgm hq hp hf hc h0
            · exact take_first_hsized g d asks hd fv v l w hR hl h hn hm hgm hq hp hf h2
          · exact take_first_hframe g d asks hd fv v l w hR hl h hn hm hgm hq hp hf h0
        · exact take_first_hbad g d asks hd fv v l w hR hl h hn hm hgm hq hp h0 h1
    · exact take_first_bad g d asks hd fv v l w hR hl h hn hm hgm hq h0 h1
theorem takes_w (st : Ms.S) (g d : Nat) (asks hd : Bool) (fv v : Value) (l : List UInt8) (w : World) (hR : RdAt w g d asks hd (awaits st) st fv 0) (hl : l.length ≤ 500000) (h : BIn w v l) (hn : NilOk v) (hm : MaxOk w) (hgm : 1 ≠ g) :
    Calls Tryz.prog 47 #[.pointer (some ⟨g, 0, none⟩), v] w fun x w' => TakeTo w g d asks hd (Ms.go asks (Ms.asHead hd) st l) x w' := by
  cases st with
  | first => exact take_first g d asks hd fv v l w hR hl h hn hm hgm
  | head s => exact take_head s g d asks hd fv v l w hR hl h hn hm hgm
  | sized s fs n =>
    by_cases h0 : n = 0
    · subst h0; exact take_sized0 g d asks hd fv v l w hR hl h hn hm hgm
    · exact take_sized g d asks hd fv v l w hR hl h hn hm hgm h0
  | chunk s fs c =>
    by_cases hov : Ck.isOver c = true
    · cases c with
      | over => exact take_over g d asks hd fv v l w hR hl h hn hm hgm
      | size t => cases hov
      | data t n => cases hov
      | tail t => cases hov
      | trail k => cases hov
    · have hov : Ck.isOver c = false := by simpa using hov
      obtain ⟨⟨x0, t, c2, e⟩, hc⟩ : ∃ x, Ck.go c l = x := ⟨_, rfl⟩
      by_cases h0 : e = 0
      · subst h0; exact take_chunk g d asks hd fv v l w hR hl h hn hm hgm hov hc
      · exact take_chunkbad g d asks hd fv v l w hR hl h hn hm hgm hov hc h0
end Go.Proofs.YtlbjjeonchcgbaaGreatDoor
