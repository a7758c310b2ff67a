/- Package message, the program: a reader is made, takes octets, is asked. -/
import Derived.Test.YtlbjjeonchcgbaaGreatDoorMsP8
namespace Go.Proofs.YtlbjjeonchcgbaaGreatDoor
open Go.RowKit

/-- How far a reader has come goes back into its cells. -/
theorem stPr {ops : Array Oper} {rest : List Oper} {o : Oper} {a : Act} {Q : Exit → Act → World → Prop} {W : World} {g : Nat} {c0 c1 c2 c3 c4 c5 c6 c7 c8 c9 ca cb cc : Value} (h : RB W g #[c0, c1, c2, c3, c4, c5, c6, c7, c8, c9, ca, cb, cc])
    (hgd : o.guard = none) (px py : Operand) (ho : o.op = .store 86 px py) (v0 v1 v2 v3 v4 v5 v6 v7 v8 v9 : Value) (hone : (#[v0, v1, v2, v3, v4, v5, v6, v7, v8, v9] : Array Value).all (·.oneCell') = true) (hx : a.eval px = .pointer (some ⟨g, 0, none⟩))
    (hy : a.eval py = .agg #[v0, v1, v2, v3, v4, v5, v6, v7, v8, v9])
    (hK : ∀ W', RB W' g #[v0, v1, v2, v3, v4, v5, v6, v7, v8, v9, ca, cb, cc] → Buts g g W W' → wpList Tryz.prog ops Q rest (a.put o.dst undef) W') : wpList Tryz.prog ops Q (o :: rest) a W :=
  wpList_store_mid hgd 86 px py ho g 0 #[v0, v1, v2, v3, v4, v5, v6, v7, v8, v9] hx hy (h.there 0 10 (by simp)) (by kernel_rfl) hone
    (hK _ (RB.puts [v0, v1, v2, v3, v4, v5, v6, v7, v8, v9] 0 W _ _ h (by kernel_rfl)) (Buts.puts _ 0 _ (Buts.refl g g W)))
/-- What was made below B is as it was; and so are rows of octets. -/
structure Kin (B : Nat) (w w' : World) : Prop where
  below : Below B w w'
  octs : ∀ (k : Nat) (cur : Array Value) (fz : Nat × Nat), w.heap[k]? = some (.cells cur 5 fz) → w'.heap[k]? = some (.cells cur 5 fz)
theorem Kin.trans {B : Nat} {a b c : World} (h : Kin B a b) (h' : Kin B b c) : Kin B a c := ⟨h.below.trans h'.below, fun k cur fz hk => h'.octs k cur fz (h.octs k cur fz hk)⟩
theorem Kin.of {B : Nat} {a b : World} (h : Below a.heap.size a b) (hB : B ≤ a.heap.size) : Kin B a b := ⟨h.mono hB, fun k _ _ hk => (h.block k (lt_of_block hk)).trans hk⟩
/-- A reader in memory, of what was made at or behind B: where it stands. -/
def Rdr (B : Nat) (asks : Bool) (hd : Bool) (w : World) (g : Nat) (st : Ms.S) : Prop := B ≤ g ∧ B ≤ w.heap.size ∧ 1 < B ∧ ∃ d fv, B ≤ d ∧ d < w.heap.size ∧ (Ms.Body st → (∃ s fs c, st = .chunk s fs c) ∨ d = g) ∧ (¬ Ms.Body st → d = g) ∧ RdAt w g d asks hd (awaits st) st fv 0
/-- A reader that has found a fault. -/
def RdrBad (w : World) (g : Nat) (dn : Bool) (e : Int) : Prop := ∃ (a : Int) (cs : Array Value), (a == 4) = dn ∧ cs.size = 13 ∧ cs[0]? = some (.int .i64 a) ∧ cs[12]? = some (.int .i64 e) ∧ RB w g cs
theorem awaits_done (st : Ms.S) : (awaits st == 4) = Ms.isDone st := by
  cases st with
  | first => rfl
  | head s => rfl
  | sized s fs n =>
    show ((if n = 0 then (4 : Int) else 2) == 4) = decide (n = 0)
    by_cases h : n = 0
    · rw [if_pos h, decide_eq_true h]; rfl
    · rw [if_neg h, decide_eq_false h]; rfl
  | chunk s fs c =>
    show ((if Ck.isOver c = true then (4 : Int) else 3) == 4) = Ck.isOver c
    by_cases h : Ck.isOver c = true
    · rw [if_pos h, h]; rfl
    · rw [if_neg h]
      have : Ck.isOver c = false := by simpa using h
      rw [this]; rfl
/-- In a state without a decoder, whatever block stands for it. -/
theorem RdAt.any {w : World} {g d e : Nat} {asks hd : Bool} {a : Int} {st : Ms.S} {fv : Value} {er : Int} (h : RdAt w g d asks hd a st fv er) (hst : ∀ s fs c, st ≠ .chunk s fs c) : RdAt w g e asks hd a st fv er := by
  have hd' : decOf d st = decOf e st := by
    cases st with
    | chunk s fs c => exact absurd rfl (hst s fs c)
    | first => rfl
    | head s => rfl
    | sized s fs n => rfl
  refine ⟨?_, h.fields, h.nil, h.fit, ?_, h.off, h.left, h.short, h.bare⟩
  · have := h.row
    unfold rcs at this ⊢
    rw [← hd']; exact this
  · cases st with
    | chunk s fs c => exact absurd rfl (hst s fs c)
    | first => trivial
    | head s => trivial
    | sized s fs n => trivial
theorem Rdr.intro {B : Nat} {asks hd : Bool} {w : World} {g d : Nat} {st : Ms.S} {fv : Value} (hg : B ≤ g) (hB : B ≤ w.heap.size) (hml : 1 < B) (hBd : B ≤ d) (h : RdAt w g d asks hd (awaits st) st fv 0) : Rdr B asks hd w g st := by
  refine ⟨hg, hB, hml, ?_⟩
  have hgl := h.row.lt
  cases st with
  | first => exact ⟨g, fv, hg, hgl, (fun h => by cases h), (fun _ => rfl), h.any (fun _ _ _ h => by cases h)⟩
  | head s => exact ⟨g, fv, hg, hgl, (fun h => by cases h), (fun _ => rfl), h.any (fun _ _ _ h => by cases h)⟩
  | sized s fs n => exact ⟨g, fv, hg, hgl, (fun _ => .inr rfl), (fun _ => rfl), h.any (fun _ _ _ h => by cases h)⟩
  | chunk s fs c =>
    refine ⟨d, fv, hBd, ?_, (fun _ => .inl ⟨s, fs, c, rfl⟩), (fun h => absurd trivial h), h⟩
    obtain ⟨_, _, hD⟩ := h.dec
    obtain ⟨_, _, _, _, hA, _, _⟩ := Dst.cells hD
    exact hA.lt
/-- Rows of octets are no blocks of a reader's. -/
theorem Kin.buts {B : Nat} {asks hd : Bool} {w w' : World} {g d : Nat} {a : Int} {st : Ms.S} {fv : Value} {er : Int} (h : RdAt w g d asks hd a st fv er) (hdg : (∃ s fs c, st = .chunk s fs c) ∨ d = g) (hb : Buts g d w w') (hg : B ≤ g) (hBd : B ≤ d) (hB : B ≤ w.heap.size) : Kin B w w' := by
  refine ⟨hb.below hB hg hBd, fun k cur fz hk => ?_⟩
  have n1 : k ≠ g := by
    rintro rfl
    have := h.row
    unfold RB at this
    rw [hk] at this
    injection this with h1
    injection h1 with _ h2
    exact absurd h2 (by decide)
  have n2 : k ≠ d := by
    rcases hdg with ⟨s, fs, c, rfl⟩ | rfl
    · rintro rfl
      obtain ⟨_, _, hD⟩ := h.dec
      obtain ⟨_, _, _, _, hA, _, _⟩ := Dst.cells hD
      unfold DAt at hA
      rw [hk] at hA
      injection hA with h1
      injection h1 with _ h2
      exact absurd h2 (by decide)
    · exact n1
  exact (hb.block k (lt_of_block hk) n1 n2).trans hk

set_option maxHeartbeats 6400000 in
set_option maxRecDepth 100000 in
theorem new_r (asks : Bool) (m : List UInt8) (w : World) (hm : MaxOk w) :
    Calls Tryz.prog 20 #[.bool asks, .string (str m)] w fun x w' => x = .returned (.pointer (some ⟨w.heap.size, 0, none⟩)) ∧ Below w.heap.size w w' ∧ Rdr w.heap.size asks (decide (m = Ms.kHead)) w' w.heap.size .first := by
  have q2 : ((str m).toList == [72, 69, 65, 68]) = decide (m = Ms.kHead) := by
    have q1 := str_beq m Ms.kHead
    rw [str_toList] at q1 ⊢
    rw [str_toList] at q1
    exact q1
  have HML := Lib.hid (maxOk_lt hm)
  clear hm
  generalize decide (m = Ms.kHead) = hd at *
  generalize str m = mm at *
  go_enter Tryz.func20, Tryz.ntmps20
  go_wp2_with fail
  go_ret
  have hb : Below w.heap.size w (w.alloc (.cells (rcs 0 .first (.slice none 0 0) w.heap.size asks hd 0) 88)) := (Below.refl _ w).alloc (Nat.le_refl _) _
  refine ⟨rfl, hb, Rdr.intro (Nat.le_refl _) hb.size HML.out (Nat.le_refl _) ⟨heap_alloc_new w _, ⟨none, 0, rfl, .inl rfl⟩, (fun c h => by injection h with _ _ h; exact h.symm), Fit.nil, trivial, (fun ad n c e => by cases e), Nat.zero_le _, Ms.Short.zero, fun _ _ => rfl⟩⟩

set_option maxHeartbeats 6400000 in
set_option maxRecDepth 100000 in
theorem done_any (g : Nat) (a : Int) (cs : Array Value) (w : World) (hR : RB w g cs) (h0 : cs[0]? = some (.int .i64 a)) :
    Calls Tryz.prog 22 #[.pointer (some ⟨g, 0, none⟩)] w fun x w' => x = .returned (.bool (a == 4)) ∧ w = w' := by
  have c0 := (hR.cell 0).trans h0
  clear hR h0
  obtain ⟨b, hb⟩ : ∃ b, (a == 4) = b := ⟨_, rfl⟩
  rw [hb]
  go_enter Tryz.func22, Tryz.ntmps22
  go_wp2_with fail
  go_ret
  exact ⟨rfl, rfl⟩
theorem done_r {B : Nat} {asks hd : Bool} {w : World} {g : Nat} {st : Ms.S} (h : Rdr B asks hd w g st) : Calls Tryz.prog 22 #[.pointer (some ⟨g, 0, none⟩)] w fun x w' => x = .returned (.bool (Ms.isDone st)) ∧ w = w' := by
  obtain ⟨_, _, _, d, fv, _, _, _, _, hR⟩ := h
  have := done_any g (awaits st) _ w hR.row rfl
  rwa [awaits_done] at this
theorem done_bad {w : World} {g : Nat} {dn : Bool} {e : Int} (h : RdrBad w g dn e) : Calls Tryz.prog 22 #[.pointer (some ⟨g, 0, none⟩)] w fun x w' => x = .returned (.bool dn) ∧ w = w' := by
  obtain ⟨a, cs, ha, _, h0, _, hR⟩ := h
  have := done_any g a cs w hR h0
  rwa [ha] at this

set_option maxHeartbeats 6400000 in
set_option maxRecDepth 100000 in
theorem take_again {w : World} {g : Nat} {dn : Bool} {e : Int} (h : RdrBad w g dn e) (he : e ≠ 0) (v : Value) :
    Calls Tryz.prog 21 #[.pointer (some ⟨g, 0, none⟩), v] w fun x w' => x = .returned (.tuple #[.slice none 0 0, .int .i64 0, .int .i64 e]) ∧ Below w.heap.size w w' := by
  obtain ⟨a, cs, ha, _, h0, h12, hR⟩ := h
  have cc := (hR.cell 12).trans h12
  have e1 : (e != 0) = true := by simpa using he
  clear ha h0 h12 hR he
  go_enter Tryz.func21, Tryz.ntmps21
  go_wp2_with fail
  go_region
  go_wp2_with fail
  go_ret3
  exact ⟨by trivial, (Below.refl _ w).drew⟩

/-- What Take answers. -/
def Took (B : Nat) (asks hd : Bool) (w : World) (g : Nat) (st : Ms.S) (r : Ms.L × Nat × Ms.S × Int) (x : Ending) (w' : World) : Prop := Kin B w w' ∧
  ((r.2.2.2 ≠ 0 ∧ x = .returned (.tuple #[.slice none 0 0, .int .i64 0, .int .i64 r.2.2.2]) ∧ RdrBad w' g (Ms.isDone st) r.2.2.2) ∨
   (r.2.2.2 = 0 ∧ (∃ u, x = .returned (.tuple #[u, .int .i64 r.2.1, .int .i64 0]) ∧ w'.ownsRow w.heap.size 5 1 u r.1.length (Lib.byteCells r.1)) ∧ Rdr B asks hd w' g r.2.2.1))
set_option maxHeartbeats 6400000 in
set_option maxRecDepth 100000 in
theorem Take_w {B : Nat} {asks hd : Bool} {w : World} {g : Nat} {st : Ms.S} (h : Rdr B asks hd w g st) (v : Value) (l : List UInt8) (hl : l.length ≤ 500000) (hv : BIn w v l) (hn : NilOk v) (hm : MaxOk w) :
    Calls Tryz.prog 21 #[.pointer (some ⟨g, 0, none⟩), v] w fun x w' => Took B asks hd w g st (Ms.go asks (Ms.asHead hd) st l) x w' := by
  obtain ⟨hBg, hBw, hml, d, fv, hBd, hdl, hdg, hdn, hR⟩ := h
  have hdg2 : (∃ s fs c, st = .chunk s fs c) ∨ d = g := by
    by_cases hb : Ms.Body st
    · exact hdg hb
    · exact .inr (hdn hb)
  have cT := fun (W : World) (hb : Below w.heap.size w W) (hr : RdAt W g d asks hd (awaits st) st fv 0) => takes_w st g d asks hd fv v l W hr hl (hv.later hb) hn (hm.later hb) (by omega)
  have HK := Lib.hid (fun (w' : World) (hb : Buts g d w w') => Kin.buts hR hdg2 hb hBg hBd hBw)
  have HL := Lib.hid (fun (W : World) (hb : Below w.heap.size w W) => (⟨hR.row.later hb, hR.fields.later hb, hR.nil, hR.fit, (by
    cases st with
    | chunk s fs c => obtain ⟨q1, q2, q3⟩ := hR.dec; exact ⟨q1, q2, Dst.same q3 (hb.block d hdl)⟩
    | first => trivial
    | head s => trivial
    | sized s fs n => trivial), hR.off, hR.left, hR.short, hR.bare⟩ : RdAt W g d asks hd (awaits st) st fv 0))
  have HBS := Lib.hid (⟨hBg, hBw, hml, hBd, hdl⟩ : B ≤ g ∧ B ≤ w.heap.size ∧ 1 < B ∧ B ≤ d ∧ d < w.heap.size)
  obtain ⟨fa, fc, hfv, _⟩ := hR.fields
  have hrow := hR.row
  unfold rcs at hrow
  subst hfv
  obtain ⟨dp, hdp⟩ : ∃ p, decOf d st = .pointer p := by cases st <;> exact ⟨_, rfl⟩
  rw [hdp] at hrow
  obtain ⟨N, hN⟩ : ∃ x, (fieldsOf st).length = x := ⟨_, rfl⟩
  obtain ⟨a0, ha⟩ : ∃ x, awaits st = x := ⟨_, rfl⟩
  obtain ⟨x1, h1⟩ : ∃ x, str (startOf st).method = x := ⟨_, rfl⟩
  obtain ⟨x2, h2⟩ : ∃ x, str (startOf st).target = x := ⟨_, rfl⟩
  obtain ⟨x3, h3⟩ : ∃ x, (startOf st).status = x := ⟨_, rfl⟩
  obtain ⟨x4, h4⟩ : ∃ x, str (startOf st).reason = x := ⟨_, rfl⟩
  obtain ⟨x5, h5⟩ : ∃ x, (startOf st).minor = x := ⟨_, rfl⟩
  obtain ⟨n0, h6⟩ : ∃ x : Int, (leftOf st : Int) = x := ⟨_, rfl⟩
  rw [hN, ha, h1, h2, h3, h4, h5, h6] at hrow
  have HDN : Hid ((a0 == 4) = Ms.isDone st) := Lib.hid (by rw [← ha]; exact awaits_done st)
  clear hN ha h1 h2 h3 h4 h5 h6
  obtain ⟨⟨xs, k, st', e⟩, hr⟩ : ∃ r, Ms.go asks (Ms.asHead hd) st l = r := ⟨_, rfl⟩
  rw [hr] at cT ⊢
  have hrow : RB w g #[.int .i64 a0, .string x1, .string x2, .int .i64 x3, .string x4, .int .i64 x5, .slice fa N fc, .slice none 0 0, .int .i64 n0, .pointer dp, .bool asks, .bool hd, .int .i64 0] := hrow
  have HROW := Lib.hid hrow
  obtain ⟨_, _, _, _, _, _, _, _, _, _, _, _, cc⟩ := hrow.set13
  clear hBg hBw hml hBd hdl hdg hdn hR hdg2 hl hv hn hm hdp hr hrow
  go_enter Tryz.func21, Tryz.ntmps21
  go_wp2_with (refine ldPr HROW.out rfl (.tmp 22) rfl rfl ?_)
  have h10 : (w.alloc (.cells #[.int .i64 a0, .string x1, .string x2, .int .i64 x3, .string x4, .int .i64 x5, .slice fa N fc, .slice none 0 0, .int .i64 n0, .pointer dp] 86)).heap[w.heap.size]? = some (.cells #[.int .i64 a0, .string x1, .string x2, .int .i64 x3, .string x4, .int .i64 x5, .slice fa N fc, .slice none 0 0, .int .i64 n0, .pointer dp] 86 (0, 0)) := heap_alloc_new w _
  have hb1 : Below w.heap.size w (w.alloc (.cells #[.int .i64 a0, .string x1, .string x2, .int .i64 x3, .string x4, .int .i64 x5, .slice fa N fc, .slice none 0 0, .int .i64 n0, .pointer dp] 86)) := (Below.refl _ w).alloc (Nat.le_refl _) _
  have cT1 := cT _ hb1 (HL.out _ hb1)
  have HB1 := Lib.hid hb1
  have HSZ : Hid (w.heap.size < (w.alloc (.cells #[.int .i64 a0, .string x1, .string x2, .int .i64 x3, .string x4, .int .i64 x5, .slice fa N fc, .slice none 0 0, .int .i64 n0, .pointer dp] 86)).heap.size) := Lib.hid (by simp)
  clear cT hb1 cc hrow
  generalize w.alloc (.cells #[.int .i64 a0, .string x1, .string x2, .int .i64 x3, .string x4, .int .i64 x5, .slice fa N fc, .slice none 0 0, .int .i64 n0, .pointer dp] 86) = w1 at *
  obtain ⟨b, hbb⟩ : ∃ b, w.heap.size = b := ⟨_, rfl⟩
  rw [hbb] at h10
  have HBB := Lib.hid hbb
  have H10 := Lib.hid h10
  clear h10
  refine cT1.mono ?_
  rintro x w2 (⟨h0, ⟨u, n, rfl⟩, hb2, c0, c1, c2, c3, c4, c5, c6, c7, c8, c9, hR2⟩ | ⟨h0, ⟨u, rfl, hrow2⟩, hb2, d2, fv2, hd2, hR2⟩)
  · have e1 : (e != 0) = true := by simpa using h0
    have H0 : Hid (e ≠ 0) := Lib.hid h0
    have h10 : w2.heap[b]? = some (.cells #[.int .i64 a0, .string x1, .string x2, .int .i64 x3, .string x4, .int .i64 x5, .slice fa N fc, .slice none 0 0, .int .i64 n0, .pointer dp] 86 (0, 0)) := by
      rw [hb2.block b (by have := HSZ.out; omega) (by have := HROW.out.lt; omega) (by have := HBS.out; omega)]
      exact H10.out
    have HB2 : Hid (Buts g d w w2) := Lib.hid ((Buts.of HB1.out).trans hb2)
    have H10' := Lib.hid h10
    have HR2 := Lib.hid hR2
    clear h0 h10 hb2 hR2 cT1 H10
    rw [hbb]
    clear hbb
    go_wp2_with (first
      | (refine wpList_load_row rfl 86 (.tmp 7) rfl b rfl 86 #[.int .i64 a0, .string x1, .string x2, .int .i64 x3, .string x4, .int .i64 x5, .slice fa N fc, .slice none 0 0, .int .i64 n0, .pointer dp] (0, 0) _ H10'.out Tryz.underlying86 rfl (by kernel_rfl) ?_)
      | (refine stPr HR2.out rfl (.tmp 38) (.tmp 35) rfl _ _ _ _ _ _ _ _ _ _ (by simp [Value.oneCell']) rfl rfl ?_; intro w3 hR3 hB3; have HR3 := Lib.hid hR3; have HB3 := Lib.hid hB3; obtain ⟨_, _, _, _, _, _, _, _, _, _, _, _, d12⟩ := hR3.set13; have f12 := hR3.free 12; clear hR3 hB3))
    go_ret3
    have hR4 := HR3.out.put 12 (.int .i64 e)
    refine ⟨HK.out _ ((HB2.out.trans (HB3.out).same).put 12 _), Or.inl ⟨H0.out, rfl, a0, _, HDN.out, ?_, ?_, ?_, hR4⟩⟩
    · rfl
    · rfl
    · rfl
  · have h0 : e = 0 := h0
    subst h0
    have HB2 : Hid (Buts g d w w2) := Lib.hid ((Buts.of HB1.out).trans hb2)
    have HR2 := Lib.hid hR2
    have HROW2 := Lib.hid hrow2
    have HD2 := Lib.hid hd2
    clear hb2 hR2 hrow2 hd2 cT1 H10 h0
    rw [hbb]
    clear hbb
    go_wp2_with fail
    go_ret3
    refine ⟨HK.out _ HB2.out, Or.inr ⟨rfl, ⟨_, rfl, row_base HROW2.out (Nat.le_of_lt HSZ.out)⟩, Rdr.intro HBS.out.1 ?_ HBS.out.2.2.1 ?_ HR2.out⟩⟩
    · have := HBS.out; have := HB2.out.size; omega
    · have := HBS.out; have := HD2.out; have := HSZ.out; omega

end Go.Proofs.YtlbjjeonchcgbaaGreatDoor
