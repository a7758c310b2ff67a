/- Package message, the program: a message is parsed. -/
import Derived.Test.YtlbjjeonchcgbaaGreatDoorMsP10
namespace Ms
theorem goHead_asHead (m : L) (s : St.S) (b : L) : goHead m s b = goHead (asHead (decide (m = kHead))) s b := by
  unfold goHead begins
  simp only [framed_head s _ m]
theorem go_asHead (asks : Bool) (m : L) (st : S) (b : L) : go asks m st b = go asks (asHead (decide (m = kHead))) st b := by
  cases st with
  | first =>
    show goFirst asks m b = goFirst asks _ b
    unfold goFirst
    rw [goHead_asHead]
  | head s => exact goHead_asHead m s b
  | sized s fs n => rfl
  | chunk s fs c => rfl
/-- What Parse answers, of what a reader takes. -/
theorem parse_go {l : L} {asks : Bool} {m : L} {x : L} {k : Nat} {st : S} {e : Int} (h : go asks (asHead (decide (m = kHead))) .first l = (x, k, st, e)) :
    parse l asks m = if e ≠ 0 then (zero, 0, e) else if isDone st = true then (⟨(headOf st).1.start, (headOf st).1.fields, x⟩, k, 0) else (zero, 0, 11) := by
  unfold parse
  rw [told_go, go_asHead, h]
  unfold toldOf
  by_cases h0 : e = 0
  · subst h0; rfl
  · simp only [ne_eq, h0, not_false_eq_true, if_true]
theorem done_body {st : S} (h : isDone st = true) : Body st := by
  cases st with
  | first => cases h
  | head s => cases h
  | sized s fs n => trivial
  | chunk s fs c => trivial
end Ms
namespace Go.Proofs.YtlbjjeonchcgbaaGreatDoor
open Go.RowKit

theorem head_start {st : Ms.S} (h : Ms.Body st) : (Ms.headOf st).1.start = startOf st ∧ (Ms.headOf st).1.fields = fieldsOf st := by
  cases st with
  | first => cases h
  | head s => cases h
  | sized s fs n => exact ⟨rfl, rfl⟩
  | chunk s fs c => exact ⟨rfl, rfl⟩
/-- A message and two things more are handed back. -/
theorem ret_msg2 {fn : Func} {p u v : Tmp} (h : fn.results = #[.cell p 28, .tmp u, .tmp v]) {R : Ending → World → Prop} {a : Act} {w : World} (g : Nat) (c0 c1 c2 c3 c4 c5 c6 : Value)
    (hp : a.tmps.getD p undef = .pointer (some ⟨g, 0, none⟩)) (hg : w.heap[g]? = some (.cells #[c0, c1, c2, c3, c4, c5, c6] 28 (0, 0))) (hd : a.defers = [])
    (hR : R (.returned (.tuple #[.agg #[c0, c1, c2, c3, c4, c5, c6], a.tmps.getD u undef, a.tmps.getD v undef])) w) : bodyPost Tryz.prog fn R .ret a w := by
  refine bodyPost_ret (v := .tuple #[.agg #[c0, c1, c2, c3, c4, c5, c6], a.tmps.getD u undef, a.tmps.getD v undef]) ?_ hd hR
  have e := run_loadVar_row (P := Tryz.prog) w g 28 28 #[c0, c1, c2, c3, c4, c5, c6] (0, 0) _ hg Tryz.underlying28 rfl (by kernel_rfl)
  rw [results_cell_two h, hp]
  simp [Result.andThen, asAddr, e]
/-- What Parse is to answer. -/
def ParseTo (w : World) (r : Ms.M × Nat × Int) (e : Ending) (w' : World) : Prop :=
  (∃ fa fc ba bc, e = .returned (.tuple #[.agg #[.string (str r.1.start.method), .string (str r.1.start.target), .int .i64 r.1.start.status, .string (str r.1.start.reason), .int .i64 r.1.start.minor, .slice fa r.1.fields.length fc, .slice ba r.1.body.length bc], .int .i64 r.2.1, .int .i64 r.2.2]) ∧
      FIn w' (.slice fa r.1.fields.length fc) r.1.fields ∧ BIn w' (.slice ba r.1.body.length bc) r.1.body ∧ NilOk (.slice ba r.1.body.length bc) ∧ ∀ ad n c, (Value.slice fa r.1.fields.length fc) = .slice (some ad) n c → w.heap.size ≤ ad.block) ∧ Below w.heap.size w w'
theorem ParseTo.zero {w w' : World} {n : Nat} {e : Int} (hb : Below w.heap.size w w') : ParseTo w (Ms.zero, n, e) (.returned (.tuple #[.agg #[.string ⟨#[]⟩, .string ⟨#[]⟩, .int .i64 0, .string ⟨#[]⟩, .int .i64 0, .slice none 0 0, .slice none 0 0], .int .i64 n, .int .i64 e])) w' :=
  ⟨⟨none, 0, none, 0, rfl, ⟨none, 0, rfl, .inl rfl⟩, ⟨none, 0, rfl, Nat.le_refl _, by decide, .inl rfl⟩, fun c h => by injection h with _ _ h; exact h.symm, fun ad n c h => by injection h with h; cases h⟩, hb⟩

set_option maxHeartbeats 6400000 in
set_option maxRecDepth 100000 in
theorem Parse_m (v : Value) (l : List UInt8) (asks : Bool) (m : List UInt8) (w : World) (hl : l.length ≤ 500000) (h : BIn w v l) (hn : NilOk v) (hm : MaxOk w) :
    Calls Tryz.prog 10 #[v, .bool asks, .string (str m)] w fun e w' => ParseTo w (Ms.parse l asks m) e w' := by
  obtain ⟨⟨xs, k, st, e⟩, hr⟩ : ∃ x, Ms.go asks (Ms.asHead (decide (m = Ms.kHead))) .first l = x := ⟨_, rfl⟩
  have hpg := Ms.parse_go hr
  obtain ⟨R, hR0⟩ : ∃ R, Ms.parse l asks m = R := ⟨_, rfl⟩
  rw [hR0] at hpg ⊢
  have HPG := Lib.hid hpg
  clear hpg hR0
  obtain ⟨hd, hhd⟩ : ∃ hd, decide (m = Ms.kHead) = hd := ⟨_, rfl⟩
  rw [hhd] at hr
  have hb1 : Below w.heap.size w (w.alloc (.cells #[.string ⟨#[]⟩, .string ⟨#[]⟩, .int .i64 0, .string ⟨#[]⟩, .int .i64 0, .slice none 0 0, .slice none 0 0] 28)) := (Below.refl _ w).alloc (Nat.le_refl _) _
  have h1 : (w.alloc (.cells #[.string ⟨#[]⟩, .string ⟨#[]⟩, .int .i64 0, .string ⟨#[]⟩, .int .i64 0, .slice none 0 0, .slice none 0 0] 28)).heap[w.heap.size]? = some (.cells #[.string ⟨#[]⟩, .string ⟨#[]⟩, .int .i64 0, .string ⟨#[]⟩, .int .i64 0, .slice none 0 0, .slice none 0 0] 28 (0, 0)) := heap_alloc_new w _
  have cN := new_r asks m _ (hm.later hb1)
  rw [hhd] at cN
  have cT := fun (B : Nat) (W : World) (g : Nat) (hR : Rdr B asks hd W g .first) (hb : Below w.heap.size w W) => Take_w hR v l hl (h.later hb) hn (hm.later hb)
  rw [hr] at cT
  generalize str m = mm at *
  have HB1 := Lib.hid hb1
  have H1 := Lib.hid h1
  have HLT : Hid (w.heap.size < (w.alloc (.cells #[.string ⟨#[]⟩, .string ⟨#[]⟩, .int .i64 0, .string ⟨#[]⟩, .int .i64 0, .slice none 0 0, .slice none 0 0] 28)).heap.size) := Lib.hid (by simp)
  clear hl h hn hm hb1 h1 hhd hr
  go_enter Tryz.func10, Tryz.ntmps10
  go_upto_region 1 with fail
  generalize w.alloc (.cells #[.string ⟨#[]⟩, .string ⟨#[]⟩, .int .i64 0, .string ⟨#[]⟩, .int .i64 0, .slice none 0 0, .slice none 0 0] 28) = w1 at *
  obtain ⟨b, hbe⟩ : ∃ b, w.heap.size = b := ⟨_, rfl⟩
  rw [hbe] at H1 HLT ⊢
  have HBE := Lib.hid hbe
  clear hbe
  go_wp2_with fail
  refine cN.mono ?_
  rintro x w2 ⟨rfl, hb2, hR2⟩
  obtain ⟨g, hg⟩ : ∃ g, w1.heap.size = g := ⟨_, rfl⟩
  rw [hg] at hR2 ⊢
  have cT2 := cT g w2 g hR2 (bt5 HB1.out hb2)
  have H2 := Lib.hid (blk_later H1.out hb2)
  have HB2 := Lib.hid (bt5 HB1.out hb2)
  have HLG : Hid (b < g) := Lib.hid (by have := HLT.out; omega)
  have HGW : Hid (g ≤ w2.heap.size) := Lib.hid (by rw [← hg]; exact hb2.size)
  clear cN cT hb2 hR2 hg H1 HB1 HLT
  go_wp2_with fail
  refine cT2.mono ?_
  rintro x w3 ⟨hk3, ⟨h0, rfl, _⟩ | ⟨h0, ⟨u, rfl, hrow⟩, hR3⟩⟩
  · have h0 : e ≠ 0 := h0
    have HR : Hid (R = (Ms.zero, 0, e)) := Lib.hid (HPG.out.trans (if_pos h0))
    have e1 : (e != 0) = true := by simpa using h0
    have H3 : Hid (w3.heap[b]? = some (.cells #[.string ⟨#[]⟩, .string ⟨#[]⟩, .int .i64 0, .string ⟨#[]⟩, .int .i64 0, .slice none 0 0, .slice none 0 0] 28 (0, 0))) := Lib.hid ((hk3.below.block b HLG.out).trans H2.out)
    have HB3 : Hid (Below w.heap.size w w3) := Lib.hid (HB2.out.trans (hk3.below.mono (by have := HBE.out; have := HLG.out; omega)))
    clear hk3 cT2 h0 HPG H2 HB2
    go_wp2_with (refine stM7 H3.out rfl (.tmp 6) (.tmp 28) rfl _ _ _ _ _ _ _ (by simp [Value.oneCell']) rfl rfl ?_; intro w4 h4 hb4 _)
    (try simp only [Exit.inBlock, Exit.then])
    refine ret_msg2 rfl b _ _ _ _ _ _ _ rfl h4 rfl ?_
    rw [HR.out]
    exact ParseTo.zero (HB3.out.trans (hb4 _ (by have := HBE.out; omega)))
  · have h0 : e = 0 := h0
    subst h0
    have hR3 : Rdr g asks hd w3 g st := hR3
    have HPG2 := Lib.hid (HPG.out.trans (if_neg (by simp)))
    have H3 : Hid (w3.heap[b]? = some (.cells #[.string ⟨#[]⟩, .string ⟨#[]⟩, .int .i64 0, .string ⟨#[]⟩, .int .i64 0, .slice none 0 0, .slice none 0 0] 28 (0, 0))) := Lib.hid ((hk3.below.block b HLG.out).trans H2.out)
    have HB3 : Hid (Below w.heap.size w w3) := Lib.hid (HB2.out.trans (hk3.below.mono (by have := HBE.out; have := HLG.out; omega)))
    have hu := own_in hrow
    have cD := done_r hR3
    cases hdn : Ms.isDone st with
    | false =>
      rw [hdn] at cD
      have HR : Hid (R = (Ms.zero, 0, 11)) := Lib.hid (HPG2.out.trans (if_neg (by rw [hdn]; decide)))
      clear hk3 cT2 HPG HPG2 H2 HB2 hu hrow hR3 hdn h0
      go_wp2_with fail
      refine cD.mono ?_
      rintro x w4 ⟨rfl, rfl⟩
      go_wp2_with (refine stM7 H3.out rfl (.tmp 6) (.tmp 34) rfl _ _ _ _ _ _ _ (by simp [Value.oneCell']) rfl rfl ?_; intro w4 h4 hb4 _)
      (try simp only [Exit.inBlock, Exit.then])
      refine ret_msg2 rfl b _ _ _ _ _ _ _ rfl h4 rfl ?_
      rw [HR.out]
      exact ParseTo.zero (HB3.out.trans (hb4 _ (by have := HBE.out; omega)))
    | true =>
      rw [hdn] at cD
      have hbd := Ms.done_body hdn
      have HR : Hid (R = (⟨startOf st, fieldsOf st, xs⟩, k, 0)) := Lib.hid ((HPG2.out.trans (if_pos hdn)).trans (by rw [(head_start hbd).1, (head_start hbd).2]))
      have cH := head_yes hR3 hbd
      simp only [mval_s] at cH
      obtain ⟨ba, bc, hub, _⟩ : ∃ a c, u = .slice a xs.length c ∧ True := by obtain ⟨a, c, h, _⟩ := hu.1; exact ⟨a, c, h, trivial⟩
      subst hub
      have HU := Lib.hid hu
      have HX : Hid (∀ (w' : World) (fa : Option Addr) (fc : Nat), FIn w' (.slice fa (fieldsOf st).length fc) (fieldsOf st) → BIn w' (.slice ba xs.length bc) xs → NilOk (.slice ba xs.length bc) → Below w.heap.size w w' → (∀ ad n q, (Value.slice fa (fieldsOf st).length fc) = .slice (some ad) n q → w.heap.size ≤ ad.block) → ParseTo w R (.returned (.tuple #[.agg #[.string (str (startOf st).method), .string (str (startOf st).target), .int .i64 (startOf st).status, .string (str (startOf st).reason), .int .i64 (startOf st).minor, .slice fa (fieldsOf st).length fc, .slice ba xs.length bc], .int .i64 k, .int .i64 0])) w') :=
        Lib.hid (fun w' fa fc h1 h2 h3 h4 h5 => by rw [HR.out]; exact ⟨⟨fa, fc, ba, bc, rfl, h1, h2, h3, h5⟩, h4⟩)
      clear hk3 cT2 HPG HPG2 H2 HB2 hu hrow hR3 hdn hbd HR h0
      generalize fieldsOf st = fs at *
      generalize str (startOf st).method = x1 at *
      generalize str (startOf st).target = x2 at *
      generalize (startOf st).status = x3 at *
      generalize str (startOf st).reason = x4 at *
      generalize (startOf st).minor = x5 at *
      obtain ⟨N, hN⟩ : ∃ N, fs.length = N := ⟨_, rfl⟩
      obtain ⟨X, hX⟩ : ∃ X, xs.length = X := ⟨_, rfl⟩
      rw [hN] at cH HX
      rw [hX] at HX HU ⊢
      clear hN hX
      go_wp2_with fail
      refine cD.mono ?_
      rintro x w4 ⟨rfl, rfl⟩
      go_wp2_with fail
      refine cH.mono ?_
      rintro x w5 ⟨⟨fa, fc, rfl, hF5, _, hof⟩, hb5⟩
      have HNEW : Hid (∀ ad n q, (Value.slice fa N fc) = .slice (some ad) n q → w.heap.size ≤ ad.block) := Lib.hid (fun ad n q he => Nat.le_trans HB3.out.size (hof ad n q he))
      have HOFF : Hid (∀ ad n q, (Value.slice fa N fc) = .slice (some ad) n q → ad.block ≠ b ∧ ad.block ≠ b) := Lib.hid (fun ad n q he => by
        have := hof ad n q he
        have h3 := lt_of_block H3.out
        exact ⟨by omega, by omega⟩)
      have H5 := Lib.hid (blk_later H3.out hb5)
      have HB5 := Lib.hid (bt5 HB3.out hb5)
      have HF5 := Lib.hid hF5
      have HU5 : Hid (BIn w5 (.slice ba X bc) xs ∧ NilOk (.slice ba X bc)) := Lib.hid ⟨HU.out.1.later hb5, HU.out.2⟩
      clear cD cH hb5 hF5 H3 HB3 HU
      go_upto_region 8 with fail
      have h6 : (w5.alloc (.cells #[.string x1, .string x2, .int .i64 x3, .string x4, .int .i64 x5, .slice fa N fc, .slice none 0 0] 28)).heap[w5.heap.size]? = some (.cells #[.string x1, .string x2, .int .i64 x3, .string x4, .int .i64 x5, .slice fa N fc, .slice none 0 0] 28 (0, 0)) := heap_alloc_new w5 _
      have hb6 : Below w5.heap.size w5 (w5.alloc (.cells #[.string x1, .string x2, .int .i64 x3, .string x4, .int .i64 x5, .slice fa N fc, .slice none 0 0] 28)) := (Below.refl _ w5).alloc (Nat.le_refl _) _
      have hlt6 : b < w5.heap.size := lt_of_block H5.out
      generalize w5.alloc (.cells #[.string x1, .string x2, .int .i64 x3, .string x4, .int .i64 x5, .slice fa N fc, .slice none 0 0] 28) = w6 at *
      obtain ⟨c, hc⟩ : ∃ c, w5.heap.size = c := ⟨_, rfl⟩
      rw [hc] at h6 hlt6 ⊢
      obtain ⟨_, _, _, _, _, _, c6⟩ := set7 h6
      have f6 := frM7 h6 6
      have H7 : Hid ((w6.setCell ⟨c, 6, none⟩ (.slice ba X bc)).heap[c]? = some (.cells #[.string x1, .string x2, .int .i64 x3, .string x4, .int .i64 x5, .slice fa N fc, .slice ba X bc] 28 (0, 0))) := Lib.hid (putM7 h6 6 _)
      have HB7 : Hid (Below w.heap.size w (w6.setCell ⟨c, 6, none⟩ (.slice ba X bc))) := Lib.hid ((bt5 HB5.out hb6).setCell (by show w.heap.size ≤ c; have := HBE.out; omega) _)
      have HB57 : Hid (Below w5.heap.size w5 (w6.setCell ⟨c, 6, none⟩ (.slice ba X bc))) := Lib.hid (hb6.setCell (by show w5.heap.size ≤ c; omega) _)
      have H57 : Hid ((w6.setCell ⟨c, 6, none⟩ (.slice ba X bc)).heap[b]? = some (.cells #[.string ⟨#[]⟩, .string ⟨#[]⟩, .int .i64 0, .string ⟨#[]⟩, .int .i64 0, .slice none 0 0, .slice none 0 0] 28 (0, 0))) := Lib.hid (blk_later H5.out HB57.out)
      have HLC : Hid (b < c) := Lib.hid hlt6
      clear h6 hb6 hlt6 hc
      go_upto_region 9 with fail
      clear c6 f6
      generalize w6.setCell ⟨c, 6, none⟩ (.slice ba X bc) = w7 at *
      go_wp2_with (first
        | (refine ldM H7.out rfl (.tmp 13) rfl rfl ?_)
        | (refine stM7 H57.out rfl (.tmp 6) (.tmp 42) rfl _ _ _ _ _ _ _ (by simp [Value.oneCell']) rfl rfl ?_; intro w8 h8 hb8 hk8))
      (try simp only [Exit.inBlock, Exit.then])
      refine ret_msg2 rfl b _ _ _ _ _ _ _ rfl h8 rfl ?_
      have hz := hb8 0 (Nat.zero_le _)
      have hx : Buts b b w5 w8 := (Buts.of HB57.out).trans ⟨hz.os, hz.tape, hz.output, hz.size, fun k _ h1 _ => hk8 k h1⟩
      have hno : ∀ j x, w5.cell? ⟨b, j, none⟩ ≠ some (.int .u8 x) := by
        intro j x
        rw [cell_of_row _ _ _ _ _ _ H5.out]
        rcases j with _ | _ | _ | _ | _ | _ | _ | j <;> simp
      refine HX.out _ _ _ (HF5.out.buts hx ?_) (HU5.out.1.buts hx hno hno) HU5.out.2 (HB7.out.trans (hb8 _ (by have := HBE.out; omega))) HNEW.out
      intro ad n q he
      exact HOFF.out ad n q he
end Go.Proofs.YtlbjjeonchcgbaaGreatDoor
