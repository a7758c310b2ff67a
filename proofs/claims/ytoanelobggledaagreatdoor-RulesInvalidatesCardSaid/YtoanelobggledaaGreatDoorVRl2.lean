/- Package rules, the document's side: what a message has, a field's moment. -/
import Derived.Test.YtoanelobggledaaGreatDoorVDtRef
import Derived.Test.YtoanelobggledaaGreatDoorVRlH
namespace Go.Proofs.YtoanelobggledaaGreatDoor
open Go.RowKit

def mov : Option Int → Value
  | some a => .tuple #[.int .i64 a, .bool true]
  | none => .tuple #[.int .i64 0, .bool false]
theorem rAsk2_w (v : List UInt8) (hv : v.length ≤ 500) (w : World) : Calls Tryz.prog 88 #[.string (str v)] w fun e w' => e = .returned (.tuple #[.int .i64 ((D0 v).getD 0), .int .i64 (if (D0 v).isSome then 0 else 10)]) ∧ Below w.heap.size w w' := by
  have h := rParse_c (str v) w (by rw [str_size]; exact hv)
  rw [str_list] at h
  by_cases hs : ∃ b, Dt.Says v b
  · obtain ⟨b, hb⟩ := hs
    rw [Dt.asked_yes hb] at h
    rw [D0_yes hb]; exact h
  · rw [Dt.asked_no fun b hb => hs ⟨b, hb⟩] at h
    rw [D0_no fun b hb => hs ⟨b, hb⟩]; exact h
set_option maxHeartbeats 800000 in
set_option maxRecDepth 100000 in
theorem rMoment_w (a b c : ByteArray) (st mi : Int) (fv bv : Value) (fs : List Fld.F) (nm : List UInt8) (w : World) (hf : FIn w fv fs) (hs : Mid fs) (hn : nm.length ≤ 1000) :
    Calls Tryz.prog 57 #[mv a b st c mi fv bv, .string (str nm)] w fun e w' => e = .returned (mov (Fr.moment D0 fs nm)) ∧ Below w.heap.size w w' := by
  obtain ⟨fa, fc, hfv, hx9⟩ := id hf
  clear hx9
  subst hfv
  have cG := fun W' (hb : Below w.heap.size w W') => rGet_w (.slice fa fs.length fc) fs nm W' (hf.later hb) hs.small (by omega)
  have HR : Hid (∀ v, Fld.get fs nm = [v] → Fr.moment D0 fs nm = D0 v) := Lib.hid fun v h => by unfold Fr.moment; rw [h]
  have HN : Hid ((Fld.get fs nm).length ≠ 1 → Fr.moment D0 fs nm = none) := Lib.hid fun h => by
    unfold Fr.moment
    split
    · rename_i v hv; rw [hv] at h; exact absurd rfl h
    · rfl
  have hl := (hs.got nm).1
  have hz := (hs.got nm).2
  generalize Fr.moment D0 fs nm = R at *
  generalize Fld.get fs nm = gs at *
  generalize str nm = sn at *
  clear hf hs hn
  generalize fs.length = fl at *
  obtain ⟨W, hW⟩ : ∃ W, W = w.alloc (.cells #[.string a, .string b, .int .i64 st, .string c, .int .i64 mi, .slice fa fl fc, bv] 27) := ⟨_, rfl⟩
  have hbw : Below w.heap.size w W := by rw [hW]; exact (Below.refl _ w).alloc (Nat.le_refl _) _
  have c5 : W.cell? ⟨w.heap.size, 5, none⟩ = some (.slice fa fl fc) := by rw [hW]; exact (set7' (heap_alloc_new w (.cells #[.string a, .string b, .int .i64 st, .string c, .int .i64 mi, .slice fa fl fc, bv] 27))).2.2.2.2.2.1
  unfold mv mcell
  by_cases h1 : gs.length = 1
  · obtain ⟨v, rfl⟩ := List.length_eq_one_iff.1 h1
    have cP := rAsk2_w v (hz v (by simp))
    have hR := HR.out v rfl
    clear HR HN hl h1 hz
    cases hD : D0 v with
    | none =>
      rw [hR, hD, show mov none = .tuple #[.int .i64 0, .bool false] from rfl]
      rw [hD] at cP
      simp only [Option.getD_none, Option.isSome_none, Bool.false_eq_true, if_false] at cP
      clear hR hD
      go_enter Tryz.func57, Tryz.ntmps57
      go_upto_region 1 with fail
      rw [← hW]
      clear hW
      go_wp2_with fail
      refine (cG W hbw).mono ?_
      rintro e w1 ⟨x, rfl, hB⟩
      obtain ⟨g, cap, rfl, hc⟩ := hB.one
      have hb1 := hbw.trans (hB.2.mono hbw.size)
      generalize str v = sv at *
      clear hB cG c5
      go_wp2_with fail
      refine (cP w1).mono ?_
      rintro e w2 ⟨rfl, hb2⟩
      go_wp2_with fail
      go_ret2
      exact ⟨rfl, hb1.trans (hb2.mono hb1.size)⟩
    | some t =>
      rw [hR, hD, show mov (some t) = .tuple #[.int .i64 t, .bool true] from rfl]
      rw [hD] at cP
      simp only [Option.getD_some, Option.isSome_some, if_true] at cP
      clear hR hD
      go_enter Tryz.func57, Tryz.ntmps57
      go_upto_region 1 with fail
      rw [← hW]
      clear hW
      go_wp2_with fail
      refine (cG W hbw).mono ?_
      rintro e w1 ⟨x, rfl, hB⟩
      obtain ⟨g, cap, rfl, hc⟩ := hB.one
      have hb1 := hbw.trans (hB.2.mono hbw.size)
      generalize str v = sv at *
      clear hB cG c5
      go_wp2_with fail
      refine (cP w1).mono ?_
      rintro e w2 ⟨rfl, hb2⟩
      go_wp2_with fail
      go_ret2
      exact ⟨rfl, hb1.trans (hb2.mono hb1.size)⟩
  · rw [HN.out h1, show mov none = .tuple #[.int .i64 0, .bool false] from rfl]
    clear HR HN
    go_enter Tryz.func57, Tryz.ntmps57
    go_upto_region 1 with fail
    rw [← hW]
    clear hW
    go_wp2_with fail
    refine (cG W hbw).mono ?_
    rintro e w1 ⟨x, rfl, hB⟩
    obtain ⟨ao, cp, rfl, hx⟩ := hB.sin
    have hb1 := hbw.trans (hB.2.mono hbw.size)
    have h2 : ((gs.length : Int) != 1) = true := by rw [bne, beq_eq_false_iff_ne.2 (by omega)]; rfl
    clear hB cG c5 hx h1 hz
    go_wp2_with fail
    go_ret2
    exact ⟨rfl, hb1⟩
end Go.Proofs.YtoanelobggledaaGreatDoor

