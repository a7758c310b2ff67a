/- Package rules, the document's side: what a message has, a field's moment. -/
import Derived.Test.YtoanelobggledaaGreatDoorVR1
import Derived.IntWalk
namespace Go.Proofs.YtoanelobggledaaGreatDoor
open Go.RowKit

set_option maxHeartbeats 800000 in
set_option maxRecDepth 100000 in
theorem rHas_w (a b c : ByteArray) (st mi : Int) (fv bv : Value) (fs : List Fld.F) (nm : List UInt8) (w : World) (hf : FIn w fv fs) (hs : Mid fs) (hn : nm.length ≤ 1000) :
    Calls Tryz.prog 25 #[mv a b st c mi fv bv, .string (str nm)] w fun e w' => e = .returned (.bool (Rl.has fs nm)) ∧ Below w.heap.size w w' := by
  obtain ⟨fa, fc, hfv, hx9⟩ := id hf
  clear hx9
  subst hfv
  have cG := fun W' (hb : Below w.heap.size w W') => rGet_w (.slice fa fs.length fc) fs nm W' (hf.later hb) hs.small (by omega)
  have HR : Hid (Rl.has fs nm = !(Fld.get fs nm).isEmpty) := Lib.hid rfl
  rw [HR.out]
  generalize Fld.get fs nm = gs at *
  generalize str nm = sn at *
  clear hf hs hn HR
  generalize fs.length = fl at *
  obtain ⟨W, hW⟩ : ∃ W, W = w.alloc (.cells #[.string a, .string b, .int .i64 st, .string c, .int .i64 mi, .slice fa fl fc, bv] 27) := ⟨_, rfl⟩
  have hbw : Below w.heap.size w W := by rw [hW]; exact (Below.refl _ w).alloc (Nat.le_refl _) _
  have c5 : W.cell? ⟨w.heap.size, 5, none⟩ = some (.slice fa fl fc) := by rw [hW]; exact (set7' (heap_alloc_new w (.cells #[.string a, .string b, .int .i64 st, .string c, .int .i64 mi, .slice fa fl fc, bv] 27))).2.2.2.2.2.1
  unfold mv mcell
  go_enter Tryz.func25, Tryz.ntmps25
  go_upto_region 1 with fail
  rw [← hW]
  clear hW
  go_wp2_with fail
  refine (cG W hbw).mono ?_
  rintro e w1 ⟨v, rfl, hB⟩
  obtain ⟨ao, cp, rfl, hx⟩ := hB.sin
  have hb1 := hbw.trans (hB.2.mono hbw.size)
  clear hx hB cG c5
  cases gs with
  | nil =>
    simp only [List.length_nil]
    go_wp2_with fail
    go_ret
    exact ⟨rfl, hb1⟩
  | cons q qs =>
    obtain ⟨N, hN⟩ : ∃ N, N = (q :: qs).length := ⟨_, rfl⟩
    have h0 : (0 : Int) < (N : Int) := by rw [hN]; simp
    rw [← hN]
    clear hN
    go_wp2_with fail
    go_ret
    refine ⟨?_, hb1⟩
    show Ending.returned (.bool (decide (0 < N))) = Ending.returned (.bool true)
    rw [decide_eq_true (by omega)]
def onv : Option (List UInt8) → Value
  | some v => .tuple #[.string (str v), .bool true]
  | none => .tuple #[.string ⟨#[]⟩, .bool false]
set_option maxHeartbeats 800000 in
set_option maxRecDepth 100000 in
theorem rOne_w (a b c : ByteArray) (st mi : Int) (fv bv : Value) (fs : List Fld.F) (nm : List UInt8) (w : World) (hf : FIn w fv fs) (hs : Mid fs) (hn : nm.length ≤ 1000) :
    Calls Tryz.prog 36 #[mv a b st c mi fv bv, .string (str nm)] w fun e w' => e = .returned (onv (Rl.one fs nm)) ∧ Below w.heap.size w w' := by
  obtain ⟨fa, fc, hfv, hx9⟩ := id hf
  clear hx9
  subst hfv
  have cG := fun W' (hb : Below w.heap.size w W') => rGet_w (.slice fa fs.length fc) fs nm W' (hf.later hb) hs.small (by omega)
  have HR : Hid (∀ v, Fld.get fs nm = [v] → Rl.one fs nm = some v) := Lib.hid fun v h => by unfold Rl.one; rw [h]
  have HN : Hid ((Fld.get fs nm).length ≠ 1 → Rl.one fs nm = none) := Lib.hid fun h => by
    unfold Rl.one
    split
    · rename_i v hv; rw [hv] at h; exact absurd rfl h
    · rfl
  have hl := (hs.got nm).1
  generalize Rl.one fs nm = R at *
  generalize Fld.get fs nm = gs at *
  generalize str nm = sn at *
  clear hf hs hn
  generalize fs.length = fl at *
  obtain ⟨W, hW⟩ : ∃ W, W = w.alloc (.cells #[.string a, .string b, .int .i64 st, .string c, .int .i64 mi, .slice fa fl fc, bv] 27) := ⟨_, rfl⟩
  have hbw : Below w.heap.size w W := by rw [hW]; exact (Below.refl _ w).alloc (Nat.le_refl _) _
  have c5 : W.cell? ⟨w.heap.size, 5, none⟩ = some (.slice fa fl fc) := by rw [hW]; exact (set7' (heap_alloc_new w (.cells #[.string a, .string b, .int .i64 st, .string c, .int .i64 mi, .slice fa fl fc, bv] 27))).2.2.2.2.2.1
  unfold mv mcell
  by_cases h1 : gs.length = 1
  · obtain ⟨v, rfl⟩ := List.length_eq_one_iff.1 h1
    rw [HR.out v rfl, show onv (some v) = .tuple #[.string (str v), .bool true] from rfl]
    clear HR HN hl h1
    go_enter Tryz.func36, Tryz.ntmps36
    go_upto_region 1 with fail
    rw [← hW]
    clear hW
    go_wp2_with fail
    refine (cG W hbw).mono ?_
    rintro e w1 ⟨x, rfl, hB⟩
    obtain ⟨g, cap, rfl, hc⟩ := hB.one
    have hb1 := hbw.trans (hB.2.mono hbw.size)
    obtain ⟨sv, hsv⟩ : ∃ sv, sv = str v := ⟨_, rfl⟩
    rw [← hsv] at hc
    have HSV := Lib.hid hsv
    clear hB cG c5 hsv
    go_wp2_with fail
    go_ret2
    refine ⟨?_, hb1⟩
    show Ending.returned (.tuple #[.string sv, .bool true]) = _
    rw [HSV.out]
  · rw [HN.out h1, show onv none = .tuple #[.string ⟨#[]⟩, .bool false] from rfl]
    clear HR HN
    go_enter Tryz.func36, Tryz.ntmps36
    go_upto_region 1 with fail
    rw [← hW]
    clear hW
    go_wp2_with fail
    refine (cG W hbw).mono ?_
    rintro e w1 ⟨x, rfl, hB⟩
    obtain ⟨ao, cp, rfl, hx⟩ := hB.sin
    have hb1 := hbw.trans (hB.2.mono hbw.size)
    have h2 : ((gs.length : Int) == 1) = false := beq_eq_false_iff_ne.2 (by omega)
    clear hB cG c5 hx h1
    go_wp2_with fail
    go_ret2
    exact ⟨rfl, hb1⟩
end Go.Proofs.YtoanelobggledaaGreatDoor

namespace Go.Proofs.YtoanelobggledaaGreatDoor
open Go.RowKit

theorem onv_none : onv none = .tuple #[.string ⟨#[]⟩, .bool false] := rfl
theorem onv_some (v : List UInt8) : onv (some v) = .tuple #[.string (str v), .bool true] := rfl
end Go.Proofs.YtoanelobggledaaGreatDoor

