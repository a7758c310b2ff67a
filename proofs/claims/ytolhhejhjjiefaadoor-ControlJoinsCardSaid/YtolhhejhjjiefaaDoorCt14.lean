/- The statements of layer 4: ControlJoins. -/
import Derived.Test.YtolhhejhjjiefaaDoorCt6
import Derived.Test.YtolhhejhjjiefaaDoorCt9
import Derived.Test.YtolhhejhjjiefaaDoorCtMathC
import Derived.Deep.DeepCutAuto
import Derived.Deep.RegionHeld3
import Derived.Test.YtolhhejhjjiefaaDoorHeld
namespace Go.Proofs.YtolhhejhjjiefaaDoor
open Go.RowKit

theorem load_bool {w : World} {g k : Nat} {b : Bool} (h : w.cell? ⟨g, k, none⟩ = some (.bool b)) : (Instr.loadAt 4 (.pointer (some ⟨g, k, none⟩))).run Tryd.prog w = .ok (.bool b) w := by go_simp
theorem load_int {w : World} {g k : Nat} {n : Int} (h : w.cell? ⟨g, k, none⟩ = some (.int .i64 n)) : (Instr.loadAt 3 (.pointer (some ⟨g, k, none⟩))).run Tryd.prog w = .ok (.int .i64 n) w := by go_simp

theorem CAt.beside {w : World} {g b : Nat} {c : Ctl.C} (h : CAt w g c) (hne : g ≠ b) (k : Nat) (v : Value) : CAt (w.setCell ⟨b, k, none⟩ v) g c := by
  unfold CAt at *
  rw [Below.heap_setCell _ _ _ _ (by simpa using hne)]; exact h
theorem CAt.row_else {w : World} {g b : Nat} {c : Ctl.C} (h : CAt w g c) (hne : g ≠ b) (cs : Array Value) : CAt (w.setRow b cs) g c := by
  unfold CAt at *
  have hne' : b ≠ g := fun e => hne e.symm
  simp [World.setRow, Array.getElem?_modify, hne', h]

/-- The law's own function: the first number that is told. -/
theorem pick_w (p q : Int) (w : World) :
    Calls Tryd.prog 14 #[.int .i64 p, .int .i64 q] w fun e w' => e = .returned (.int .i64 (Ctl.pick p q)) ∧ w = w' := by
  by_cases h : 0 ≤ p
  · rw [show Ctl.pick p q = p by unfold Ctl.pick; rw [if_pos h]]
    go_enter Tryd.func14, Tryd.ntmps14
    go_wp2_with fail
    go_ret
    exact ⟨rfl, rfl⟩
  · rw [show Ctl.pick p q = q by unfold Ctl.pick; rw [if_neg h]]
    go_enter Tryd.func14, Tryd.ntmps14
    go_wp2_with fail
    go_ret
    exact ⟨rfl, rfl⟩

/-- 'control.Parse(s, t)'. -/
theorem parse2 (W : World) (s t : ByteArray) (l m : List UInt8) (h : s = str l) (h' : t = str m) (hl : l.length ≤ 1000000) (hm' : m.length ≤ 1000000) (hm : MaxOk W) :
    Calls Tryd.prog 9 #[.slice (some ⟨W.heap.size, 0, none⟩) 2 2] (W.alloc (.cells #[.string s, .string t] 9)) fun e w' => e = .returned (cval (Ctl.parse [l, m])) ∧ Below W.heap.size W w' := by
  have hb : Below W.heap.size W (W.alloc (.cells #[.string s, .string t] 9)) := (Below.refl _ W).alloc (Nat.le_refl _) _
  refine (Parse_w _ [l, m] _ (SIn.two W s t l m h h') (by simp) (fun x hx => by simp only [List.mem_cons, List.not_mem_nil, or_false] at hx; rcases hx with rfl | rfl <;> assumption) (hm.later hb)).mono ?_
  rintro e w' ⟨he, hb'⟩
  exact ⟨he, hb.trans (hb'.mono hb.size)⟩
theorem fits_ok {c : Ctl.C} (h : Ctl.Ok c) : Fits c := by
  obtain ⟨h1, h2, h3, h4⟩ := h
  unfold Ctl.okN at *
  exact ⟨by omega, by omega, by omega, by omega⟩

set_option maxHeartbeats 6400000 in
set_option maxRecDepth 100000 in
theorem cjoins_w (a b : ByteArray) (w : World) (ha : a.size ≤ 9223372036854775807) (hb : b.size ≤ 9223372036854775807) (hm : MaxOk w) (hT : Tabs w) :
    Calls Tryd.prog 5 #[.string a, .string b] w fun e w' => e = .returned (.bool true) ∧ Below w.heap.size w w' := by
  have cA := fun (w1 : World) (hb : Below w.heap.size w w1) => cawake_w w1 (hm.later hb)
  have HM := Lib.hid hm
  have HT := Lib.hid hT
  have hwb : Below w.heap.size w w := Below.refl _ _
  clear hm hT
  by_cases h1 : (1000 : Int) < a.size
  · go_enter Tryd.func5, Tryd.ntmps5
    go_wp2_with fail
    refine (cA w hwb).mono ?_
    rintro e w1 ⟨rfl, hb1⟩
    go_wp2_with fail
    refine (cA w1 hb1).mono ?_
    rintro e w2 ⟨rfl, hb2⟩
    go_wp2_with fail
    go_ret
    exact ⟨rfl, bt hb1 hb2⟩
  have h1' : (a.size : Int) ≤ 1000 := by omega
  by_cases h2 : (1000 : Int) < b.size
  · go_enter Tryd.func5, Tryd.ntmps5
    go_wp2_with fail
    refine (cA w hwb).mono ?_
    rintro e w1 ⟨rfl, hb1⟩
    go_wp2_with fail
    refine (cA w1 hb1).mono ?_
    rintro e w2 ⟨rfl, hb2⟩
    go_wp2_with fail
    go_ret
    exact ⟨rfl, bt hb1 hb2⟩
  have h2' : (b.size : Int) ≤ 1000 := by omega
  have la : a.data.toList.length ≤ 1000000 := by rw [Oct.length_size]; omega
  have lb : b.data.toList.length ≤ 1000000 := by rw [Oct.length_size]; omega
  have cX := fun (W : World) (hb : Below w.heap.size w W) => parse1 W a a.data.toList (str_of a).symm la (HM.out.later hb)
  have cY := fun (W : World) (hb : Below w.heap.size w W) => parse1 W b b.data.toList (str_of b).symm lb (HM.out.later hb)
  have cZ := fun (W : World) (hb : Below w.heap.size w W) => parse2 W a b a.data.toList b.data.toList (str_of a).symm (str_of b).symm la lb (HM.out.later hb)
  rw [Ctl.parse_two] at cZ
  have hok : Ctl.Ok (Ctl.parse [a.data.toList]) := Ctl.ok_parse _
  generalize Ctl.parse [a.data.toList] = x at *
  generalize Ctl.parse [b.data.toList] = y at *
  have hfx := fits_ok hok
  have hlen := Ctl.print_len x hfx.1 hfx.2.1 hfx.2.2.1 hfx.2.2.2
  have cP := fun (W : World) (hb : Below w.heap.size w W) => Print_w x W hfx (HT.out.later hb)
  have eG : Ctl.parse [Ctl.upper (Ctl.print x)] = x := by rw [Ctl.parse_upper, Ctl.clamp_ok hok]
  have eR : Ctl.parse [[32, 44, 32] ++ Ctl.print x ++ [44, 32, 44, 122, 122, 57]] = x := by rw [Ctl.parse_around, Ctl.clamp_ok hok]
  have cG := fun (W : World) (hb : Below w.heap.size w W) => parse1 W (str (Ctl.upper (Ctl.print x))) _ rfl (by rw [Ctl.upper_length]; omega) (HM.out.later hb)
  rw [eG] at cG
  have s3 : (⟨#[32, 44, 32]⟩ : ByteArray) ++ str (Ctl.print x) ++ ⟨#[44, 32, 44, 122, 122, 57]⟩ = str ([32, 44, 32] ++ Ctl.print x ++ [44, 32, 44, 122, 122, 57]) := str_same (by rw [app_list, app_list, str_list])
  have cR := fun (W : World) (hb : Below w.heap.size w W) => parse1 W _ _ s3 (by simp; omega) (HM.out.later hb)
  rw [eR] at cR
  have hpl : (str (Ctl.print x)).size ≤ 3000 := by rw [str_size]; exact hlen
  have HPL : Hid ((str (Ctl.print x)).data.toList = Ctl.print x) := Lib.hid (str_list _)
  obtain ⟨pl, hpld⟩ : ∃ pl, pl = Ctl.print x := ⟨_, rfl⟩
  rw [← hpld] at cP cG cR HPL hpl
  clear eG eR s3 hlen hfx hok hpld la lb
  generalize str pl = ps at *
  obtain ⟨a0, a1, a2, a3, a4, a5, a6, a7, a8, a9, a10⟩ := x
  obtain ⟨b0, b1, b2, b3, b4, b5, b6, b7, b8, b9, b10⟩ := y
  unfold Ctl.merge at cZ
  unfold cval ccells at cX cY cZ cP cG cR
  simp only [] at cX cY cZ cP cG cR
  go_enter Tryd.func5, Tryd.ntmps5
  go_wp2_with fail
  refine (cA w hwb).mono ?_
  rintro e w1 ⟨rfl, hb1⟩
  clear cA
  go_wp2_with fail
  refine (cX w1 hb1).mono ?_
  rintro e w2 ⟨rfl, hb2⟩
  have hb2 := bt hb1 hb2
  go_wp2_with fail
  refine (cY w2 hb2).mono ?_
  rintro e w3 ⟨rfl, hb3⟩
  have hb3 := bt hb2 hb3
  clear cX cY
  go_upto_region 4 with fail
  have hX : CAt ((w3.alloc (.cells #[.bool a0, .bool a1, .bool a2, .bool a3, .bool a4, .bool a5, .bool a6, .int .i64 a7, .int .i64 a8, .int .i64 a9, .int .i64 a10] 25)).alloc (.cells #[.bool b0, .bool b1, .bool b2, .bool b3, .bool b4, .bool b5, .bool b6, .int .i64 b7, .int .i64 b8, .int .i64 b9, .int .i64 b10] 25)) w3.heap.size ⟨a0, a1, a2, a3, a4, a5, a6, a7, a8, a9, a10⟩ := heap_alloc2_old w3 _ _
  have hY : CAt ((w3.alloc (.cells #[.bool a0, .bool a1, .bool a2, .bool a3, .bool a4, .bool a5, .bool a6, .int .i64 a7, .int .i64 a8, .int .i64 a9, .int .i64 a10] 25)).alloc (.cells #[.bool b0, .bool b1, .bool b2, .bool b3, .bool b4, .bool b5, .bool b6, .int .i64 b7, .int .i64 b8, .int .i64 b9, .int .i64 b10] 25)) (w3.heap.size + 1) ⟨b0, b1, b2, b3, b4, b5, b6, b7, b8, b9, b10⟩ := heap_alloc2_new w3 _ _
  have hb4 := (hb3.alloc hb3.size (.cells #[.bool a0, .bool a1, .bool a2, .bool a3, .bool a4, .bool a5, .bool a6, .int .i64 a7, .int .i64 a8, .int .i64 a9, .int .i64 a10] 25)).alloc (hb3.alloc hb3.size (.cells #[.bool a0, .bool a1, .bool a2, .bool a3, .bool a4, .bool a5, .bool a6, .int .i64 a7, .int .i64 a8, .int .i64 a9, .int .i64 a10] 25)).size (.cells #[.bool b0, .bool b1, .bool b2, .bool b3, .bool b4, .bool b5, .bool b6, .int .i64 b7, .int .i64 b8, .int .i64 b9, .int .i64 b10] 25)
  generalize (w3.alloc (.cells #[.bool a0, .bool a1, .bool a2, .bool a3, .bool a4, .bool a5, .bool a6, .int .i64 a7, .int .i64 a8, .int .i64 a9, .int .i64 a10] 25)).alloc (.cells #[.bool b0, .bool b1, .bool b2, .bool b3, .bool b4, .bool b5, .bool b6, .int .i64 b7, .int .i64 b8, .int .i64 b9, .int .i64 b10] 25) = w4 at *
  generalize hgy : w3.heap.size + 1 = gy at *
  generalize hgx : w3.heap.size = gx at *
  clear hgy hgx hb3
  go_wp2_with fail
  refine (cZ w4 hb4).mono ?_
  rintro e w5 ⟨rfl, hb5⟩
  have hX := hX.later hb5
  have hY := hY.later hb5
  have hb5 := bt hb4 hb5
  clear cZ hb4
  go_upto_region 5 with fail
  have hZ : CAt (w5.alloc (.cells #[.bool (a0 || b0), .bool (a1 || b1), .bool (a2 || b2), .bool (a3 || b3), .bool (a4 || b4), .bool (a5 || b5), .bool (a6 || b6), .int .i64 (Ctl.pick a7 b7), .int .i64 (Ctl.pick a8 b8), .int .i64 (Ctl.pick a9 b9), .int .i64 (Ctl.pick a10 b10)] 25)) w5.heap.size ⟨a0 || b0, a1 || b1, a2 || b2, a3 || b3, a4 || b4, a5 || b5, a6 || b6, Ctl.pick a7 b7, Ctl.pick a8 b8, Ctl.pick a9 b9, Ctl.pick a10 b10⟩ := heap_alloc_new w5 _
  have hX := hX.later ((Below.refl _ w5).alloc (Nat.le_refl _) (.cells #[.bool (a0 || b0), .bool (a1 || b1), .bool (a2 || b2), .bool (a3 || b3), .bool (a4 || b4), .bool (a5 || b5), .bool (a6 || b6), .int .i64 (Ctl.pick a7 b7), .int .i64 (Ctl.pick a8 b8), .int .i64 (Ctl.pick a9 b9), .int .i64 (Ctl.pick a10 b10)] 25))
  have hY := hY.later ((Below.refl _ w5).alloc (Nat.le_refl _) (.cells #[.bool (a0 || b0), .bool (a1 || b1), .bool (a2 || b2), .bool (a3 || b3), .bool (a4 || b4), .bool (a5 || b5), .bool (a6 || b6), .int .i64 (Ctl.pick a7 b7), .int .i64 (Ctl.pick a8 b8), .int .i64 (Ctl.pick a9 b9), .int .i64 (Ctl.pick a10 b10)] 25))
  have hb6 := hb5.alloc hb5.size (.cells #[.bool (a0 || b0), .bool (a1 || b1), .bool (a2 || b2), .bool (a3 || b3), .bool (a4 || b4), .bool (a5 || b5), .bool (a6 || b6), .int .i64 (Ctl.pick a7 b7), .int .i64 (Ctl.pick a8 b8), .int .i64 (Ctl.pick a9 b9), .int .i64 (Ctl.pick a10 b10)] 25)
  generalize w5.alloc (.cells #[.bool (a0 || b0), .bool (a1 || b1), .bool (a2 || b2), .bool (a3 || b3), .bool (a4 || b4), .bool (a5 || b5), .bool (a6 || b6), .int .i64 (Ctl.pick a7 b7), .int .i64 (Ctl.pick a8 b8), .int .i64 (Ctl.pick a9 b9), .int .i64 (Ctl.pick a10 b10)] 25) = w6 at *
  generalize hgz : w5.heap.size = gz at *
  clear hgz hb5
  have HX := Lib.hid hX
  have HY := Lib.hid hY
  have HZ := Lib.hid hZ
  have HB := Lib.hid hb6
  clear hX hY hZ hb6
  have K7 := pick_w a7 b7
  have K8 := pick_w a8 b8
  have K9 := pick_w a9 b9
  have K10 := pick_w a10 b10
  go_upto_region 6 with fail
  go_cut [9] (fun v wx => ∃ g, v = .pointer (some ⟨g, 0, none⟩) ∧ CAt wx g ⟨a0 || b0, a1 || b1, a2 || b2, a3 || b3, a4 || b4, a5 || b5, a6 || b6, Ctl.pick a7 b7, Ctl.pick a8 b8, Ctl.pick a9 b9, Ctl.pick a10 b10⟩ ∧ CAt wx gx ⟨a0, a1, a2, a3, a4, a5, a6, a7, a8, a9, a10⟩ ∧ CAt wx gz ⟨a0 || b0, a1 || b1, a2 || b2, a3 || b3, a4 || b4, a5 || b5, a6 || b6, Ctl.pick a7 b7, Ctl.pick a8 b8, Ctl.pick a9 b9, Ctl.pick a10 b10⟩ ∧ Below w.heap.size w wx)
  case first =>
    clear cG cR cP
    have hS : (fun w' => CAt w' gx ⟨a0, a1, a2, a3, a4, a5, a6, a7, a8, a9, a10⟩ ∧ CAt w' gy ⟨b0, b1, b2, b3, b4, b5, b6, b7, b8, b9, b10⟩) w6.drew := ⟨HX.out, HY.out⟩
    have hSA : (fun w' => CAt w' gx ⟨a0, a1, a2, a3, a4, a5, a6, a7, a8, a9, a10⟩ ∧ CAt w' gy ⟨b0, b1, b2, b3, b4, b5, b6, b7, b8, b9, b10⟩) (w6.drew.alloc (.cells #[.bool false, .bool false, .bool false, .bool false, .bool false, .bool false, .bool false, .int .i64 0, .int .i64 0, .int .i64 0, .int .i64 0] 25)) := ⟨HX.out.later ((Below.refl _ w6).drew.alloc (Nat.le_refl _) _), HY.out.later ((Below.refl _ w6).drew.alloc (Nat.le_refl _) _)⟩
    have hnew : (w6.drew.alloc (.cells #[.bool false, .bool false, .bool false, .bool false, .bool false, .bool false, .bool false, .int .i64 0, .int .i64 0, .int .i64 0, .int .i64 0] 25)).heap[w6.heap.size]? = some (.cells #[.bool false, .bool false, .bool false, .bool false, .bool false, .bool false, .bool false, .int .i64 0, .int .i64 0, .int .i64 0, .int .i64 0] 25 (0, 0)) := heap_alloc_new w6.drew _
    have hltx := HX.out.lt
    have hlty := HY.out.lt
    have hltz := HZ.out.lt
    have hBa : Below w.heap.size w (w6.drew.alloc (.cells #[.bool false, .bool false, .bool false, .bool false, .bool false, .bool false, .bool false, .int .i64 0, .int .i64 0, .int .i64 0, .int .i64 0] 25)) := HB.out.drew.alloc HB.out.size _
    have hSB : (fun w' => CAt w' gx ⟨a0, a1, a2, a3, a4, a5, a6, a7, a8, a9, a10⟩ ∧ CAt w' gy ⟨b0, b1, b2, b3, b4, b5, b6, b7, b8, b9, b10⟩) ((w6.drew.alloc (.cells #[.bool false, .bool false, .bool false, .bool false, .bool false, .bool false, .bool false, .int .i64 0, .int .i64 0, .int .i64 0, .int .i64 0] 25)).setRow w6.heap.size (ccells ⟨a0 || b0, a1 || b1, a2 || b2, a3 || b3, a4 || b4, a5 || b5, a6 || b6, Ctl.pick a7 b7, Ctl.pick a8 b8, Ctl.pick a9 b9, Ctl.pick a10 b10⟩)) := ⟨CAt.row_else hSA.1 (by omega) _, CAt.row_else hSA.2 (by omega) _⟩
    have hEnd : CAt ((w6.drew.alloc (.cells #[.bool false, .bool false, .bool false, .bool false, .bool false, .bool false, .bool false, .int .i64 0, .int .i64 0, .int .i64 0, .int .i64 0] 25)).setRow w6.heap.size (ccells ⟨a0 || b0, a1 || b1, a2 || b2, a3 || b3, a4 || b4, a5 || b5, a6 || b6, Ctl.pick a7 b7, Ctl.pick a8 b8, Ctl.pick a9 b9, Ctl.pick a10 b10⟩)) w6.heap.size ⟨a0 || b0, a1 || b1, a2 || b2, a3 || b3, a4 || b4, a5 || b5, a6 || b6, Ctl.pick a7 b7, Ctl.pick a8 b8, Ctl.pick a9 b9, Ctl.pick a10 b10⟩ ∧ CAt ((w6.drew.alloc (.cells #[.bool false, .bool false, .bool false, .bool false, .bool false, .bool false, .bool false, .int .i64 0, .int .i64 0, .int .i64 0, .int .i64 0] 25)).setRow w6.heap.size (ccells ⟨a0 || b0, a1 || b1, a2 || b2, a3 || b3, a4 || b4, a5 || b5, a6 || b6, Ctl.pick a7 b7, Ctl.pick a8 b8, Ctl.pick a9 b9, Ctl.pick a10 b10⟩)) gx ⟨a0, a1, a2, a3, a4, a5, a6, a7, a8, a9, a10⟩ ∧ CAt ((w6.drew.alloc (.cells #[.bool false, .bool false, .bool false, .bool false, .bool false, .bool false, .bool false, .int .i64 0, .int .i64 0, .int .i64 0, .int .i64 0] 25)).setRow w6.heap.size (ccells ⟨a0 || b0, a1 || b1, a2 || b2, a3 || b3, a4 || b4, a5 || b5, a6 || b6, Ctl.pick a7 b7, Ctl.pick a8 b8, Ctl.pick a9 b9, Ctl.pick a10 b10⟩)) gz ⟨a0 || b0, a1 || b1, a2 || b2, a3 || b3, a4 || b4, a5 || b5, a6 || b6, Ctl.pick a7 b7, Ctl.pick a8 b8, Ctl.pick a9 b9, Ctl.pick a10 b10⟩ ∧ Below w.heap.size w ((w6.drew.alloc (.cells #[.bool false, .bool false, .bool false, .bool false, .bool false, .bool false, .bool false, .int .i64 0, .int .i64 0, .int .i64 0, .int .i64 0] 25)).setRow w6.heap.size (ccells ⟨a0 || b0, a1 || b1, a2 || b2, a3 || b3, a4 || b4, a5 || b5, a6 || b6, Ctl.pick a7 b7, Ctl.pick a8 b8, Ctl.pick a9 b9, Ctl.pick a10 b10⟩)) :=
      ⟨CAt.whole (c := Ctl.zeroC) hnew ⟨a0 || b0, a1 || b1, a2 || b2, a3 || b3, a4 || b4, a5 || b5, a6 || b6, Ctl.pick a7 b7, Ctl.pick a8 b8, Ctl.pick a9 b9, Ctl.pick a10 b10⟩, hSB.1, CAt.row_else (HZ.out.later ((Below.refl _ w6).drew.alloc (Nat.le_refl _) _)) (by omega) _, Below.row hBa HB.out.size _⟩
    have hsi : (Tryd.prog.info? 25).map (·.size) = some (ccells ⟨a0 || b0, a1 || b1, a2 || b2, a3 || b3, a4 || b4, a5 || b5, a6 || b6, Ctl.pick a7 b7, Ctl.pick a8 b8, Ctl.pick a9 b9, Ctl.pick a10 b10⟩).size := by kernel_rfl
    have hso : (#[.bool false, .bool false, .bool false, .bool false, .bool false, .bool false, .bool false, .int .i64 0, .int .i64 0, .int .i64 0, .int .i64 0] : Array Value).size = (ccells ⟨a0 || b0, a1 || b1, a2 || b2, a3 || b3, a4 || b4, a5 || b5, a6 || b6, Ctl.pick a7 b7, Ctl.pick a8 b8, Ctl.pick a9 b9, Ctl.pick a10 b10⟩).size := rfl
    have hs1 := ccells_one ⟨a0 || b0, a1 || b1, a2 || b2, a3 || b3, a4 || b4, a5 || b5, a6 || b6, Ctl.pick a7 b7, Ctl.pick a8 b8, Ctl.pick a9 b9, Ctl.pick a10 b10⟩
    have hstore : ∀ (o : Oper) (A : Act) (J : Act → World → Prop) (R : Exit → Act → World → Prop), o.op = .store 25 (.tmp 9) (.tmp 101) → A.eval (.tmp 9) = .pointer (some ⟨w6.heap.size, 0, none⟩) → A.eval (.tmp 101) = .agg (ccells ⟨a0 || b0, a1 || b1, a2 || b2, a3 || b3, a4 || b4, a5 || b5, a6 || b6, Ctl.pick a7 b7, Ctl.pick a8 b8, Ctl.pick a9 b9, Ctl.pick a10 b10⟩) → J (A.put o.dst undef) ((w6.drew.alloc (.cells #[.bool false, .bool false, .bool false, .bool false, .bool false, .bool false, .bool false, .int .i64 0, .int .i64 0, .int .i64 0, .int .i64 0] 25)).setRow w6.heap.size (ccells ⟨a0 || b0, a1 || b1, a2 || b2, a3 || b3, a4 || b4, a5 || b5, a6 || b6, Ctl.pick a7 b7, Ctl.pick a8 b8, Ctl.pick a9 b9, Ctl.pick a10 b10⟩)) → o.wp Tryd.prog A (w6.drew.alloc (.cells #[.bool false, .bool false, .bool false, .bool false, .bool false, .bool false, .bool false, .int .i64 0, .int .i64 0, .int .i64 0, .int .i64 0] 25)) J R :=
      fun o A J R e1 e2 e3 e4 => wp_store_row 25 (.tmp 9) (.tmp 101) e1 w6.heap.size (ccells ⟨a0 || b0, a1 || b1, a2 || b2, a3 || b3, a4 || b4, a5 || b5, a6 || b6, Ctl.pick a7 b7, Ctl.pick a8 b8, Ctl.pick a9 b9, Ctl.pick a10 b10⟩) e2 e3 25 #[.bool false, .bool false, .bool false, .bool false, .bool false, .bool false, .bool false, .int .i64 0, .int .i64 0, .int .i64 0, .int .i64 0] hnew hsi hso hs1 e4
    clear hsi hso hs1 hnew
    refine wp_region_noPanic ?_
    refine wp_region_held (S := fun w' => CAt w' gx ⟨a0, a1, a2, a3, a4, a5, a6, a7, a8, a9, a10⟩ ∧ CAt w' gy ⟨b0, b1, b2, b3, b4, b5, b6, b7, b8, b9, b10⟩) (by kernel_rfl) ?_
    refine held_of_takes (fuel := 7) (by kernel_rfl) (fun _ _ _ _ _ h => h) hS [0, 1, 2, 3, 4, 5, 6, 7, 8, 9, 10, 11, 12, 13, 14, 15, 16, 17, 18, 19, 20, 21, 22, 23, 24, 25, 26, 27, 28, 29, 30, 31, 32, 33, 34, 35, 36, 37, 38, 39, 40, 41, 42, 43, 44, 45, 46, 48, 49, 50, 51, 52, 54, 55, 56, 57, 58, 60, 61, 62, 63, 64] _ _ (by kernel_rfl) ?_
    refine Takes.val (.pointer (some ⟨gx, 0, none⟩)) rfl rfl (fun _ _ => by kernel_rfl) ?_
    refine Takes.val (.bool a0) rfl rfl (fun _ h => exec_load (s := 35) rfl (by kernel_rfl) (load_bool (h.1.cell 0))) ?_
    refine Takes.val (.bool a0) rfl rfl (fun _ _ => by kernel_rfl) ?_
    refine Takes.either a0 b0 (.pointer (some ⟨gy, 0, none⟩)) rfl rfl rfl rfl ((by kernel_rfl : _ = ((some a0 : Option Bool) == some false)).trans (not_told a0)) (fun _ => (by kernel_rfl : _ = ((some a0 : Option Bool) == some false)).trans (not_told a0)) (fun _ _ => by kernel_rfl) (fun _ h => exec_load (s := 38) rfl (by kernel_rfl) (load_bool (h.2.cell 0))) (fun _ _ _ => by cases a0 <;> kernel_rfl) ?_
    intro _ _
    refine Takes.val (.pointer (some ⟨gx, 1, none⟩)) rfl rfl (fun _ _ => by kernel_rfl) ?_
    refine Takes.val (.bool a1) rfl rfl (fun _ h => exec_load (s := 41) rfl (by kernel_rfl) (load_bool (h.1.cell 1))) ?_
    refine Takes.val (.bool a1) rfl rfl (fun _ _ => by kernel_rfl) ?_
    refine Takes.either a1 b1 (.pointer (some ⟨gy, 1, none⟩)) rfl rfl rfl rfl ((by kernel_rfl : _ = ((some a1 : Option Bool) == some false)).trans (not_told a1)) (fun _ => (by kernel_rfl : _ = ((some a1 : Option Bool) == some false)).trans (not_told a1)) (fun _ _ => by kernel_rfl) (fun _ h => exec_load (s := 44) rfl (by kernel_rfl) (load_bool (h.2.cell 1))) (fun _ _ _ => by cases a1 <;> kernel_rfl) ?_
    intro _ _
    refine Takes.val (.pointer (some ⟨gx, 2, none⟩)) rfl rfl (fun _ _ => by kernel_rfl) ?_
    refine Takes.val (.bool a2) rfl rfl (fun _ h => exec_load (s := 47) rfl (by kernel_rfl) (load_bool (h.1.cell 2))) ?_
    refine Takes.val (.bool a2) rfl rfl (fun _ _ => by kernel_rfl) ?_
    refine Takes.either a2 b2 (.pointer (some ⟨gy, 2, none⟩)) rfl rfl rfl rfl ((by kernel_rfl : _ = ((some a2 : Option Bool) == some false)).trans (not_told a2)) (fun _ => (by kernel_rfl : _ = ((some a2 : Option Bool) == some false)).trans (not_told a2)) (fun _ _ => by kernel_rfl) (fun _ h => exec_load (s := 50) rfl (by kernel_rfl) (load_bool (h.2.cell 2))) (fun _ _ _ => by cases a2 <;> kernel_rfl) ?_
    intro _ _
    refine Takes.val (.pointer (some ⟨gx, 3, none⟩)) rfl rfl (fun _ _ => by kernel_rfl) ?_
    refine Takes.val (.bool a3) rfl rfl (fun _ h => exec_load (s := 53) rfl (by kernel_rfl) (load_bool (h.1.cell 3))) ?_
    refine Takes.val (.bool a3) rfl rfl (fun _ _ => by kernel_rfl) ?_
    refine Takes.either a3 b3 (.pointer (some ⟨gy, 3, none⟩)) rfl rfl rfl rfl ((by kernel_rfl : _ = ((some a3 : Option Bool) == some false)).trans (not_told a3)) (fun _ => (by kernel_rfl : _ = ((some a3 : Option Bool) == some false)).trans (not_told a3)) (fun _ _ => by kernel_rfl) (fun _ h => exec_load (s := 56) rfl (by kernel_rfl) (load_bool (h.2.cell 3))) (fun _ _ _ => by cases a3 <;> kernel_rfl) ?_
    intro _ _
    refine Takes.val (.pointer (some ⟨gx, 4, none⟩)) rfl rfl (fun _ _ => by kernel_rfl) ?_
    refine Takes.val (.bool a4) rfl rfl (fun _ h => exec_load (s := 59) rfl (by kernel_rfl) (load_bool (h.1.cell 4))) ?_
    refine Takes.val (.bool a4) rfl rfl (fun _ _ => by kernel_rfl) ?_
    refine Takes.either a4 b4 (.pointer (some ⟨gy, 4, none⟩)) rfl rfl rfl rfl ((by kernel_rfl : _ = ((some a4 : Option Bool) == some false)).trans (not_told a4)) (fun _ => (by kernel_rfl : _ = ((some a4 : Option Bool) == some false)).trans (not_told a4)) (fun _ _ => by kernel_rfl) (fun _ h => exec_load (s := 62) rfl (by kernel_rfl) (load_bool (h.2.cell 4))) (fun _ _ _ => by cases a4 <;> kernel_rfl) ?_
    intro _ _
    refine Takes.val (.pointer (some ⟨gx, 5, none⟩)) rfl rfl (fun _ _ => by kernel_rfl) ?_
    refine Takes.val (.bool a5) rfl rfl (fun _ h => exec_load (s := 65) rfl (by kernel_rfl) (load_bool (h.1.cell 5))) ?_
    refine Takes.val (.bool a5) rfl rfl (fun _ _ => by kernel_rfl) ?_
    refine Takes.either a5 b5 (.pointer (some ⟨gy, 5, none⟩)) rfl rfl rfl rfl ((by kernel_rfl : _ = ((some a5 : Option Bool) == some false)).trans (not_told a5)) (fun _ => (by kernel_rfl : _ = ((some a5 : Option Bool) == some false)).trans (not_told a5)) (fun _ _ => by kernel_rfl) (fun _ h => exec_load (s := 68) rfl (by kernel_rfl) (load_bool (h.2.cell 5))) (fun _ _ _ => by cases a5 <;> kernel_rfl) ?_
    intro _ _
    refine Takes.val (.pointer (some ⟨gx, 6, none⟩)) rfl rfl (fun _ _ => by kernel_rfl) ?_
    refine Takes.val (.bool a6) rfl rfl (fun _ h => exec_load (s := 71) rfl (by kernel_rfl) (load_bool (h.1.cell 6))) ?_
    refine Takes.val (.bool a6) rfl rfl (fun _ _ => by kernel_rfl) ?_
    refine Takes.either a6 b6 (.pointer (some ⟨gy, 6, none⟩)) rfl rfl rfl rfl ((by kernel_rfl : _ = ((some a6 : Option Bool) == some false)).trans (not_told a6)) (fun _ => (by kernel_rfl : _ = ((some a6 : Option Bool) == some false)).trans (not_told a6)) (fun _ _ => by kernel_rfl) (fun _ h => exec_load (s := 74) rfl (by kernel_rfl) (load_bool (h.2.cell 6))) (fun _ _ _ => by cases a6 <;> kernel_rfl) ?_
    intro _ _
    refine Takes.val (.func (.func 14) #[] #[]) rfl rfl (fun _ _ => by kernel_rfl) ?_
    refine Takes.val (.pointer (some ⟨gx, 7, none⟩)) rfl rfl (fun _ _ => by kernel_rfl) ?_
    refine Takes.val (.int .i64 a7) rfl rfl (fun _ h => exec_load (s := 78) rfl (by kernel_rfl) (load_int (h.1.cell 7))) ?_
    refine Takes.val (.pointer (some ⟨gy, 7, none⟩)) rfl rfl (fun _ _ => by kernel_rfl) ?_
    refine Takes.val (.int .i64 b7) rfl rfl (fun _ h => exec_load (s := 80) rfl (by kernel_rfl) (load_int (h.2.cell 7))) ?_
    refine Takes.val (.func (.func 14) #[] #[]) rfl rfl (fun _ _ => by kernel_rfl) ?_
    refine Takes.val (.pointer (some ⟨gx, 8, none⟩)) rfl rfl (fun _ _ => by kernel_rfl) ?_
    refine Takes.val (.int .i64 a8) rfl rfl (fun _ h => exec_load (s := 84) rfl (by kernel_rfl) (load_int (h.1.cell 8))) ?_
    refine Takes.val (.pointer (some ⟨gy, 8, none⟩)) rfl rfl (fun _ _ => by kernel_rfl) ?_
    refine Takes.val (.int .i64 b8) rfl rfl (fun _ h => exec_load (s := 86) rfl (by kernel_rfl) (load_int (h.2.cell 8))) ?_
    refine Takes.val (.func (.func 14) #[] #[]) rfl rfl (fun _ _ => by kernel_rfl) ?_
    refine Takes.val (.pointer (some ⟨gx, 9, none⟩)) rfl rfl (fun _ _ => by kernel_rfl) ?_
    refine Takes.val (.int .i64 a9) rfl rfl (fun _ h => exec_load (s := 90) rfl (by kernel_rfl) (load_int (h.1.cell 9))) ?_
    refine Takes.val (.pointer (some ⟨gy, 9, none⟩)) rfl rfl (fun _ _ => by kernel_rfl) ?_
    refine Takes.val (.int .i64 b9) rfl rfl (fun _ h => exec_load (s := 92) rfl (by kernel_rfl) (load_int (h.2.cell 9))) ?_
    refine Takes.val (.func (.func 14) #[] #[]) rfl rfl (fun _ _ => by kernel_rfl) ?_
    refine Takes.val (.pointer (some ⟨gx, 10, none⟩)) rfl rfl (fun _ _ => by kernel_rfl) ?_
    refine Takes.val (.int .i64 a10) rfl rfl (fun _ h => exec_load (s := 96) rfl (by kernel_rfl) (load_int (h.1.cell 10))) ?_
    refine Takes.val (.pointer (some ⟨gy, 10, none⟩)) rfl rfl (fun _ _ => by kernel_rfl) ?_
    refine Takes.val (.int .i64 b10) rfl rfl (fun _ h => exec_load (s := 98) rfl (by kernel_rfl) (load_int (h.2.cell 10))) ?_
    refine wpAnyH_all (rs := [47, 67]) (by kernel_rfl) (by simp) (fun i hi => ?_)
    rcases List.mem_cons.1 hi with rfl | hi
    · refine wpOp_call (f := 14) (args := #[.int .i64 a7, .int .i64 b7]) rfl rfl (by kernel_rfl) (K7 _) ⟨hS, ?_⟩
      refine wpAnyH_all (rs := [53, 67]) (by kernel_rfl) (by simp) (fun i hi => ?_)
      rcases List.mem_cons.1 hi with rfl | hi
      · refine wpOp_call (f := 14) (args := #[.int .i64 a8, .int .i64 b8]) rfl rfl (by kernel_rfl) (K8 _) ⟨hS, ?_⟩
        refine wpAnyH_all (rs := [59, 67]) (by kernel_rfl) (by simp) (fun i hi => ?_)
        rcases List.mem_cons.1 hi with rfl | hi
        · refine wpOp_call (f := 14) (args := #[.int .i64 a9, .int .i64 b9]) rfl rfl (by kernel_rfl) (K9 _) ⟨hS, ?_⟩
          refine wpAnyH_all (rs := [65, 67]) (by kernel_rfl) (by simp) (fun i hi => ?_)
          rcases List.mem_cons.1 hi with rfl | hi
          · refine wpOp_call (f := 14) (args := #[.int .i64 a10, .int .i64 b10]) rfl rfl (by kernel_rfl) (K10 _) ⟨hS, ?_⟩
            refine wpAnyH_take (i := 66) (v := .agg #[.bool (a0 || b0), .bool (a1 || b1), .bool (a2 || b2), .bool (a3 || b3), .bool (a4 || b4), .bool (a5 || b5), .bool (a6 || b6), .int .i64 (Ctl.pick a7 b7), .int .i64 (Ctl.pick a8 b8), .int .i64 (Ctl.pick a9 b9), .int .i64 (Ctl.pick a10 b10)]) rfl (by kernel_rfl) (by kernel_rfl) (by kernel_rfl) (fun _ _ _ h => h) (.inl ⟨rfl, fun _ _ => by kernel_rfl⟩) hS ?_
            refine wpAnyH_all (rs := [67]) (by kernel_rfl) (by simp) (fun i hi => ?_)
            obtain rfl := List.mem_singleton.1 hi
            refine wpOp_make (v := .pointer (some ⟨w6.heap.size, 0, none⟩)) (w' := w6.drew.alloc (.cells #[.bool false, .bool false, .bool false, .bool false, .bool false, .bool false, .bool false, .int .i64 0, .int .i64 0, .int .i64 0, .int .i64 0] 25)) rfl rfl (by kernel_rfl) ⟨hSA, ?_⟩
            refine wpAnyH_all (rs := [68]) (by kernel_rfl) (by simp) (fun i hi => ?_)
            obtain rfl := List.mem_singleton.1 hi
            refine wpOp_known (.store 25 (.tmp 9) (.tmp 101)) none (by kernel_rfl) (fun o e1 e2 => hstore o _ _ _ e1 (by kernel_rfl) (by kernel_rfl) ?_)
            rw [e2]
            refine ⟨hSB, ?_⟩
            refine wpAnyH_done (by kernel_rfl) ?_ 0
            refine NoPanic.normal ?_
            go_wp2_with fail
            go_meet
            case rel => exact ⟨_, rfl, hEnd⟩
          · obtain rfl := List.mem_singleton.1 hi
            refine wpOp_make (v := .pointer (some ⟨w6.heap.size, 0, none⟩)) (w' := w6.drew.alloc (.cells #[.bool false, .bool false, .bool false, .bool false, .bool false, .bool false, .bool false, .int .i64 0, .int .i64 0, .int .i64 0, .int .i64 0] 25)) rfl rfl (by kernel_rfl) ⟨hSA, ?_⟩
            refine wpAnyH_all (rs := [65]) (by kernel_rfl) (by simp) (fun i hi => ?_)
            obtain rfl := List.mem_singleton.1 hi
            refine wpOp_call (f := 14) (args := #[.int .i64 a10, .int .i64 b10]) rfl rfl (by kernel_rfl) (K10 _) ⟨hSA, ?_⟩
            refine wpAnyH_take (i := 66) (v := .agg #[.bool (a0 || b0), .bool (a1 || b1), .bool (a2 || b2), .bool (a3 || b3), .bool (a4 || b4), .bool (a5 || b5), .bool (a6 || b6), .int .i64 (Ctl.pick a7 b7), .int .i64 (Ctl.pick a8 b8), .int .i64 (Ctl.pick a9 b9), .int .i64 (Ctl.pick a10 b10)]) rfl (by kernel_rfl) (by kernel_rfl) (by kernel_rfl) (fun _ _ _ h => h) (.inl ⟨rfl, fun _ _ => by kernel_rfl⟩) hSA ?_
            refine wpAnyH_all (rs := [68]) (by kernel_rfl) (by simp) (fun i hi => ?_)
            obtain rfl := List.mem_singleton.1 hi
            refine wpOp_known (.store 25 (.tmp 9) (.tmp 101)) none (by kernel_rfl) (fun o e1 e2 => hstore o _ _ _ e1 (by kernel_rfl) (by kernel_rfl) ?_)
            rw [e2]
            refine ⟨hSB, ?_⟩
            refine wpAnyH_done (by kernel_rfl) ?_ 0
            refine NoPanic.normal ?_
            go_wp2_with fail
            go_meet
            case rel => exact ⟨_, rfl, hEnd⟩
        · obtain rfl := List.mem_singleton.1 hi
          refine wpOp_make (v := .pointer (some ⟨w6.heap.size, 0, none⟩)) (w' := w6.drew.alloc (.cells #[.bool false, .bool false, .bool false, .bool false, .bool false, .bool false, .bool false, .int .i64 0, .int .i64 0, .int .i64 0, .int .i64 0] 25)) rfl rfl (by kernel_rfl) ⟨hSA, ?_⟩
          refine wpAnyH_all (rs := [59]) (by kernel_rfl) (by simp) (fun i hi => ?_)
          obtain rfl := List.mem_singleton.1 hi
          refine wpOp_call (f := 14) (args := #[.int .i64 a9, .int .i64 b9]) rfl rfl (by kernel_rfl) (K9 _) ⟨hSA, ?_⟩
          refine wpAnyH_all (rs := [65]) (by kernel_rfl) (by simp) (fun i hi => ?_)
          obtain rfl := List.mem_singleton.1 hi
          refine wpOp_call (f := 14) (args := #[.int .i64 a10, .int .i64 b10]) rfl rfl (by kernel_rfl) (K10 _) ⟨hSA, ?_⟩
          refine wpAnyH_take (i := 66) (v := .agg #[.bool (a0 || b0), .bool (a1 || b1), .bool (a2 || b2), .bool (a3 || b3), .bool (a4 || b4), .bool (a5 || b5), .bool (a6 || b6), .int .i64 (Ctl.pick a7 b7), .int .i64 (Ctl.pick a8 b8), .int .i64 (Ctl.pick a9 b9), .int .i64 (Ctl.pick a10 b10)]) rfl (by kernel_rfl) (by kernel_rfl) (by kernel_rfl) (fun _ _ _ h => h) (.inl ⟨rfl, fun _ _ => by kernel_rfl⟩) hSA ?_
          refine wpAnyH_all (rs := [68]) (by kernel_rfl) (by simp) (fun i hi => ?_)
          obtain rfl := List.mem_singleton.1 hi
          refine wpOp_known (.store 25 (.tmp 9) (.tmp 101)) none (by kernel_rfl) (fun o e1 e2 => hstore o _ _ _ e1 (by kernel_rfl) (by kernel_rfl) ?_)
          rw [e2]
          refine ⟨hSB, ?_⟩
          refine wpAnyH_done (by kernel_rfl) ?_ 0
          refine NoPanic.normal ?_
          go_wp2_with fail
          go_meet
          case rel => exact ⟨_, rfl, hEnd⟩
      · obtain rfl := List.mem_singleton.1 hi
        refine wpOp_make (v := .pointer (some ⟨w6.heap.size, 0, none⟩)) (w' := w6.drew.alloc (.cells #[.bool false, .bool false, .bool false, .bool false, .bool false, .bool false, .bool false, .int .i64 0, .int .i64 0, .int .i64 0, .int .i64 0] 25)) rfl rfl (by kernel_rfl) ⟨hSA, ?_⟩
        refine wpAnyH_all (rs := [53]) (by kernel_rfl) (by simp) (fun i hi => ?_)
        obtain rfl := List.mem_singleton.1 hi
        refine wpOp_call (f := 14) (args := #[.int .i64 a8, .int .i64 b8]) rfl rfl (by kernel_rfl) (K8 _) ⟨hSA, ?_⟩
        refine wpAnyH_all (rs := [59]) (by kernel_rfl) (by simp) (fun i hi => ?_)
        obtain rfl := List.mem_singleton.1 hi
        refine wpOp_call (f := 14) (args := #[.int .i64 a9, .int .i64 b9]) rfl rfl (by kernel_rfl) (K9 _) ⟨hSA, ?_⟩
        refine wpAnyH_all (rs := [65]) (by kernel_rfl) (by simp) (fun i hi => ?_)
        obtain rfl := List.mem_singleton.1 hi
        refine wpOp_call (f := 14) (args := #[.int .i64 a10, .int .i64 b10]) rfl rfl (by kernel_rfl) (K10 _) ⟨hSA, ?_⟩
        refine wpAnyH_take (i := 66) (v := .agg #[.bool (a0 || b0), .bool (a1 || b1), .bool (a2 || b2), .bool (a3 || b3), .bool (a4 || b4), .bool (a5 || b5), .bool (a6 || b6), .int .i64 (Ctl.pick a7 b7), .int .i64 (Ctl.pick a8 b8), .int .i64 (Ctl.pick a9 b9), .int .i64 (Ctl.pick a10 b10)]) rfl (by kernel_rfl) (by kernel_rfl) (by kernel_rfl) (fun _ _ _ h => h) (.inl ⟨rfl, fun _ _ => by kernel_rfl⟩) hSA ?_
        refine wpAnyH_all (rs := [68]) (by kernel_rfl) (by simp) (fun i hi => ?_)
        obtain rfl := List.mem_singleton.1 hi
        refine wpOp_known (.store 25 (.tmp 9) (.tmp 101)) none (by kernel_rfl) (fun o e1 e2 => hstore o _ _ _ e1 (by kernel_rfl) (by kernel_rfl) ?_)
        rw [e2]
        refine ⟨hSB, ?_⟩
        refine wpAnyH_done (by kernel_rfl) ?_ 0
        refine NoPanic.normal ?_
        go_wp2_with fail
        go_meet
        case rel => exact ⟨_, rfl, hEnd⟩
    · obtain rfl := List.mem_singleton.1 hi
      refine wpOp_make (v := .pointer (some ⟨w6.heap.size, 0, none⟩)) (w' := w6.drew.alloc (.cells #[.bool false, .bool false, .bool false, .bool false, .bool false, .bool false, .bool false, .int .i64 0, .int .i64 0, .int .i64 0, .int .i64 0] 25)) rfl rfl (by kernel_rfl) ⟨hSA, ?_⟩
      refine wpAnyH_all (rs := [47]) (by kernel_rfl) (by simp) (fun i hi => ?_)
      obtain rfl := List.mem_singleton.1 hi
      refine wpOp_call (f := 14) (args := #[.int .i64 a7, .int .i64 b7]) rfl rfl (by kernel_rfl) (K7 _) ⟨hSA, ?_⟩
      refine wpAnyH_all (rs := [53]) (by kernel_rfl) (by simp) (fun i hi => ?_)
      obtain rfl := List.mem_singleton.1 hi
      refine wpOp_call (f := 14) (args := #[.int .i64 a8, .int .i64 b8]) rfl rfl (by kernel_rfl) (K8 _) ⟨hSA, ?_⟩
      refine wpAnyH_all (rs := [59]) (by kernel_rfl) (by simp) (fun i hi => ?_)
      obtain rfl := List.mem_singleton.1 hi
      refine wpOp_call (f := 14) (args := #[.int .i64 a9, .int .i64 b9]) rfl rfl (by kernel_rfl) (K9 _) ⟨hSA, ?_⟩
      refine wpAnyH_all (rs := [65]) (by kernel_rfl) (by simp) (fun i hi => ?_)
      obtain rfl := List.mem_singleton.1 hi
      refine wpOp_call (f := 14) (args := #[.int .i64 a10, .int .i64 b10]) rfl rfl (by kernel_rfl) (K10 _) ⟨hSA, ?_⟩
      refine wpAnyH_take (i := 66) (v := .agg #[.bool (a0 || b0), .bool (a1 || b1), .bool (a2 || b2), .bool (a3 || b3), .bool (a4 || b4), .bool (a5 || b5), .bool (a6 || b6), .int .i64 (Ctl.pick a7 b7), .int .i64 (Ctl.pick a8 b8), .int .i64 (Ctl.pick a9 b9), .int .i64 (Ctl.pick a10 b10)]) rfl (by kernel_rfl) (by kernel_rfl) (by kernel_rfl) (fun _ _ _ h => h) (.inl ⟨rfl, fun _ _ => by kernel_rfl⟩) hSA ?_
      refine wpAnyH_all (rs := [68]) (by kernel_rfl) (by simp) (fun i hi => ?_)
      obtain rfl := List.mem_singleton.1 hi
      refine wpOp_known (.store 25 (.tmp 9) (.tmp 101)) none (by kernel_rfl) (fun o e1 e2 => hstore o _ _ _ e1 (by kernel_rfl) (by kernel_rfl) ?_)
      rw [e2]
      refine ⟨hSB, ?_⟩
      refine wpAnyH_done (by kernel_rfl) ?_ 0
      refine NoPanic.normal ?_
      go_wp2_with fail
      go_meet
      case rel => exact ⟨_, rfl, hEnd⟩
  case rest =>
  obtain ⟨g, rfl, hG, hX, hZ, hb7⟩ := hcut
  clear K7 K8 K9 K10 HX HY HZ HB
  generalize (a0 || b0) = m0 at *
  generalize (a1 || b1) = m1 at *
  generalize (a2 || b2) = m2 at *
  generalize (a3 || b3) = m3 at *
  generalize (a4 || b4) = m4 at *
  generalize (a5 || b5) = m5 at *
  generalize (a6 || b6) = m6 at *
  generalize Ctl.pick a7 b7 = m7 at *
  generalize Ctl.pick a8 b8 = m8 at *
  generalize Ctl.pick a9 b9 = m9 at *
  generalize Ctl.pick a10 b10 = m10 at *
  go_upto_region 7 with fail
  have hs := hX
  unfold CAt at hs
  have hsi : (Tryd.prog.info? 25).map (·.size) = some (ccells ⟨a0, a1, a2, a3, a4, a5, a6, a7, a8, a9, a10⟩).size := by kernel_rfl
  go_wp2_with (refine wpList_load_row rfl 25 _ rfl gx rfl 25 (ccells ⟨a0, a1, a2, a3, a4, a5, a6, a7, a8, a9, a10⟩) (0, 0) _ hs Tryd.underlying25 rfl hsi ?_)
  refine (cP _ hb7).mono ?_
  rintro e w8 ⟨rfl, hb8⟩
  have hG := hG.later hb8
  have hX := hX.later hb8
  have hZ := hZ.later hb8
  have hb8 := bt hb7 hb8
  clear hs hsi hb7
  have hcv := run_bytes_of_string (P := Tryd.prog) w8 9 33 5 ps Tryd.underlying9 Tryd.underlying33 Tryd.underlying5
  have hR := Row.copy w8 ps (grownCap w8 ps.size 0 5)
  have hb9 : Below w8.heap.size w8 ((w8.drew.alloc (.cells (bytesRow ps (grownCap w8 ps.size 0 5)) 5 ((bytesRow ps (grownCap w8 ps.size 0 5)).size, (bytesRow ps (grownCap w8 ps.size 0 5)).size + 1)))) := (Below.refl _ w8).drew.alloc (Nat.le_refl _) _
  generalize grownCap w8 ps.size 0 5 = cap at hcv hR hb9
  generalize ((w8.drew.alloc (.cells (bytesRow ps cap) 5 ((bytesRow ps cap).size, (bytesRow ps cap).size + 1)))) = w9 at hcv hR hb9
  have hG := hG.later hb9
  have hX := hX.later hb9
  have hZ := hZ.later hb9
  have hne1 : gx ≠ w8.heap.size := by have := (show CAt w8 gx ⟨a0, a1, a2, a3, a4, a5, a6, a7, a8, a9, a10⟩ from ‹_›).lt; omega
  have hne2 : g ≠ w8.heap.size := by have := (show CAt w8 g ⟨m0, m1, m2, m3, m4, m5, m6, m7, m8, m9, m10⟩ from ‹_›).lt; omega
  have hne3 : gz ≠ w8.heap.size := by have := (show CAt w8 gz ⟨m0, m1, m2, m3, m4, m5, m6, m7, m8, m9, m10⟩ from ‹_›).lt; omega
  have hle : w.heap.size ≤ w8.heap.size := hb8.size
  have hbz := bt hb8 hb9
  clear hb9 hb8
  go_wp2_with fail
  clear hcv
  generalize w8.heap.size = gB at *
  have HNE1 := Lib.hid hne1
  have HNE2 := Lib.hid hne2
  have HNE3 := Lib.hid hne3
  have HLE := Lib.hid hle
  have hps6 : ps.size ≤ 1000000 := by omega
  clear hne1 hne2 hne3 hle
  go_loopw [11] (fun i wr => ∃ k : Nat, k ≤ ps.size ∧ i = .int .i64 k ∧ Row wr gB (Ctl.upTo ps.data.toList k) ∧ CAt wr gx ⟨a0, a1, a2, a3, a4, a5, a6, a7, a8, a9, a10⟩ ∧ CAt wr g ⟨m0, m1, m2, m3, m4, m5, m6, m7, m8, m9, m10⟩ ∧ CAt wr gz ⟨m0, m1, m2, m3, m4, m5, m6, m7, m8, m9, m10⟩ ∧ Below w.heap.size w wr) (fun i _ => ps.size - (intOf i).toNat)
  case atStart => exact ⟨0, by omega, rfl, by rw [Ctl.upTo_zero]; exact hR, hX, hG, hZ, hbz⟩
  case round =>
    clear hR hX hG hZ hbz
    obtain ⟨k, hk, rfl, hR, hX, hG, hZ, hb⟩ := hrel
    obtain ⟨wo, rfl⟩ : ∃ wo : World, wo = wr := ⟨_, rfl⟩
    by_cases hlt : k < ps.size
    · have hkl : k < (Ctl.upTo ps.data.toList k).length := by rw [Ctl.upTo_length, Oct.length_size]; exact hlt
      obtain ⟨hcell, hfz⟩ := hR.cell k hkl
      rw [Ctl.upTo_at ps k hlt] at hcell
      have HN := Lib.hid (Ctl.upTo_next ps k hlt)
      have hc := (ps[k]).toNat_lt
      rcases (show (ps[k].toNat : Int) < 97 ∨ ((97 : Int) ≤ ps[k].toNat ∧ (ps[k].toNat : Int) ≤ 122) ∨ (122 : Int) < ps[k].toNat by omega) with hu | ⟨h1u, h2u⟩ | hu
      · have HL := Lib.hid (Ctl.upTo_same ps k hlt (by omega))
        go_wp2_with fail
        go_roundw
        case rel => exact ⟨k + 1, by omega, by go_num, by rw [HL.out]; exact hR, hX, hG, hZ, hb⟩
        case measure => simp [intOf]; omega
      · have HS := hR.set k hkl (Ctl.up ps[k]) _ (Ctl.up_yes ps[k] h1u h2u)
        have hX2 := hX.beside HNE1.out k (.int .u8 ((ps[k].toNat : Int) - 32))
        have hG2 := hG.beside HNE2.out k (.int .u8 ((ps[k].toNat : Int) - 32))
        have hZ2 := hZ.beside HNE3.out k (.int .u8 ((ps[k].toNat : Int) - 32))
        go_wp2_with fail
        go_roundw
        case rel => exact ⟨k + 1, by omega, by go_num, by rw [HN.out]; exact HS, hX2, hG2, hZ2, hb.setCell HLE.out _⟩
        case measure => simp [intOf]; omega
      · have HL := Lib.hid (Ctl.upTo_same ps k hlt (by omega))
        go_wp2_with fail
        go_roundw
        case rel => exact ⟨k + 1, by omega, by go_num, by rw [HL.out]; exact hR, hX, hG, hZ, hb⟩
        case measure => simp [intOf]; omega
    · obtain rfl : k = ps.size := by omega
      rw [Ctl.upTo_all, HPL.out] at hR
      have hpsz : (Ctl.upper pl).length = ps.size := by rw [Ctl.upper_length, ← HPL.out, Oct.length_size]
      generalize Ctl.upper pl = ul at *
      have HP0 : Hid (CAt wo.drew gz ⟨m0, m1, m2, m3, m4, m5, m6, m7, m8, m9, m10⟩ ∧ CAt wo.drew g ⟨m0, m1, m2, m3, m4, m5, m6, m7, m8, m9, m10⟩ ∧ CAt wo.drew gx ⟨a0, a1, a2, a3, a4, a5, a6, a7, a8, a9, a10⟩ ∧ ∀ j (hj : j < ul.length), wo.drew.cell? ⟨gB, j, none⟩ = some (.int .u8 (ul[j].toNat : Int))) := Lib.hid ⟨hZ, hG, hX, fun j hj => (hR.cell j hj).1⟩
      have LATER : Hid (∀ (w1 w2 : World), Below w1.heap.size w1 w2 → (CAt w1 gz ⟨m0, m1, m2, m3, m4, m5, m6, m7, m8, m9, m10⟩ ∧ CAt w1 g ⟨m0, m1, m2, m3, m4, m5, m6, m7, m8, m9, m10⟩ ∧ CAt w1 gx ⟨a0, a1, a2, a3, a4, a5, a6, a7, a8, a9, a10⟩ ∧ ∀ j (hj : j < ul.length), w1.cell? ⟨gB, j, none⟩ = some (.int .u8 (ul[j].toNat : Int))) → (CAt w2 gz ⟨m0, m1, m2, m3, m4, m5, m6, m7, m8, m9, m10⟩ ∧ CAt w2 g ⟨m0, m1, m2, m3, m4, m5, m6, m7, m8, m9, m10⟩ ∧ CAt w2 gx ⟨a0, a1, a2, a3, a4, a5, a6, a7, a8, a9, a10⟩ ∧ ∀ j (hj : j < ul.length), w2.cell? ⟨gB, j, none⟩ = some (.int .u8 (ul[j].toNat : Int)))) := by
        rintro w1 w2 hb ⟨q1, q2, q3, q4⟩
        exact ⟨q1.later hb, q2.later hb, q3.later hb, fun j hj => (hb.cell (p := ⟨gB, j, none⟩) (World.block_lt_of_cell? w1 _ (q4 j hj))).trans (q4 j hj)⟩
      have CV : Hid (∀ (w1 : World), (∀ j (hj : j < ul.length), w1.cell? ⟨gB, j, none⟩ = some (.int .u8 (ul[j].toNat : Int))) → (convert 33 9 (.slice (some ⟨gB, 0, none⟩) ps.size cap)).run Tryd.prog w1 = .ok (.string (str ul)) w1) := by
        intro w1 h
        have := run_convert_bytes_back (P := Tryd.prog) w1 33 9 5 ⟨gB, 0, none⟩ cap ul Tryd.underlying33 Tryd.underlying5 Tryd.underlying9 (fun j hj => by rw [Addr.add_lit, Nat.zero_add]; exact h j hj)
        rw [hpsz] at this
        exact this
      generalize str ul = sG at *
      have KEY : Hid (∀ w', (CAt w' gz ⟨m0, m1, m2, m3, m4, m5, m6, m7, m8, m9, m10⟩ ∧ CAt w' g ⟨m0, m1, m2, m3, m4, m5, m6, m7, m8, m9, m10⟩ ∧ CAt w' gx ⟨a0, a1, a2, a3, a4, a5, a6, a7, a8, a9, a10⟩ ∧ ∀ j (hj : j < ul.length), w'.cell? ⟨gB, j, none⟩ = some (.int .u8 (ul[j].toNat : Int))) → (w'.cell? ⟨gz, 0, none⟩ = some (.bool m0) ∧ w'.cell? ⟨gz, 1, none⟩ = some (.bool m1) ∧ w'.cell? ⟨gz, 2, none⟩ = some (.bool m2) ∧ w'.cell? ⟨gz, 3, none⟩ = some (.bool m3) ∧ w'.cell? ⟨gz, 4, none⟩ = some (.bool m4) ∧ w'.cell? ⟨gz, 5, none⟩ = some (.bool m5) ∧ w'.cell? ⟨gz, 6, none⟩ = some (.bool m6) ∧ w'.cell? ⟨gz, 7, none⟩ = some (.int .i64 m7) ∧ w'.cell? ⟨gz, 8, none⟩ = some (.int .i64 m8) ∧ w'.cell? ⟨gz, 9, none⟩ = some (.int .i64 m9) ∧ w'.cell? ⟨gz, 10, none⟩ = some (.int .i64 m10) ∧ w'.cell? ⟨g, 0, none⟩ = some (.bool m0) ∧ w'.cell? ⟨g, 1, none⟩ = some (.bool m1) ∧ w'.cell? ⟨g, 2, none⟩ = some (.bool m2) ∧ w'.cell? ⟨g, 3, none⟩ = some (.bool m3) ∧ w'.cell? ⟨g, 4, none⟩ = some (.bool m4) ∧ w'.cell? ⟨g, 5, none⟩ = some (.bool m5) ∧ w'.cell? ⟨g, 6, none⟩ = some (.bool m6) ∧ w'.cell? ⟨g, 7, none⟩ = some (.int .i64 m7) ∧ w'.cell? ⟨g, 8, none⟩ = some (.int .i64 m8) ∧ w'.cell? ⟨g, 9, none⟩ = some (.int .i64 m9) ∧ w'.cell? ⟨g, 10, none⟩ = some (.int .i64 m10) ∧ w'.cell? ⟨gx, 0, none⟩ = some (.bool a0) ∧ w'.cell? ⟨gx, 1, none⟩ = some (.bool a1) ∧ w'.cell? ⟨gx, 2, none⟩ = some (.bool a2) ∧ w'.cell? ⟨gx, 3, none⟩ = some (.bool a3) ∧ w'.cell? ⟨gx, 4, none⟩ = some (.bool a4) ∧ w'.cell? ⟨gx, 5, none⟩ = some (.bool a5) ∧ w'.cell? ⟨gx, 6, none⟩ = some (.bool a6) ∧ w'.cell? ⟨gx, 7, none⟩ = some (.int .i64 a7) ∧ w'.cell? ⟨gx, 8, none⟩ = some (.int .i64 a8) ∧ w'.cell? ⟨gx, 9, none⟩ = some (.int .i64 a9) ∧ w'.cell? ⟨gx, 10, none⟩ = some (.int .i64 a10) ∧ (convert 33 9 (.slice (some ⟨gB, 0, none⟩) ps.size cap)).run Tryd.prog w' = .ok (.string sG) w')) := by
        rintro w' ⟨h, h', h'', h4⟩
        obtain ⟨p0, p1, p2, p3, p4, p5, p6, p7, p8, p9, p10⟩ := h.cells
        obtain ⟨q0, q1, q2, q3, q4, q5, q6, q7, q8, q9, q10⟩ := h'.cells
        obtain ⟨r0, r1, r2, r3, r4, r5, r6, r7, r8, r9, r10⟩ := h''.cells
        exact ⟨p0, p1, p2, p3, p4, p5, p6, p7, p8, p9, p10, q0, q1, q2, q3, q4, q5, q6, q7, q8, q9, q10, r0, r1, r2, r3, r4, r5, r6, r7, r8, r9, r10, CV.out w' h4⟩
      have HB0 : Hid (Below w.heap.size w wo.drew) := Lib.hid hb.drew
      have hz1 : ¬ 9223372036854775807 < 3 + ps.size := by omega
      have hz2 : ¬ 9223372036854775807 < 3 + ps.size + 6 := by omega
      clear hR hX hG hZ hb CV hpsz
      go_upto_region 13 with fail
      go_region_held3 (fun w' => w'.cell? ⟨gz, 0, none⟩ = some (.bool m0) ∧ w'.cell? ⟨gz, 1, none⟩ = some (.bool m1) ∧ w'.cell? ⟨gz, 2, none⟩ = some (.bool m2) ∧ w'.cell? ⟨gz, 3, none⟩ = some (.bool m3) ∧ w'.cell? ⟨gz, 4, none⟩ = some (.bool m4) ∧ w'.cell? ⟨gz, 5, none⟩ = some (.bool m5) ∧ w'.cell? ⟨gz, 6, none⟩ = some (.bool m6) ∧ w'.cell? ⟨gz, 7, none⟩ = some (.int .i64 m7) ∧ w'.cell? ⟨gz, 8, none⟩ = some (.int .i64 m8) ∧ w'.cell? ⟨gz, 9, none⟩ = some (.int .i64 m9) ∧ w'.cell? ⟨gz, 10, none⟩ = some (.int .i64 m10) ∧ w'.cell? ⟨g, 0, none⟩ = some (.bool m0) ∧ w'.cell? ⟨g, 1, none⟩ = some (.bool m1) ∧ w'.cell? ⟨g, 2, none⟩ = some (.bool m2) ∧ w'.cell? ⟨g, 3, none⟩ = some (.bool m3) ∧ w'.cell? ⟨g, 4, none⟩ = some (.bool m4) ∧ w'.cell? ⟨g, 5, none⟩ = some (.bool m5) ∧ w'.cell? ⟨g, 6, none⟩ = some (.bool m6) ∧ w'.cell? ⟨g, 7, none⟩ = some (.int .i64 m7) ∧ w'.cell? ⟨g, 8, none⟩ = some (.int .i64 m8) ∧ w'.cell? ⟨g, 9, none⟩ = some (.int .i64 m9) ∧ w'.cell? ⟨g, 10, none⟩ = some (.int .i64 m10) ∧ w'.cell? ⟨gx, 0, none⟩ = some (.bool a0) ∧ w'.cell? ⟨gx, 1, none⟩ = some (.bool a1) ∧ w'.cell? ⟨gx, 2, none⟩ = some (.bool a2) ∧ w'.cell? ⟨gx, 3, none⟩ = some (.bool a3) ∧ w'.cell? ⟨gx, 4, none⟩ = some (.bool a4) ∧ w'.cell? ⟨gx, 5, none⟩ = some (.bool a5) ∧ w'.cell? ⟨gx, 6, none⟩ = some (.bool a6) ∧ w'.cell? ⟨gx, 7, none⟩ = some (.int .i64 a7) ∧ w'.cell? ⟨gx, 8, none⟩ = some (.int .i64 a8) ∧ w'.cell? ⟨gx, 9, none⟩ = some (.int .i64 a9) ∧ w'.cell? ⟨gx, 10, none⟩ = some (.int .i64 a10) ∧ (convert 33 9 (.slice (some ⟨gB, 0, none⟩) ps.size cap)).run Tryd.prog w' = .ok (.string sG) w')
        (first | exact KEY.out _ HP3.out | exact KEY.out _ HP2A.out | exact KEY.out _ HP2.out | exact KEY.out _ HP1.out | exact KEY.out _ HP0.out | exact KEY.out _ (LATER.out _ _ ((Below.refl _ _).alloc (Nat.le_refl _) _) HP2.out) | exact KEY.out _ (LATER.out _ _ ((Below.refl _ _).alloc (Nat.le_refl _) _) HP0.out))
        (first
          | (go_at_call 12; refine (cP _ HB1.out).mono ?_; rintro e W2 ⟨rfl, hb2⟩; have HP2 := Lib.hid (LATER.out _ _ hb2 HP1.out); have HB2 := Lib.hid (bt HB1.out hb2); clear hb2)
          | (go_at_call 9; refine (cR _ HB2.out).mono ?_; rintro e W3 ⟨rfl, hb3⟩; have HP3 := Lib.hid (LATER.out _ _ hb3 HP2.out); have HB3 := Lib.hid (bt HB2.out hb3); clear hb3)
          | (go_at_call 9; refine (cG _ HB0.out).mono ?_; rintro e W1 ⟨rfl, hb1⟩; have HP1 := Lib.hid (LATER.out _ _ hb1 HP0.out); have HB1 := Lib.hid (bt HB0.out hb1); clear hb1))
      all_goals
        go_wp2_with fail
        go_ret
        exact ⟨rfl, HB3.out⟩
end Go.Proofs.YtolhhejhjjiefaaDoor
