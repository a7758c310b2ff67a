/- The statements of layer 5: TargetOwn. -/
import Derived.Test.YtlikjfemkadciaaDoorTg15
import Derived.Deep.RegionHeld3
namespace Go.Proofs.YtlikjfemkadciaaDoor
open Go.RowKit

theorem heap_set_other (w : World) (a : Addr) (v : Value) (k : Nat) (h : k ≠ a.block) : (w.setCell a v).heap[k]? = w.heap[k]? := by
  have h2 : ¬ a.block = k := fun e => h e.symm
  simp [World.setCell, Array.getElem?_modify, h2]
theorem Res.set2 {w : World} {g : Nat} {W : World} {x y z : Value} (h : Res w g W x y z) (z' : Value) : Res w g (W.setCell ⟨g, 2, none⟩ z') x y z' :=
  ⟨by simp [World.setCell, Array.getElem?_modify, h.cell], h.below.setCell (p := ⟨g, 2, none⟩) h.ge z', h.ge⟩
theorem Res.other {w : World} {g g' : Nat} {W : World} {x y z : Value} (h : Res w g W x y z) (hg : w.heap.size ≤ g') (hne : g ≠ g') (v : Value) : Res w g (W.setCell ⟨g', 2, none⟩ v) x y z :=
  ⟨by rw [heap_set_other _ _ _ _ hne]; exact h.cell, h.below.setCell (p := ⟨g', 2, none⟩) hg v, h.ge⟩
theorem Res.free {w : World} {g : Nat} {W : World} {x y z : Value} (h : Res w g W x y z) : W.frozen? ⟨g, 2, none⟩ = false := by
  simp [World.frozen?, h.cell]
theorem Res.other3 {w : World} {g g' : Nat} {W : World} {x y z : Value} (h : Res w g W x y z) (hg : w.heap.size ≤ g') (hne : g ≠ g') (a b c : Value) : Res w g (((W.setCell ⟨g', 0, none⟩ a).setCell ⟨g', 1, none⟩ b).setCell ⟨g', 2, none⟩ c) x y z :=
  ⟨by rw [heap_set_other _ _ _ _ hne, heap_set_other _ _ _ _ hne, heap_set_other _ _ _ _ hne]; exact h.cell, ((h.below.setCell (p := ⟨g', 0, none⟩) hg a).setCell (p := ⟨g', 1, none⟩) hg b).setCell (p := ⟨g', 2, none⟩) hg c, h.ge⟩
theorem Res.freshly {w W W' : World} (h : Below w.heap.size w W) {x y z : Value} (hb : Below (W.alloc (.cells #[x, y, z] 24)).heap.size (W.alloc (.cells #[x, y, z] 24)) W') : Res w W.heap.size W' x y z :=
  (Res.fresh h x y z).later hb
theorem Res.frees {w : World} {g : Nat} {W : World} {x y z : Value} (h : Res w g W x y z) : W.frozen? ⟨g, 0, none⟩ = false ∧ W.frozen? ⟨g, 1, none⟩ = false ∧ W.frozen? ⟨g, 2, none⟩ = false := by
  simp [World.frozen?, h.cell]
theorem print_size (u : Tg.U) (h : Tg.Ok u) : (Tg.print u).length ≤ u.host.length + u.path.length + 13 := by
  have := (Tg.portT_of h.site.lo h.site.hi).2.2
  unfold Tg.print
  simp [Tg.httpT]
  omega

set_option maxHeartbeats 3200000 in
set_option maxRecDepth 100000 in
theorem own_no (l m : List UInt8) (w : World) (hl : l.length ≤ 2000) (hml : m.length ≤ 2000) (hm : MaxOk w) (hT : Tabs w) (he : (Tg.parse l).2 ≠ 0) :
    Calls Tryd.prog 4 #[.string (str l), .string (str m)] w fun e w' => e = .returned (.bool true) ∧ Below w.heap.size w w' := by
  have cA := fun (W : World) (hb : Below w.heap.size w W) => tawake_w W (hm.later hb) (hT.later hb)
  have cP := fun (W : World) (hb : Below w.heap.size w W) => Parse_s l W (by omega) (hm.later hb) (hT.later hb)
  have hls : ((str l).size : Int) ≤ 2000 := by rw [str_size]; omega
  have hms : ((str m).size : Int) ≤ 2000 := by rw [str_size]; omega
  obtain ⟨U, e, hpe⟩ : ∃ U e, Tg.parse l = (U, e) := ⟨_, _, rfl⟩
  rw [hpe] at he
  have be : (e == 0) = false := beq_eq_false_iff_ne.2 he
  rw [hpe, ures_mk] at cP
  clear hpe he hl hml hm hT
  generalize str l = s at *
  generalize str m = t at *
  generalize str U.host = HU at *
  generalize U.port = KU at *
  generalize str U.path = PU at *
  go_enter Tryd.func4, Tryd.ntmps4
  go_wp2_with fail
  refine (cA _ (Below.refl _ _)).mono ?_
  rintro e1 w1 ⟨rfl, hb1⟩
  go_wp2_with fail
  refine (cP _ hb1).mono ?_
  rintro e2 w2 ⟨rfl, hb2⟩
  have hU3 := Res.fresh (bt' hb1 hb2) (.string HU) (.int .i64 KU) (.string PU)
  clear cA cP hb1 hb2
  go_upto_region 4 with fail
  generalize w2.alloc (.cells #[.string HU, .int .i64 KU, .string PU] 24) = w3 at hU3 ⊢
  generalize w2.heap.size = gU at hU3 ⊢
  go_wp2_with fail
  go_ret
  exact ⟨rfl, hU3.below⟩

set_option maxHeartbeats 3200000 in
set_option maxRecDepth 100000 in
theorem own_two (l m : List UInt8) (w : World) (hl : l.length ≤ 2000) (hml : m.length ≤ 2000) (hm : MaxOk w) (hT : Tabs w) (he : (Tg.parse l).2 = 0) (r : List UInt8) (h2 : ∀ U, (Tg.parse l).1 = U → U.path = 47 :: 47 :: r) :
    Calls Tryd.prog 4 #[.string (str l), .string (str m)] w fun e w' => e = .returned (.bool true) ∧ Below w.heap.size w w' := by
  have cA := fun (W : World) (hb : Below w.heap.size w W) => tawake_w W (hm.later hb) (hT.later hb)
  have cP := fun (W : World) (hb : Below w.heap.size w W) => Parse_s l W (by omega) (hm.later hb) (hT.later hb)
  have hls : ((str l).size : Int) ≤ 2000 := by rw [str_size]; omega
  have hms : ((str m).size : Int) ≤ 2000 := by rw [str_size]; omega
  have hok := Tg.parse_ok he
  obtain ⟨U, hU⟩ : ∃ U, (Tg.parse l).1 = U := ⟨_, rfl⟩
  rw [hU] at hok
  have hpe : Tg.parse l = (U, 0) := Prod.ext hU he
  rw [hpe, ures_mk] at cP
  obtain ⟨hok, hpl, hpth⟩ := hok
  have hpb := print_bounds U
  have hkU := hok.site.hi
  have hri := Tg.right_of hok (by omega)
  have cPr := fun (W : World) (hb : Below w.heap.size w W) => Print_u U W (by omega) (by omega) (by omega) (hT.later hb)
  have cE := fun (W : World) (hb : Below w.heap.size w W) => Resolve_s U [] W (by omega) (by omega) (by omega) (by simp) (hm.later hb) (hT.later hb)
  rw [Tg.resolve_empty hri, ures_mk, show str [] = ⟨#[]⟩ from rfl] at cE
  have cOw := fun (W : World) (hb : Below w.heap.size w W) => Resolve_s U (Tg.print U) W (by omega) (by omega) (by omega) (by omega) (hm.later hb) (hT.later hb)
  rw [Tg.resolve_own hri, ures_mk] at cOw
  rw [uval_u] at cPr cE cOw
  generalize str (Tg.print U) = tU at *
  obtain ⟨pt, hpt⟩ := hok.head
  obtain ⟨c, hc⟩ : ∃ c : UInt8, c = 47 := ⟨_, rfl⟩
  have hpt0 : pt = c :: r := by
    have := h2 U hU
    rw [hpt] at this
    rw [hc]; exact (List.cons.inj this).2
  have h1s : 1 < (str U.path).size := by rw [str_size, hpt, hpt0]; simp
  have h1i : (1 : Int) < (str U.path).size := by omega
  have hix : (str U.path)[1]'h1s = c := by
    have : ∀ (x : ByteArray) (h : 1 < x.size), x = str (47 :: c :: r) → x[1]'h = c := by rintro x h rfl; rfl
    exact this _ h1s (by rw [hpt, hpt0])
  have i47 : (((str U.path)[1]'h1s).toNat : Int) = 47 := by rw [hix, hc]; rfl
  clear hix hc hpt0 h2
  clear hpe hl hml hm hT hpl hpth hpb hkU hri hok hU he hpt
  generalize str l = s at *
  generalize str m = t at *
  generalize str U.host = HU at *
  generalize U.port = KU at *
  generalize str U.path = PU at *
  go_enter Tryd.func4, Tryd.ntmps4
  go_wp2_with fail
  refine (cA _ (Below.refl _ _)).mono ?_
  rintro e1 w1 ⟨rfl, hb1⟩
  go_wp2_with fail
  refine (cP _ hb1).mono ?_
  rintro e2 w2 ⟨rfl, hb2⟩
  have hU3 := Res.fresh (bt' hb1 hb2) (.string HU) (.int .i64 KU) (.string PU)
  clear cA cP hb1 hb2
  go_upto_region 6 with fail
  generalize w2.alloc (.cells #[.string HU, .int .i64 KU, .string PU] 24) = w3 at hU3 ⊢
  generalize w2.heap.size = gU at hU3 ⊢
  go_wp2_with (refine ldU hU3.cell rfl (.tmp 5) rfl rfl ?_)
  refine (cE _ hU3.below).mono ?_
  rintro e3 w4 ⟨rfl, hb4⟩
  have hU4 := hU3.later hb4
  have hA5 := Res.fresh hU4.below (.string HU) (.int .i64 KU) (.string PU)
  have hU5 := hU4.alloc (.cells #[.string HU, .int .i64 KU, .string PU] 24)
  clear cE hU3 hU4 hb4
  go_upto_region 7 with fail
  generalize w4.alloc (.cells #[.string HU, .int .i64 KU, .string PU] 24) = w5 at hU5 hA5 ⊢
  generalize w4.heap.size = gA at hA5 ⊢
  go_cut [9, 10] (fun x9 x10 wx => ∃ g, x9 = .pointer (some ⟨g, 0, none⟩) ∧ x10 = .int .i64 0 ∧ Res w gU wx (.string HU) (.int .i64 KU) (.string PU) ∧ Res w gA wx (.string HU) (.int .i64 KU) (.string PU) ∧ Res w g wx (.string HU) (.int .i64 KU) (.string PU))
  case first =>
    have KEY := Lib.hid (fun (w' : World) (h : Res w gU w' (.string HU) (.int .i64 KU) (.string PU)) => box_cell h.cell)
    have HU5 := Lib.hid (hU5.later (Below.refl _ w5).drew)
    have HA5 := Lib.hid (hA5.later (Below.refl _ w5).drew)
    clear hU5 hA5
    go_region_held3 (fun w' => w'.cell? ⟨gU, 0, none⟩ = some (.string HU) ∧ w'.cell? ⟨gU, 1, none⟩ = some (.int .i64 KU) ∧ w'.cell? ⟨gU, 2, none⟩ = some (.string PU))
      (first | exact KEY.out _ HU5.out | exact KEY.out _ (HU5.out.alloc _) | exact KEY.out _ HU6.out | exact KEY.out _ (HU6.out.alloc _) | exact KEY.out _ HU7.out | exact KEY.out _ (HU7.out.alloc _) | exact KEY.out _ (HU7.out.other3 HN7.out.ge HNE.out _ _ _))
      (first
        | (go_at_call 8; refine (cPr _ HU5.out.below).mono ?_; rintro e w6 ⟨rfl, hb6⟩; have HU6 := Lib.hid (HU5.out.later hb6); have HA6 := Lib.hid (HA5.out.later hb6); clear hb6)
        | (go_at_call 8; refine (cPr _ (HU5.out.alloc _).below).mono ?_; rintro e w6 ⟨rfl, hb6⟩; have HU6 := Lib.hid ((HU5.out.alloc _).later hb6); have HA6 := Lib.hid ((HA5.out.alloc _).later hb6); have HN6 : Hid (Res w w5.heap.size w6 (.string ⟨#[]⟩) (.int .i64 0) (.string ⟨#[]⟩)) := Lib.hid (Res.freshly HU5.out.below hb6); have HNE : Hid (gU ≠ w5.heap.size) := Lib.hid (Nat.ne_of_lt (lt_of_block HU5.out.cell)); have HNA : Hid (gA ≠ w5.heap.size) := Lib.hid (Nat.ne_of_lt (lt_of_block HA5.out.cell)); clear hb6)
        | (go_at_call 10; refine (cOw _ (HU6.out.alloc _).below).mono ?_; rintro e w7 ⟨rfl, hb7⟩; have HU7 := Lib.hid ((HU6.out.alloc _).later hb7); have HA7 := Lib.hid ((HA6.out.alloc _).later hb7); have HN7 : Hid (Res w w6.heap.size w7 (.string ⟨#[]⟩) (.int .i64 0) (.string ⟨#[]⟩)) := Lib.hid (Res.freshly HU6.out.below hb7); have HNE : Hid (gU ≠ w6.heap.size) := Lib.hid (Nat.ne_of_lt (lt_of_block HU6.out.cell)); have HNA : Hid (gA ≠ w6.heap.size) := Lib.hid (Nat.ne_of_lt (lt_of_block HA6.out.cell)); clear hb7; obtain ⟨n0, n1, n2⟩ := box_cell HN7.out.cell; obtain ⟨m0, m1, m2⟩ := HN7.out.frees)
        | (go_at_call 10; refine (cOw _ HU6.out.below).mono ?_; rintro e w7 ⟨rfl, hb7⟩; have HU7 := Lib.hid (HU6.out.later hb7); have HA7 := Lib.hid (HA6.out.later hb7); have HN7 := Lib.hid (HN6.out.later hb7); clear hb7; obtain ⟨n0, n1, n2⟩ := box_cell HN7.out.cell; obtain ⟨m0, m1, m2⟩ := HN7.out.frees)
        | (go_at_call 10; refine (cOw _ HU6.out.below).mono ?_; rintro e w7 ⟨rfl, hb7⟩; have HU7 := Lib.hid (HU6.out.later hb7); have HA7 := Lib.hid (HA6.out.later hb7); clear hb7))
    · go_wp2_with fail
      go_meet
      case rel => exact ⟨_, rfl, rfl, HU7.out.alloc _, HA7.out.alloc _, Res.fresh HU7.out.below _ _ _⟩
    · go_wp2_with fail
      go_meet
      case rel => exact ⟨_, rfl, rfl, HU7.out.other3 HN7.out.ge HNE.out _ _ _, HA7.out.other3 HN7.out.ge HNA.out _ _ _, HN7.out.set _ _ _⟩
    · go_wp2_with fail
      go_meet
      case rel => exact ⟨_, rfl, rfl, HU7.out.other3 HN7.out.ge HNE.out _ _ _, HA7.out.other3 HN7.out.ge HNA.out _ _ _, HN7.out.set _ _ _⟩
  case rest =>
  obtain ⟨gB, hx9, hx10, hU7, hA7, hB7⟩ := hcut
  subst hx9 hx10
  clear hU5 hA5 cPr cOw
  have hV8 := Res.fresh hU7.below (.string HU) (.int .i64 KU) (.string PU)
  have hU8 := hU7.alloc (.cells #[.string HU, .int .i64 KU, .string PU] 24)
  have hA8 := hA7.alloc (.cells #[.string HU, .int .i64 KU, .string PU] 24)
  have hB8 := hB7.alloc (.cells #[.string HU, .int .i64 KU, .string PU] 24)
  have nU : gU ≠ wc.heap.size := Nat.ne_of_lt (lt_of_block hU7.cell)
  have nA : gA ≠ wc.heap.size := Nat.ne_of_lt (lt_of_block hA7.cell)
  have nB : gB ≠ wc.heap.size := Nat.ne_of_lt (lt_of_block hB7.cell)
  obtain ⟨q0, q1, q2⟩ := box_cell hU7.cell
  clear hA7 hB7
  go_upto_region 9 with (refine ldU hU7.cell rfl (.tmp 5) rfl rfl ?_)
  clear hU7 q0 q1 q2
  generalize wc.alloc (.cells #[.string HU, .int .i64 KU, .string PU] 24) = w8 at hU8 hA8 hB8 hV8 ⊢
  generalize wc.heap.size = gV at hV8 nU nA nB ⊢
  obtain ⟨q0, q1, q2⟩ := box_cell hV8.cell
  have qf := hV8.free
  have hV9 := hV8.set2 (.string ⟨#[47, 122, 122, 57, 47, 121, 63, 122]⟩)
  have hU9 := hU8.other hV8.ge nU (.string ⟨#[47, 122, 122, 57, 47, 121, 63, 122]⟩)
  have hA9 := hA8.other hV8.ge nA (.string ⟨#[47, 122, 122, 57, 47, 121, 63, 122]⟩)
  have hB9 := hB8.other hV8.ge nB (.string ⟨#[47, 122, 122, 57, 47, 121, 63, 122]⟩)
  clear hU8 hA8 hB8 hV8 nU nA nB
  go_upto_region 10 with fail
  generalize w8.setCell ⟨gV, 2, none⟩ (.string ⟨#[47, 122, 122, 57, 47, 121, 63, 122]⟩) = w9 at hU9 hA9 hB9 hV9 ⊢
  clear q0 q1 q2 qf
  obtain ⟨u0, u1, u2⟩ := box_cell hU9.cell
  obtain ⟨a0, a1, a2⟩ := box_cell hA9.cell
  obtain ⟨b0, b1, b2⟩ := box_cell hB9.cell
  have hB := hU9.below
  clear hU9 hA9 hB9 hV9
  go_wp2_with fail
  go_ret
  exact ⟨rfl, hB⟩

set_option maxHeartbeats 3200000 in
set_option maxRecDepth 100000 in
theorem own_one0 (l m : List UInt8) (w : World) (hl : l.length ≤ 2000) (hml : m.length ≤ 2000) (hm : MaxOk w) (hT : Tabs w) (he : (Tg.parse l).2 = 0) (hi : (Tg.parse m).2 = 0) (h2 : ∀ U, (Tg.parse l).1 = U → U.path = [47]) :
    Calls Tryd.prog 4 #[.string (str l), .string (str m)] w fun e w' => e = .returned (.bool true) ∧ Below w.heap.size w w' := by
  have cA := fun (W : World) (hb : Below w.heap.size w W) => tawake_w W (hm.later hb) (hT.later hb)
  have cP := fun (W : World) (hb : Below w.heap.size w W) => Parse_s l W (by omega) (hm.later hb) (hT.later hb)
  have hls : ((str l).size : Int) ≤ 2000 := by rw [str_size]; omega
  have hms : ((str m).size : Int) ≤ 2000 := by rw [str_size]; omega
  have hok := Tg.parse_ok he
  obtain ⟨U, hU⟩ : ∃ U, (Tg.parse l).1 = U := ⟨_, rfl⟩
  rw [hU] at hok
  have hpe : Tg.parse l = (U, 0) := Prod.ext hU he
  rw [hpe, ures_mk] at cP
  obtain ⟨hok, hpl, hpth⟩ := hok
  have hpb := print_bounds U
  have hkU := hok.site.hi
  have hri := Tg.right_of hok (by omega)
  have cPr := fun (W : World) (hb : Below w.heap.size w W) => Print_u U W (by omega) (by omega) (by omega) (hT.later hb)
  have cE := fun (W : World) (hb : Below w.heap.size w W) => Resolve_s U [] W (by omega) (by omega) (by omega) (by simp) (hm.later hb) (hT.later hb)
  rw [Tg.resolve_empty hri, ures_mk, show str [] = ⟨#[]⟩ from rfl] at cE
  have cOw := fun (W : World) (hb : Below w.heap.size w W) => Resolve_s U (Tg.print U) W (by omega) (by omega) (by omega) (by omega) (hm.later hb) (hT.later hb)
  rw [Tg.resolve_own hri, ures_mk] at cOw
  rw [uval_u] at cPr cE cOw
  generalize str (Tg.print U) = tU at *
  obtain ⟨pt, hpt⟩ := hok.head
  have hpt0 : pt = [] := by
    have := h2 U hU
    rw [hpt] at this
    exact (List.cons.inj this).2
  have hz1 : (str U.path).size = 1 := by rw [str_size, hpt, hpt0]; rfl
  have hz1i : ¬ ((1 : Int) < (str U.path).size) := by omega
  have hokz := Tg.ok_zz hok
  have hpz := print_size _ hokz
  have hriz := Tg.right_of hokz (by simp only [List.length_cons, List.length_nil] at hpz; omega)
  have cV := fun (W : World) (hb : Below w.heap.size w W) => Resolve_s ⟨U.host, U.port, [47, 122, 122, 57, 47, 121, 63, 122]⟩ U.path W (by simp only []; omega) (by simp) (by simp only []; omega) (by omega) (hm.later hb) (hT.later hb)
  rw [Tg.resolve_path hok hriz rfl rfl (by omega) (by rw [hpt]; rw [hpt0]; decide), ures_mk, uval_mk, show str [47, 122, 122, 57, 47, 121, 63, 122] = ⟨#[47, 122, 122, 57, 47, 121, 63, 122]⟩ from rfl] at cV
  have cT := fun (W : World) (hb : Below w.heap.size w W) => Parse_s m W (by omega) (hm.later hb) (hT.later hb)
  have cX := fun (W : World) (hb : Below w.heap.size w W) => Resolve_s U m W (by omega) (by omega) (by omega) (by omega) (hm.later hb) (hT.later hb)
  rw [uval_u] at cX
  obtain ⟨D, hD⟩ : ∃ D, (Tg.parse m).1 = D := ⟨_, rfl⟩
  have hpd : Tg.parse m = (D, 0) := Prod.ext hD hi
  rw [hpd, ures_mk] at cT
  rw [Tg.resolve_http hri (Tg.parse_http hi), hpd, ures_mk] at cX
  clear hpt0 h2 hokz hpz hriz hi hpd hD
  clear hpe hl hml hm hT hpl hpth hpb hkU hri hok hU he hpt
  generalize str l = s at *
  generalize str m = t at *
  generalize str U.host = HU at *
  generalize U.port = KU at *
  generalize str U.path = PU at *
  generalize str D.host = HD at *
  generalize D.port = KD at *
  generalize str D.path = PD at *
  go_enter Tryd.func4, Tryd.ntmps4
  go_wp2_with fail
  refine (cA _ (Below.refl _ _)).mono ?_
  rintro e1 w1 ⟨rfl, hb1⟩
  go_wp2_with fail
  refine (cP _ hb1).mono ?_
  rintro e2 w2 ⟨rfl, hb2⟩
  have hU3 := Res.fresh (bt' hb1 hb2) (.string HU) (.int .i64 KU) (.string PU)
  clear cA cP hb1 hb2
  go_upto_region 6 with fail
  generalize w2.alloc (.cells #[.string HU, .int .i64 KU, .string PU] 24) = w3 at hU3 ⊢
  generalize w2.heap.size = gU at hU3 ⊢
  go_wp2_with (refine ldU hU3.cell rfl (.tmp 5) rfl rfl ?_)
  refine (cE _ hU3.below).mono ?_
  rintro e3 w4 ⟨rfl, hb4⟩
  have hU4 := hU3.later hb4
  have hA5 := Res.fresh hU4.below (.string HU) (.int .i64 KU) (.string PU)
  have hU5 := hU4.alloc (.cells #[.string HU, .int .i64 KU, .string PU] 24)
  clear cE hU3 hU4 hb4
  go_upto_region 7 with fail
  generalize w4.alloc (.cells #[.string HU, .int .i64 KU, .string PU] 24) = w5 at hU5 hA5 ⊢
  generalize w4.heap.size = gA at hA5 ⊢
  go_cut [9, 10] (fun x9 x10 wx => ∃ g, x9 = .pointer (some ⟨g, 0, none⟩) ∧ x10 = .int .i64 0 ∧ Res w gU wx (.string HU) (.int .i64 KU) (.string PU) ∧ Res w gA wx (.string HU) (.int .i64 KU) (.string PU) ∧ Res w g wx (.string HU) (.int .i64 KU) (.string PU))
  case first =>
    have KEY := Lib.hid (fun (w' : World) (h : Res w gU w' (.string HU) (.int .i64 KU) (.string PU)) => box_cell h.cell)
    have HU5 := Lib.hid (hU5.later (Below.refl _ w5).drew)
    have HA5 := Lib.hid (hA5.later (Below.refl _ w5).drew)
    clear hU5 hA5
    go_region_held3 (fun w' => w'.cell? ⟨gU, 0, none⟩ = some (.string HU) ∧ w'.cell? ⟨gU, 1, none⟩ = some (.int .i64 KU) ∧ w'.cell? ⟨gU, 2, none⟩ = some (.string PU))
      (first | exact KEY.out _ HU5.out | exact KEY.out _ (HU5.out.alloc _) | exact KEY.out _ HU6.out | exact KEY.out _ (HU6.out.alloc _) | exact KEY.out _ HU7.out | exact KEY.out _ (HU7.out.alloc _) | exact KEY.out _ (HU7.out.other3 HN7.out.ge HNE.out _ _ _))
      (first
        | (go_at_call 8; refine (cPr _ HU5.out.below).mono ?_; rintro e w6 ⟨rfl, hb6⟩; have HU6 := Lib.hid (HU5.out.later hb6); have HA6 := Lib.hid (HA5.out.later hb6); clear hb6)
        | (go_at_call 8; refine (cPr _ (HU5.out.alloc _).below).mono ?_; rintro e w6 ⟨rfl, hb6⟩; have HU6 := Lib.hid ((HU5.out.alloc _).later hb6); have HA6 := Lib.hid ((HA5.out.alloc _).later hb6); have HN6 : Hid (Res w w5.heap.size w6 (.string ⟨#[]⟩) (.int .i64 0) (.string ⟨#[]⟩)) := Lib.hid (Res.freshly HU5.out.below hb6); have HNE : Hid (gU ≠ w5.heap.size) := Lib.hid (Nat.ne_of_lt (lt_of_block HU5.out.cell)); have HNA : Hid (gA ≠ w5.heap.size) := Lib.hid (Nat.ne_of_lt (lt_of_block HA5.out.cell)); clear hb6)
        | (go_at_call 10; refine (cOw _ (HU6.out.alloc _).below).mono ?_; rintro e w7 ⟨rfl, hb7⟩; have HU7 := Lib.hid ((HU6.out.alloc _).later hb7); have HA7 := Lib.hid ((HA6.out.alloc _).later hb7); have HN7 : Hid (Res w w6.heap.size w7 (.string ⟨#[]⟩) (.int .i64 0) (.string ⟨#[]⟩)) := Lib.hid (Res.freshly HU6.out.below hb7); have HNE : Hid (gU ≠ w6.heap.size) := Lib.hid (Nat.ne_of_lt (lt_of_block HU6.out.cell)); have HNA : Hid (gA ≠ w6.heap.size) := Lib.hid (Nat.ne_of_lt (lt_of_block HA6.out.cell)); clear hb7; obtain ⟨n0, n1, n2⟩ := box_cell HN7.out.cell; obtain ⟨m0, m1, m2⟩ := HN7.out.frees)
        | (go_at_call 10; refine (cOw _ HU6.out.below).mono ?_; rintro e w7 ⟨rfl, hb7⟩; have HU7 := Lib.hid (HU6.out.later hb7); have HA7 := Lib.hid (HA6.out.later hb7); have HN7 := Lib.hid (HN6.out.later hb7); clear hb7; obtain ⟨n0, n1, n2⟩ := box_cell HN7.out.cell; obtain ⟨m0, m1, m2⟩ := HN7.out.frees)
        | (go_at_call 10; refine (cOw _ HU6.out.below).mono ?_; rintro e w7 ⟨rfl, hb7⟩; have HU7 := Lib.hid (HU6.out.later hb7); have HA7 := Lib.hid (HA6.out.later hb7); clear hb7))
    · go_wp2_with fail
      go_meet
      case rel => exact ⟨_, rfl, rfl, HU7.out.alloc _, HA7.out.alloc _, Res.fresh HU7.out.below _ _ _⟩
    · go_wp2_with fail
      go_meet
      case rel => exact ⟨_, rfl, rfl, HU7.out.other3 HN7.out.ge HNE.out _ _ _, HA7.out.other3 HN7.out.ge HNA.out _ _ _, HN7.out.set _ _ _⟩
    · go_wp2_with fail
      go_meet
      case rel => exact ⟨_, rfl, rfl, HU7.out.other3 HN7.out.ge HNE.out _ _ _, HA7.out.other3 HN7.out.ge HNA.out _ _ _, HN7.out.set _ _ _⟩
  case rest =>
  obtain ⟨gB, hx9, hx10, hU7, hA7, hB7⟩ := hcut
  subst hx9 hx10
  clear hU5 hA5 cPr cOw
  have hV8 := Res.fresh hU7.below (.string HU) (.int .i64 KU) (.string PU)
  have hU8 := hU7.alloc (.cells #[.string HU, .int .i64 KU, .string PU] 24)
  have hA8 := hA7.alloc (.cells #[.string HU, .int .i64 KU, .string PU] 24)
  have hB8 := hB7.alloc (.cells #[.string HU, .int .i64 KU, .string PU] 24)
  have nU : gU ≠ wc.heap.size := Nat.ne_of_lt (lt_of_block hU7.cell)
  have nA : gA ≠ wc.heap.size := Nat.ne_of_lt (lt_of_block hA7.cell)
  have nB : gB ≠ wc.heap.size := Nat.ne_of_lt (lt_of_block hB7.cell)
  obtain ⟨q0, q1, q2⟩ := box_cell hU7.cell
  clear hA7 hB7
  go_upto_region 9 with (refine ldU hU7.cell rfl (.tmp 5) rfl rfl ?_)
  clear hU7 q0 q1 q2
  generalize wc.alloc (.cells #[.string HU, .int .i64 KU, .string PU] 24) = w8 at hU8 hA8 hB8 hV8 ⊢
  generalize wc.heap.size = gV at hV8 nU nA nB ⊢
  obtain ⟨q0, q1, q2⟩ := box_cell hV8.cell
  have qf := hV8.free
  have hV9 := hV8.set2 (.string ⟨#[47, 122, 122, 57, 47, 121, 63, 122]⟩)
  have hU9 := hU8.other hV8.ge nU (.string ⟨#[47, 122, 122, 57, 47, 121, 63, 122]⟩)
  have hA9 := hA8.other hV8.ge nA (.string ⟨#[47, 122, 122, 57, 47, 121, 63, 122]⟩)
  have hB9 := hB8.other hV8.ge nB (.string ⟨#[47, 122, 122, 57, 47, 121, 63, 122]⟩)
  clear hU8 hA8 hB8 hV8 nU nA nB
  go_upto_region 10 with fail
  generalize w8.setCell ⟨gV, 2, none⟩ (.string ⟨#[47, 122, 122, 57, 47, 121, 63, 122]⟩) = w9 at hU9 hA9 hB9 hV9 ⊢
  clear q0 q1 q2 qf
  obtain ⟨u0, u1, u2⟩ := box_cell hU9.cell
  go_upto_region 12 with fail
  go_wp2_with (refine ldU hV9.cell rfl (.tmp 11) rfl rfl ?_)
  refine (cV _ hU9.below).mono ?_
  rintro e10 wa ⟨rfl, hba⟩
  have hUa := hU9.later hba
  have hAa := hA9.later hba
  have hBa := hB9.later hba
  clear u0 u1 u2 hU9 hA9 hB9 hV9 hba cV
  have hCb := Res.fresh hUa.below (.string HU) (.int .i64 KU) (.string PU)
  have hUb := hUa.alloc (.cells #[.string HU, .int .i64 KU, .string PU] 24)
  have hAb := hAa.alloc (.cells #[.string HU, .int .i64 KU, .string PU] 24)
  have hBb := hBa.alloc (.cells #[.string HU, .int .i64 KU, .string PU] 24)
  clear hUa hAa hBa
  go_upto_region 13 with fail
  generalize wa.alloc (.cells #[.string HU, .int .i64 KU, .string PU] 24) = wb at hUb hAb hBb hCb ⊢
  generalize wa.heap.size = gC at hCb ⊢
  go_wp2_with fail
  refine (cT _ hUb.below).mono ?_
  rintro e11 wc ⟨rfl, hbc⟩
  have hUc := hUb.later hbc
  have hDd := Res.fresh hUc.below (.string HD) (.int .i64 KD) (.string PD)
  have hUd := hUc.alloc (.cells #[.string HD, .int .i64 KD, .string PD] 24)
  have hAd := (hAb.later hbc).alloc (.cells #[.string HD, .int .i64 KD, .string PD] 24)
  have hBd := (hBb.later hbc).alloc (.cells #[.string HD, .int .i64 KD, .string PD] 24)
  have hCd := (hCb.later hbc).alloc (.cells #[.string HD, .int .i64 KD, .string PD] 24)
  clear hUb hAb hBb hCb hbc cT hUc
  go_upto_region 14 with fail
  generalize wc.alloc (.cells #[.string HD, .int .i64 KD, .string PD] 24) = wd at hUd hAd hBd hCd hDd ⊢
  generalize wc.heap.size = gD at hDd ⊢
  go_wp2_with (refine ldU hUd.cell rfl (.tmp 5) rfl rfl ?_)
  refine (cX _ hUd.below).mono ?_
  rintro e12 we ⟨rfl, hbe⟩
  have hUe := hUd.later hbe
  have hXf := Res.fresh hUe.below (.string HD) (.int .i64 KD) (.string PD)
  have hUf := hUe.alloc (.cells #[.string HD, .int .i64 KD, .string PD] 24)
  have hAf := (hAd.later hbe).alloc (.cells #[.string HD, .int .i64 KD, .string PD] 24)
  have hBf := (hBd.later hbe).alloc (.cells #[.string HD, .int .i64 KD, .string PD] 24)
  have hCf := (hCd.later hbe).alloc (.cells #[.string HD, .int .i64 KD, .string PD] 24)
  have hDf := (hDd.later hbe).alloc (.cells #[.string HD, .int .i64 KD, .string PD] 24)
  clear hUd hAd hBd hCd hDd hbe cX hUe
  go_upto_region 15 with fail
  generalize we.alloc (.cells #[.string HD, .int .i64 KD, .string PD] 24) = wf at hUf hAf hBf hCf hDf hXf ⊢
  generalize we.heap.size = gX at hXf ⊢
  obtain ⟨u0, u1, u2⟩ := box_cell hUf.cell
  obtain ⟨a0, a1, a2⟩ := box_cell hAf.cell
  obtain ⟨b0, b1, b2⟩ := box_cell hBf.cell
  obtain ⟨c0, c1, c2⟩ := box_cell hCf.cell
  obtain ⟨d0, d1, d2⟩ := box_cell hDf.cell
  obtain ⟨x0, x1, x2⟩ := box_cell hXf.cell
  have hB := hUf.below
  clear hUf hAf hBf hCf hDf hXf
  go_wp2_with fail
  go_ret
  exact ⟨rfl, hB⟩

set_option maxHeartbeats 3200000 in
set_option maxRecDepth 100000 in
theorem own_one1 (l m : List UInt8) (w : World) (hl : l.length ≤ 2000) (hml : m.length ≤ 2000) (hm : MaxOk w) (hT : Tabs w) (he : (Tg.parse l).2 = 0) (hi : (Tg.parse m).2 ≠ 0) (h2 : ∀ U, (Tg.parse l).1 = U → U.path = [47]) :
    Calls Tryd.prog 4 #[.string (str l), .string (str m)] w fun e w' => e = .returned (.bool true) ∧ Below w.heap.size w w' := by
  have cA := fun (W : World) (hb : Below w.heap.size w W) => tawake_w W (hm.later hb) (hT.later hb)
  have cP := fun (W : World) (hb : Below w.heap.size w W) => Parse_s l W (by omega) (hm.later hb) (hT.later hb)
  have hls : ((str l).size : Int) ≤ 2000 := by rw [str_size]; omega
  have hms : ((str m).size : Int) ≤ 2000 := by rw [str_size]; omega
  have hok := Tg.parse_ok he
  obtain ⟨U, hU⟩ : ∃ U, (Tg.parse l).1 = U := ⟨_, rfl⟩
  rw [hU] at hok
  have hpe : Tg.parse l = (U, 0) := Prod.ext hU he
  rw [hpe, ures_mk] at cP
  obtain ⟨hok, hpl, hpth⟩ := hok
  have hpb := print_bounds U
  have hkU := hok.site.hi
  have hri := Tg.right_of hok (by omega)
  have cPr := fun (W : World) (hb : Below w.heap.size w W) => Print_u U W (by omega) (by omega) (by omega) (hT.later hb)
  have cE := fun (W : World) (hb : Below w.heap.size w W) => Resolve_s U [] W (by omega) (by omega) (by omega) (by simp) (hm.later hb) (hT.later hb)
  rw [Tg.resolve_empty hri, ures_mk, show str [] = ⟨#[]⟩ from rfl] at cE
  have cOw := fun (W : World) (hb : Below w.heap.size w W) => Resolve_s U (Tg.print U) W (by omega) (by omega) (by omega) (by omega) (hm.later hb) (hT.later hb)
  rw [Tg.resolve_own hri, ures_mk] at cOw
  rw [uval_u] at cPr cE cOw
  generalize str (Tg.print U) = tU at *
  obtain ⟨pt, hpt⟩ := hok.head
  have hpt0 : pt = [] := by
    have := h2 U hU
    rw [hpt] at this
    exact (List.cons.inj this).2
  have hz1 : (str U.path).size = 1 := by rw [str_size, hpt, hpt0]; rfl
  have hz1i : ¬ ((1 : Int) < (str U.path).size) := by omega
  have hokz := Tg.ok_zz hok
  have hpz := print_size _ hokz
  have hriz := Tg.right_of hokz (by simp only [List.length_cons, List.length_nil] at hpz; omega)
  have cV := fun (W : World) (hb : Below w.heap.size w W) => Resolve_s ⟨U.host, U.port, [47, 122, 122, 57, 47, 121, 63, 122]⟩ U.path W (by simp only []; omega) (by simp) (by simp only []; omega) (by omega) (hm.later hb) (hT.later hb)
  rw [Tg.resolve_path hok hriz rfl rfl (by omega) (by rw [hpt]; rw [hpt0]; decide), ures_mk, uval_mk, show str [47, 122, 122, 57, 47, 121, 63, 122] = ⟨#[47, 122, 122, 57, 47, 121, 63, 122]⟩ from rfl] at cV
  have cT := fun (W : World) (hb : Below w.heap.size w W) => Parse_s m W (by omega) (hm.later hb) (hT.later hb)
  have cX := fun (W : World) (hb : Below w.heap.size w W) => Resolve_s U m W (by omega) (by omega) (by omega) (by omega) (hm.later hb) (hT.later hb)
  rw [uval_u] at cX
  obtain ⟨D, i, hpd⟩ : ∃ D i, Tg.parse m = (D, i) := ⟨_, _, rfl⟩
  rw [hpd] at hi
  have bi : (i == 0) = false := beq_eq_false_iff_ne.2 hi
  have hi : ¬ i = 0 := hi
  rw [hpd, ures_mk] at cT
  obtain ⟨X, j, hx⟩ : ∃ X j, Tg.resolve U m = (X, j) := ⟨_, _, rfl⟩
  rw [hx, ures_mk] at cX
  clear hpt0 h2 hokz hpz hriz hpd hx
  clear hpe hl hml hm hT hpl hpth hpb hkU hri hok hU he hpt
  generalize str l = s at *
  generalize str m = t at *
  generalize str U.host = HU at *
  generalize U.port = KU at *
  generalize str U.path = PU at *
  generalize str D.host = HD at *
  generalize D.port = KD at *
  generalize str D.path = PD at *
  generalize str X.host = HX at *
  generalize X.port = KX at *
  generalize str X.path = PX at *
  go_enter Tryd.func4, Tryd.ntmps4
  go_wp2_with fail
  refine (cA _ (Below.refl _ _)).mono ?_
  rintro e1 w1 ⟨rfl, hb1⟩
  go_wp2_with fail
  refine (cP _ hb1).mono ?_
  rintro e2 w2 ⟨rfl, hb2⟩
  have hU3 := Res.fresh (bt' hb1 hb2) (.string HU) (.int .i64 KU) (.string PU)
  clear cA cP hb1 hb2
  go_upto_region 6 with fail
  generalize w2.alloc (.cells #[.string HU, .int .i64 KU, .string PU] 24) = w3 at hU3 ⊢
  generalize w2.heap.size = gU at hU3 ⊢
  go_wp2_with (refine ldU hU3.cell rfl (.tmp 5) rfl rfl ?_)
  refine (cE _ hU3.below).mono ?_
  rintro e3 w4 ⟨rfl, hb4⟩
  have hU4 := hU3.later hb4
  have hA5 := Res.fresh hU4.below (.string HU) (.int .i64 KU) (.string PU)
  have hU5 := hU4.alloc (.cells #[.string HU, .int .i64 KU, .string PU] 24)
  clear cE hU3 hU4 hb4
  go_upto_region 7 with fail
  generalize w4.alloc (.cells #[.string HU, .int .i64 KU, .string PU] 24) = w5 at hU5 hA5 ⊢
  generalize w4.heap.size = gA at hA5 ⊢
  go_cut [9, 10] (fun x9 x10 wx => ∃ g, x9 = .pointer (some ⟨g, 0, none⟩) ∧ x10 = .int .i64 0 ∧ Res w gU wx (.string HU) (.int .i64 KU) (.string PU) ∧ Res w gA wx (.string HU) (.int .i64 KU) (.string PU) ∧ Res w g wx (.string HU) (.int .i64 KU) (.string PU))
  case first =>
    have KEY := Lib.hid (fun (w' : World) (h : Res w gU w' (.string HU) (.int .i64 KU) (.string PU)) => box_cell h.cell)
    have HU5 := Lib.hid (hU5.later (Below.refl _ w5).drew)
    have HA5 := Lib.hid (hA5.later (Below.refl _ w5).drew)
    clear hU5 hA5
    go_region_held3 (fun w' => w'.cell? ⟨gU, 0, none⟩ = some (.string HU) ∧ w'.cell? ⟨gU, 1, none⟩ = some (.int .i64 KU) ∧ w'.cell? ⟨gU, 2, none⟩ = some (.string PU))
      (first | exact KEY.out _ HU5.out | exact KEY.out _ (HU5.out.alloc _) | exact KEY.out _ HU6.out | exact KEY.out _ (HU6.out.alloc _) | exact KEY.out _ HU7.out | exact KEY.out _ (HU7.out.alloc _) | exact KEY.out _ (HU7.out.other3 HN7.out.ge HNE.out _ _ _))
      (first
        | (go_at_call 8; refine (cPr _ HU5.out.below).mono ?_; rintro e w6 ⟨rfl, hb6⟩; have HU6 := Lib.hid (HU5.out.later hb6); have HA6 := Lib.hid (HA5.out.later hb6); clear hb6)
        | (go_at_call 8; refine (cPr _ (HU5.out.alloc _).below).mono ?_; rintro e w6 ⟨rfl, hb6⟩; have HU6 := Lib.hid ((HU5.out.alloc _).later hb6); have HA6 := Lib.hid ((HA5.out.alloc _).later hb6); have HN6 : Hid (Res w w5.heap.size w6 (.string ⟨#[]⟩) (.int .i64 0) (.string ⟨#[]⟩)) := Lib.hid (Res.freshly HU5.out.below hb6); have HNE : Hid (gU ≠ w5.heap.size) := Lib.hid (Nat.ne_of_lt (lt_of_block HU5.out.cell)); have HNA : Hid (gA ≠ w5.heap.size) := Lib.hid (Nat.ne_of_lt (lt_of_block HA5.out.cell)); clear hb6)
        | (go_at_call 10; refine (cOw _ (HU6.out.alloc _).below).mono ?_; rintro e w7 ⟨rfl, hb7⟩; have HU7 := Lib.hid ((HU6.out.alloc _).later hb7); have HA7 := Lib.hid ((HA6.out.alloc _).later hb7); have HN7 : Hid (Res w w6.heap.size w7 (.string ⟨#[]⟩) (.int .i64 0) (.string ⟨#[]⟩)) := Lib.hid (Res.freshly HU6.out.below hb7); have HNE : Hid (gU ≠ w6.heap.size) := Lib.hid (Nat.ne_of_lt (lt_of_block HU6.out.cell)); have HNA : Hid (gA ≠ w6.heap.size) := Lib.hid (Nat.ne_of_lt (lt_of_block HA6.out.cell)); clear hb7; obtain ⟨n0, n1, n2⟩ := box_cell HN7.out.cell; obtain ⟨m0, m1, m2⟩ := HN7.out.frees)
        | (go_at_call 10; refine (cOw _ HU6.out.below).mono ?_; rintro e w7 ⟨rfl, hb7⟩; have HU7 := Lib.hid (HU6.out.later hb7); have HA7 := Lib.hid (HA6.out.later hb7); have HN7 := Lib.hid (HN6.out.later hb7); clear hb7; obtain ⟨n0, n1, n2⟩ := box_cell HN7.out.cell; obtain ⟨m0, m1, m2⟩ := HN7.out.frees)
        | (go_at_call 10; refine (cOw _ HU6.out.below).mono ?_; rintro e w7 ⟨rfl, hb7⟩; have HU7 := Lib.hid (HU6.out.later hb7); have HA7 := Lib.hid (HA6.out.later hb7); clear hb7))
    · go_wp2_with fail
      go_meet
      case rel => exact ⟨_, rfl, rfl, HU7.out.alloc _, HA7.out.alloc _, Res.fresh HU7.out.below _ _ _⟩
    · go_wp2_with fail
      go_meet
      case rel => exact ⟨_, rfl, rfl, HU7.out.other3 HN7.out.ge HNE.out _ _ _, HA7.out.other3 HN7.out.ge HNA.out _ _ _, HN7.out.set _ _ _⟩
    · go_wp2_with fail
      go_meet
      case rel => exact ⟨_, rfl, rfl, HU7.out.other3 HN7.out.ge HNE.out _ _ _, HA7.out.other3 HN7.out.ge HNA.out _ _ _, HN7.out.set _ _ _⟩
  case rest =>
  obtain ⟨gB, hx9, hx10, hU7, hA7, hB7⟩ := hcut
  subst hx9 hx10
  clear hU5 hA5 cPr cOw
  have hV8 := Res.fresh hU7.below (.string HU) (.int .i64 KU) (.string PU)
  have hU8 := hU7.alloc (.cells #[.string HU, .int .i64 KU, .string PU] 24)
  have hA8 := hA7.alloc (.cells #[.string HU, .int .i64 KU, .string PU] 24)
  have hB8 := hB7.alloc (.cells #[.string HU, .int .i64 KU, .string PU] 24)
  have nU : gU ≠ wc.heap.size := Nat.ne_of_lt (lt_of_block hU7.cell)
  have nA : gA ≠ wc.heap.size := Nat.ne_of_lt (lt_of_block hA7.cell)
  have nB : gB ≠ wc.heap.size := Nat.ne_of_lt (lt_of_block hB7.cell)
  obtain ⟨q0, q1, q2⟩ := box_cell hU7.cell
  clear hA7 hB7
  go_upto_region 9 with (refine ldU hU7.cell rfl (.tmp 5) rfl rfl ?_)
  clear hU7 q0 q1 q2
  generalize wc.alloc (.cells #[.string HU, .int .i64 KU, .string PU] 24) = w8 at hU8 hA8 hB8 hV8 ⊢
  generalize wc.heap.size = gV at hV8 nU nA nB ⊢
  obtain ⟨q0, q1, q2⟩ := box_cell hV8.cell
  have qf := hV8.free
  have hV9 := hV8.set2 (.string ⟨#[47, 122, 122, 57, 47, 121, 63, 122]⟩)
  have hU9 := hU8.other hV8.ge nU (.string ⟨#[47, 122, 122, 57, 47, 121, 63, 122]⟩)
  have hA9 := hA8.other hV8.ge nA (.string ⟨#[47, 122, 122, 57, 47, 121, 63, 122]⟩)
  have hB9 := hB8.other hV8.ge nB (.string ⟨#[47, 122, 122, 57, 47, 121, 63, 122]⟩)
  clear hU8 hA8 hB8 hV8 nU nA nB
  go_upto_region 10 with fail
  generalize w8.setCell ⟨gV, 2, none⟩ (.string ⟨#[47, 122, 122, 57, 47, 121, 63, 122]⟩) = w9 at hU9 hA9 hB9 hV9 ⊢
  clear q0 q1 q2 qf
  obtain ⟨u0, u1, u2⟩ := box_cell hU9.cell
  go_upto_region 12 with fail
  go_wp2_with (refine ldU hV9.cell rfl (.tmp 11) rfl rfl ?_)
  refine (cV _ hU9.below).mono ?_
  rintro e10 wa ⟨rfl, hba⟩
  have hUa := hU9.later hba
  have hAa := hA9.later hba
  have hBa := hB9.later hba
  clear u0 u1 u2 hU9 hA9 hB9 hV9 hba cV
  have hCb := Res.fresh hUa.below (.string HU) (.int .i64 KU) (.string PU)
  have hUb := hUa.alloc (.cells #[.string HU, .int .i64 KU, .string PU] 24)
  have hAb := hAa.alloc (.cells #[.string HU, .int .i64 KU, .string PU] 24)
  have hBb := hBa.alloc (.cells #[.string HU, .int .i64 KU, .string PU] 24)
  clear hUa hAa hBa
  go_upto_region 13 with fail
  generalize wa.alloc (.cells #[.string HU, .int .i64 KU, .string PU] 24) = wb at hUb hAb hBb hCb ⊢
  generalize wa.heap.size = gC at hCb ⊢
  go_wp2_with fail
  refine (cT _ hUb.below).mono ?_
  rintro e11 wc ⟨rfl, hbc⟩
  have hUc := hUb.later hbc
  have hDd := Res.fresh hUc.below (.string HD) (.int .i64 KD) (.string PD)
  have hUd := hUc.alloc (.cells #[.string HD, .int .i64 KD, .string PD] 24)
  have hAd := (hAb.later hbc).alloc (.cells #[.string HD, .int .i64 KD, .string PD] 24)
  have hBd := (hBb.later hbc).alloc (.cells #[.string HD, .int .i64 KD, .string PD] 24)
  have hCd := (hCb.later hbc).alloc (.cells #[.string HD, .int .i64 KD, .string PD] 24)
  clear hUb hAb hBb hCb hbc cT hUc
  go_upto_region 14 with fail
  generalize wc.alloc (.cells #[.string HD, .int .i64 KD, .string PD] 24) = wd at hUd hAd hBd hCd hDd ⊢
  generalize wc.heap.size = gD at hDd ⊢
  go_wp2_with (refine ldU hUd.cell rfl (.tmp 5) rfl rfl ?_)
  refine (cX _ hUd.below).mono ?_
  rintro e12 we ⟨rfl, hbe⟩
  have hUe := hUd.later hbe
  have hXf := Res.fresh hUe.below (.string HX) (.int .i64 KX) (.string PX)
  have hUf := hUe.alloc (.cells #[.string HX, .int .i64 KX, .string PX] 24)
  have hAf := (hAd.later hbe).alloc (.cells #[.string HX, .int .i64 KX, .string PX] 24)
  have hBf := (hBd.later hbe).alloc (.cells #[.string HX, .int .i64 KX, .string PX] 24)
  have hCf := (hCd.later hbe).alloc (.cells #[.string HX, .int .i64 KX, .string PX] 24)
  have hDf := (hDd.later hbe).alloc (.cells #[.string HX, .int .i64 KX, .string PX] 24)
  clear hUd hAd hBd hCd hDd hbe cX hUe
  go_upto_region 15 with fail
  generalize we.alloc (.cells #[.string HX, .int .i64 KX, .string PX] 24) = wf at hUf hAf hBf hCf hDf hXf ⊢
  generalize we.heap.size = gX at hXf ⊢
  obtain ⟨u0, u1, u2⟩ := box_cell hUf.cell
  obtain ⟨a0, a1, a2⟩ := box_cell hAf.cell
  obtain ⟨b0, b1, b2⟩ := box_cell hBf.cell
  obtain ⟨c0, c1, c2⟩ := box_cell hCf.cell
  obtain ⟨d0, d1, d2⟩ := box_cell hDf.cell
  obtain ⟨x0, x1, x2⟩ := box_cell hXf.cell
  have hB := hUf.below
  clear hUf hAf hBf hCf hDf hXf
  go_wp2_with fail
  go_ret
  exact ⟨rfl, hB⟩

set_option maxHeartbeats 3200000 in
set_option maxRecDepth 100000 in
theorem own_other0 (l m : List UInt8) (w : World) (hl : l.length ≤ 2000) (hml : m.length ≤ 2000) (hm : MaxOk w) (hT : Tabs w) (he : (Tg.parse l).2 = 0) (hi : (Tg.parse m).2 = 0) (c : UInt8) (r : List UInt8) (hc : ¬ c = 47) (h2 : ∀ U, (Tg.parse l).1 = U → U.path = 47 :: c :: r) :
    Calls Tryd.prog 4 #[.string (str l), .string (str m)] w fun e w' => e = .returned (.bool true) ∧ Below w.heap.size w w' := by
  have cA := fun (W : World) (hb : Below w.heap.size w W) => tawake_w W (hm.later hb) (hT.later hb)
  have cP := fun (W : World) (hb : Below w.heap.size w W) => Parse_s l W (by omega) (hm.later hb) (hT.later hb)
  have hls : ((str l).size : Int) ≤ 2000 := by rw [str_size]; omega
  have hms : ((str m).size : Int) ≤ 2000 := by rw [str_size]; omega
  have hok := Tg.parse_ok he
  obtain ⟨U, hU⟩ : ∃ U, (Tg.parse l).1 = U := ⟨_, rfl⟩
  rw [hU] at hok
  have hpe : Tg.parse l = (U, 0) := Prod.ext hU he
  rw [hpe, ures_mk] at cP
  obtain ⟨hok, hpl, hpth⟩ := hok
  have hpb := print_bounds U
  have hkU := hok.site.hi
  have hri := Tg.right_of hok (by omega)
  have cPr := fun (W : World) (hb : Below w.heap.size w W) => Print_u U W (by omega) (by omega) (by omega) (hT.later hb)
  have cE := fun (W : World) (hb : Below w.heap.size w W) => Resolve_s U [] W (by omega) (by omega) (by omega) (by simp) (hm.later hb) (hT.later hb)
  rw [Tg.resolve_empty hri, ures_mk, show str [] = ⟨#[]⟩ from rfl] at cE
  have cOw := fun (W : World) (hb : Below w.heap.size w W) => Resolve_s U (Tg.print U) W (by omega) (by omega) (by omega) (by omega) (hm.later hb) (hT.later hb)
  rw [Tg.resolve_own hri, ures_mk] at cOw
  rw [uval_u] at cPr cE cOw
  generalize str (Tg.print U) = tU at *
  obtain ⟨pt, hpt⟩ := hok.head
  have hpt0 : pt = c :: r := by
    have := h2 U hU
    rw [hpt] at this
    exact (List.cons.inj this).2
  have h1s : 1 < (str U.path).size := by rw [str_size, hpt, hpt0]; simp
  have h1i : (1 : Int) < (str U.path).size := by omega
  have hix : (str U.path)[1]'h1s = c := by
    have : ∀ (x : ByteArray) (h : 1 < x.size), x = str (47 :: c :: r) → x[1]'h = c := by rintro x h rfl; rfl
    exact this _ h1s (by rw [hpt, hpt0])
  have n47 : ¬ ((((str U.path)[1]'h1s).toNat : Int) = 47) := by
    rw [hix]
    intro e2; apply hc
    exact UInt8.toNat_inj.1 (by have : (47 : UInt8).toNat = 47 := rfl; omega)
  have b47 : ((((str U.path)[1]'h1s).toNat : Int) == 47) = false := beq_eq_false_iff_ne.2 n47
  have hokz := Tg.ok_zz hok
  have hpz := print_size _ hokz
  have hriz := Tg.right_of hokz (by simp only [List.length_cons, List.length_nil] at hpz; omega)
  have cV := fun (W : World) (hb : Below w.heap.size w W) => Resolve_s ⟨U.host, U.port, [47, 122, 122, 57, 47, 121, 63, 122]⟩ U.path W (by simp only []; omega) (by simp) (by simp only []; omega) (by omega) (hm.later hb) (hT.later hb)
  rw [Tg.resolve_path hok hriz rfl rfl (by omega) (by rw [hpt]; rw [hpt0]; intro e2; apply hc; simpa using e2), ures_mk, uval_mk, show str [47, 122, 122, 57, 47, 121, 63, 122] = ⟨#[47, 122, 122, 57, 47, 121, 63, 122]⟩ from rfl] at cV
  have cT := fun (W : World) (hb : Below w.heap.size w W) => Parse_s m W (by omega) (hm.later hb) (hT.later hb)
  have cX := fun (W : World) (hb : Below w.heap.size w W) => Resolve_s U m W (by omega) (by omega) (by omega) (by omega) (hm.later hb) (hT.later hb)
  rw [uval_u] at cX
  obtain ⟨D, hD⟩ : ∃ D, (Tg.parse m).1 = D := ⟨_, rfl⟩
  have hpd : Tg.parse m = (D, 0) := Prod.ext hD hi
  rw [hpd, ures_mk] at cT
  rw [Tg.resolve_http hri (Tg.parse_http hi), hpd, ures_mk] at cX
  clear hpt0 h2 hokz hpz hriz hi hpd hix hc hD
  clear hpe hl hml hm hT hpl hpth hpb hkU hri hok hU he hpt
  generalize str l = s at *
  generalize str m = t at *
  generalize str U.host = HU at *
  generalize U.port = KU at *
  generalize str U.path = PU at *
  generalize str D.host = HD at *
  generalize D.port = KD at *
  generalize str D.path = PD at *
  go_enter Tryd.func4, Tryd.ntmps4
  go_wp2_with fail
  refine (cA _ (Below.refl _ _)).mono ?_
  rintro e1 w1 ⟨rfl, hb1⟩
  go_wp2_with fail
  refine (cP _ hb1).mono ?_
  rintro e2 w2 ⟨rfl, hb2⟩
  have hU3 := Res.fresh (bt' hb1 hb2) (.string HU) (.int .i64 KU) (.string PU)
  clear cA cP hb1 hb2
  go_upto_region 6 with fail
  generalize w2.alloc (.cells #[.string HU, .int .i64 KU, .string PU] 24) = w3 at hU3 ⊢
  generalize w2.heap.size = gU at hU3 ⊢
  go_wp2_with (refine ldU hU3.cell rfl (.tmp 5) rfl rfl ?_)
  refine (cE _ hU3.below).mono ?_
  rintro e3 w4 ⟨rfl, hb4⟩
  have hU4 := hU3.later hb4
  have hA5 := Res.fresh hU4.below (.string HU) (.int .i64 KU) (.string PU)
  have hU5 := hU4.alloc (.cells #[.string HU, .int .i64 KU, .string PU] 24)
  clear cE hU3 hU4 hb4
  go_upto_region 7 with fail
  generalize w4.alloc (.cells #[.string HU, .int .i64 KU, .string PU] 24) = w5 at hU5 hA5 ⊢
  generalize w4.heap.size = gA at hA5 ⊢
  go_cut [9, 10] (fun x9 x10 wx => ∃ g, x9 = .pointer (some ⟨g, 0, none⟩) ∧ x10 = .int .i64 0 ∧ Res w gU wx (.string HU) (.int .i64 KU) (.string PU) ∧ Res w gA wx (.string HU) (.int .i64 KU) (.string PU) ∧ Res w g wx (.string HU) (.int .i64 KU) (.string PU))
  case first =>
    have KEY := Lib.hid (fun (w' : World) (h : Res w gU w' (.string HU) (.int .i64 KU) (.string PU)) => box_cell h.cell)
    have HU5 := Lib.hid (hU5.later (Below.refl _ w5).drew)
    have HA5 := Lib.hid (hA5.later (Below.refl _ w5).drew)
    clear hU5 hA5
    go_region_held3 (fun w' => w'.cell? ⟨gU, 0, none⟩ = some (.string HU) ∧ w'.cell? ⟨gU, 1, none⟩ = some (.int .i64 KU) ∧ w'.cell? ⟨gU, 2, none⟩ = some (.string PU))
      (first | exact KEY.out _ HU5.out | exact KEY.out _ (HU5.out.alloc _) | exact KEY.out _ HU6.out | exact KEY.out _ (HU6.out.alloc _) | exact KEY.out _ HU7.out | exact KEY.out _ (HU7.out.alloc _) | exact KEY.out _ (HU7.out.other3 HN7.out.ge HNE.out _ _ _))
      (first
        | (go_at_call 8; refine (cPr _ HU5.out.below).mono ?_; rintro e w6 ⟨rfl, hb6⟩; have HU6 := Lib.hid (HU5.out.later hb6); have HA6 := Lib.hid (HA5.out.later hb6); clear hb6)
        | (go_at_call 8; refine (cPr _ (HU5.out.alloc _).below).mono ?_; rintro e w6 ⟨rfl, hb6⟩; have HU6 := Lib.hid ((HU5.out.alloc _).later hb6); have HA6 := Lib.hid ((HA5.out.alloc _).later hb6); have HN6 : Hid (Res w w5.heap.size w6 (.string ⟨#[]⟩) (.int .i64 0) (.string ⟨#[]⟩)) := Lib.hid (Res.freshly HU5.out.below hb6); have HNE : Hid (gU ≠ w5.heap.size) := Lib.hid (Nat.ne_of_lt (lt_of_block HU5.out.cell)); have HNA : Hid (gA ≠ w5.heap.size) := Lib.hid (Nat.ne_of_lt (lt_of_block HA5.out.cell)); clear hb6)
        | (go_at_call 10; refine (cOw _ (HU6.out.alloc _).below).mono ?_; rintro e w7 ⟨rfl, hb7⟩; have HU7 := Lib.hid ((HU6.out.alloc _).later hb7); have HA7 := Lib.hid ((HA6.out.alloc _).later hb7); have HN7 : Hid (Res w w6.heap.size w7 (.string ⟨#[]⟩) (.int .i64 0) (.string ⟨#[]⟩)) := Lib.hid (Res.freshly HU6.out.below hb7); have HNE : Hid (gU ≠ w6.heap.size) := Lib.hid (Nat.ne_of_lt (lt_of_block HU6.out.cell)); have HNA : Hid (gA ≠ w6.heap.size) := Lib.hid (Nat.ne_of_lt (lt_of_block HA6.out.cell)); clear hb7; obtain ⟨n0, n1, n2⟩ := box_cell HN7.out.cell; obtain ⟨m0, m1, m2⟩ := HN7.out.frees)
        | (go_at_call 10; refine (cOw _ HU6.out.below).mono ?_; rintro e w7 ⟨rfl, hb7⟩; have HU7 := Lib.hid (HU6.out.later hb7); have HA7 := Lib.hid (HA6.out.later hb7); have HN7 := Lib.hid (HN6.out.later hb7); clear hb7; obtain ⟨n0, n1, n2⟩ := box_cell HN7.out.cell; obtain ⟨m0, m1, m2⟩ := HN7.out.frees)
        | (go_at_call 10; refine (cOw _ HU6.out.below).mono ?_; rintro e w7 ⟨rfl, hb7⟩; have HU7 := Lib.hid (HU6.out.later hb7); have HA7 := Lib.hid (HA6.out.later hb7); clear hb7))
    · go_wp2_with fail
      go_meet
      case rel => exact ⟨_, rfl, rfl, HU7.out.alloc _, HA7.out.alloc _, Res.fresh HU7.out.below _ _ _⟩
    · go_wp2_with fail
      go_meet
      case rel => exact ⟨_, rfl, rfl, HU7.out.other3 HN7.out.ge HNE.out _ _ _, HA7.out.other3 HN7.out.ge HNA.out _ _ _, HN7.out.set _ _ _⟩
    · go_wp2_with fail
      go_meet
      case rel => exact ⟨_, rfl, rfl, HU7.out.other3 HN7.out.ge HNE.out _ _ _, HA7.out.other3 HN7.out.ge HNA.out _ _ _, HN7.out.set _ _ _⟩
  case rest =>
  obtain ⟨gB, hx9, hx10, hU7, hA7, hB7⟩ := hcut
  subst hx9 hx10
  clear hU5 hA5 cPr cOw
  have hV8 := Res.fresh hU7.below (.string HU) (.int .i64 KU) (.string PU)
  have hU8 := hU7.alloc (.cells #[.string HU, .int .i64 KU, .string PU] 24)
  have hA8 := hA7.alloc (.cells #[.string HU, .int .i64 KU, .string PU] 24)
  have hB8 := hB7.alloc (.cells #[.string HU, .int .i64 KU, .string PU] 24)
  have nU : gU ≠ wc.heap.size := Nat.ne_of_lt (lt_of_block hU7.cell)
  have nA : gA ≠ wc.heap.size := Nat.ne_of_lt (lt_of_block hA7.cell)
  have nB : gB ≠ wc.heap.size := Nat.ne_of_lt (lt_of_block hB7.cell)
  obtain ⟨q0, q1, q2⟩ := box_cell hU7.cell
  clear hA7 hB7
  go_upto_region 9 with (refine ldU hU7.cell rfl (.tmp 5) rfl rfl ?_)
  clear hU7 q0 q1 q2
  generalize wc.alloc (.cells #[.string HU, .int .i64 KU, .string PU] 24) = w8 at hU8 hA8 hB8 hV8 ⊢
  generalize wc.heap.size = gV at hV8 nU nA nB ⊢
  obtain ⟨q0, q1, q2⟩ := box_cell hV8.cell
  have qf := hV8.free
  have hV9 := hV8.set2 (.string ⟨#[47, 122, 122, 57, 47, 121, 63, 122]⟩)
  have hU9 := hU8.other hV8.ge nU (.string ⟨#[47, 122, 122, 57, 47, 121, 63, 122]⟩)
  have hA9 := hA8.other hV8.ge nA (.string ⟨#[47, 122, 122, 57, 47, 121, 63, 122]⟩)
  have hB9 := hB8.other hV8.ge nB (.string ⟨#[47, 122, 122, 57, 47, 121, 63, 122]⟩)
  clear hU8 hA8 hB8 hV8 nU nA nB
  go_upto_region 10 with fail
  generalize w8.setCell ⟨gV, 2, none⟩ (.string ⟨#[47, 122, 122, 57, 47, 121, 63, 122]⟩) = w9 at hU9 hA9 hB9 hV9 ⊢
  clear q0 q1 q2 qf
  obtain ⟨u0, u1, u2⟩ := box_cell hU9.cell
  go_upto_region 12 with fail
  go_wp2_with (refine ldU hV9.cell rfl (.tmp 11) rfl rfl ?_)
  refine (cV _ hU9.below).mono ?_
  rintro e10 wa ⟨rfl, hba⟩
  have hUa := hU9.later hba
  have hAa := hA9.later hba
  have hBa := hB9.later hba
  clear u0 u1 u2 hU9 hA9 hB9 hV9 hba cV
  have hCb := Res.fresh hUa.below (.string HU) (.int .i64 KU) (.string PU)
  have hUb := hUa.alloc (.cells #[.string HU, .int .i64 KU, .string PU] 24)
  have hAb := hAa.alloc (.cells #[.string HU, .int .i64 KU, .string PU] 24)
  have hBb := hBa.alloc (.cells #[.string HU, .int .i64 KU, .string PU] 24)
  clear hUa hAa hBa
  go_upto_region 13 with fail
  generalize wa.alloc (.cells #[.string HU, .int .i64 KU, .string PU] 24) = wb at hUb hAb hBb hCb ⊢
  generalize wa.heap.size = gC at hCb ⊢
  go_wp2_with fail
  refine (cT _ hUb.below).mono ?_
  rintro e11 wc ⟨rfl, hbc⟩
  have hUc := hUb.later hbc
  have hDd := Res.fresh hUc.below (.string HD) (.int .i64 KD) (.string PD)
  have hUd := hUc.alloc (.cells #[.string HD, .int .i64 KD, .string PD] 24)
  have hAd := (hAb.later hbc).alloc (.cells #[.string HD, .int .i64 KD, .string PD] 24)
  have hBd := (hBb.later hbc).alloc (.cells #[.string HD, .int .i64 KD, .string PD] 24)
  have hCd := (hCb.later hbc).alloc (.cells #[.string HD, .int .i64 KD, .string PD] 24)
  clear hUb hAb hBb hCb hbc cT hUc
  go_upto_region 14 with fail
  generalize wc.alloc (.cells #[.string HD, .int .i64 KD, .string PD] 24) = wd at hUd hAd hBd hCd hDd ⊢
  generalize wc.heap.size = gD at hDd ⊢
  go_wp2_with (refine ldU hUd.cell rfl (.tmp 5) rfl rfl ?_)
  refine (cX _ hUd.below).mono ?_
  rintro e12 we ⟨rfl, hbe⟩
  have hUe := hUd.later hbe
  have hXf := Res.fresh hUe.below (.string HD) (.int .i64 KD) (.string PD)
  have hUf := hUe.alloc (.cells #[.string HD, .int .i64 KD, .string PD] 24)
  have hAf := (hAd.later hbe).alloc (.cells #[.string HD, .int .i64 KD, .string PD] 24)
  have hBf := (hBd.later hbe).alloc (.cells #[.string HD, .int .i64 KD, .string PD] 24)
  have hCf := (hCd.later hbe).alloc (.cells #[.string HD, .int .i64 KD, .string PD] 24)
  have hDf := (hDd.later hbe).alloc (.cells #[.string HD, .int .i64 KD, .string PD] 24)
  clear hUd hAd hBd hCd hDd hbe cX hUe
  go_upto_region 15 with fail
  generalize we.alloc (.cells #[.string HD, .int .i64 KD, .string PD] 24) = wf at hUf hAf hBf hCf hDf hXf ⊢
  generalize we.heap.size = gX at hXf ⊢
  obtain ⟨u0, u1, u2⟩ := box_cell hUf.cell
  obtain ⟨a0, a1, a2⟩ := box_cell hAf.cell
  obtain ⟨b0, b1, b2⟩ := box_cell hBf.cell
  obtain ⟨c0, c1, c2⟩ := box_cell hCf.cell
  obtain ⟨d0, d1, d2⟩ := box_cell hDf.cell
  obtain ⟨x0, x1, x2⟩ := box_cell hXf.cell
  have hB := hUf.below
  clear hUf hAf hBf hCf hDf hXf
  go_wp2_with fail
  go_ret
  exact ⟨rfl, hB⟩

set_option maxHeartbeats 3200000 in
set_option maxRecDepth 100000 in
theorem own_other1 (l m : List UInt8) (w : World) (hl : l.length ≤ 2000) (hml : m.length ≤ 2000) (hm : MaxOk w) (hT : Tabs w) (he : (Tg.parse l).2 = 0) (hi : (Tg.parse m).2 ≠ 0) (c : UInt8) (r : List UInt8) (hc : ¬ c = 47) (h2 : ∀ U, (Tg.parse l).1 = U → U.path = 47 :: c :: r) :
    Calls Tryd.prog 4 #[.string (str l), .string (str m)] w fun e w' => e = .returned (.bool true) ∧ Below w.heap.size w w' := by
  have cA := fun (W : World) (hb : Below w.heap.size w W) => tawake_w W (hm.later hb) (hT.later hb)
  have cP := fun (W : World) (hb : Below w.heap.size w W) => Parse_s l W (by omega) (hm.later hb) (hT.later hb)
  have hls : ((str l).size : Int) ≤ 2000 := by rw [str_size]; omega
  have hms : ((str m).size : Int) ≤ 2000 := by rw [str_size]; omega
  have hok := Tg.parse_ok he
  obtain ⟨U, hU⟩ : ∃ U, (Tg.parse l).1 = U := ⟨_, rfl⟩
  rw [hU] at hok
  have hpe : Tg.parse l = (U, 0) := Prod.ext hU he
  rw [hpe, ures_mk] at cP
  obtain ⟨hok, hpl, hpth⟩ := hok
  have hpb := print_bounds U
  have hkU := hok.site.hi
  have hri := Tg.right_of hok (by omega)
  have cPr := fun (W : World) (hb : Below w.heap.size w W) => Print_u U W (by omega) (by omega) (by omega) (hT.later hb)
  have cE := fun (W : World) (hb : Below w.heap.size w W) => Resolve_s U [] W (by omega) (by omega) (by omega) (by simp) (hm.later hb) (hT.later hb)
  rw [Tg.resolve_empty hri, ures_mk, show str [] = ⟨#[]⟩ from rfl] at cE
  have cOw := fun (W : World) (hb : Below w.heap.size w W) => Resolve_s U (Tg.print U) W (by omega) (by omega) (by omega) (by omega) (hm.later hb) (hT.later hb)
  rw [Tg.resolve_own hri, ures_mk] at cOw
  rw [uval_u] at cPr cE cOw
  generalize str (Tg.print U) = tU at *
  obtain ⟨pt, hpt⟩ := hok.head
  have hpt0 : pt = c :: r := by
    have := h2 U hU
    rw [hpt] at this
    exact (List.cons.inj this).2
  have h1s : 1 < (str U.path).size := by rw [str_size, hpt, hpt0]; simp
  have h1i : (1 : Int) < (str U.path).size := by omega
  have hix : (str U.path)[1]'h1s = c := by
    have : ∀ (x : ByteArray) (h : 1 < x.size), x = str (47 :: c :: r) → x[1]'h = c := by rintro x h rfl; rfl
    exact this _ h1s (by rw [hpt, hpt0])
  have n47 : ¬ ((((str U.path)[1]'h1s).toNat : Int) = 47) := by
    rw [hix]
    intro e2; apply hc
    exact UInt8.toNat_inj.1 (by have : (47 : UInt8).toNat = 47 := rfl; omega)
  have b47 : ((((str U.path)[1]'h1s).toNat : Int) == 47) = false := beq_eq_false_iff_ne.2 n47
  have hokz := Tg.ok_zz hok
  have hpz := print_size _ hokz
  have hriz := Tg.right_of hokz (by simp only [List.length_cons, List.length_nil] at hpz; omega)
  have cV := fun (W : World) (hb : Below w.heap.size w W) => Resolve_s ⟨U.host, U.port, [47, 122, 122, 57, 47, 121, 63, 122]⟩ U.path W (by simp only []; omega) (by simp) (by simp only []; omega) (by omega) (hm.later hb) (hT.later hb)
  rw [Tg.resolve_path hok hriz rfl rfl (by omega) (by rw [hpt]; rw [hpt0]; intro e2; apply hc; simpa using e2), ures_mk, uval_mk, show str [47, 122, 122, 57, 47, 121, 63, 122] = ⟨#[47, 122, 122, 57, 47, 121, 63, 122]⟩ from rfl] at cV
  have cT := fun (W : World) (hb : Below w.heap.size w W) => Parse_s m W (by omega) (hm.later hb) (hT.later hb)
  have cX := fun (W : World) (hb : Below w.heap.size w W) => Resolve_s U m W (by omega) (by omega) (by omega) (by omega) (hm.later hb) (hT.later hb)
  rw [uval_u] at cX
  obtain ⟨D, i, hpd⟩ : ∃ D i, Tg.parse m = (D, i) := ⟨_, _, rfl⟩
  rw [hpd] at hi
  have bi : (i == 0) = false := beq_eq_false_iff_ne.2 hi
  have hi : ¬ i = 0 := hi
  rw [hpd, ures_mk] at cT
  obtain ⟨X, j, hx⟩ : ∃ X j, Tg.resolve U m = (X, j) := ⟨_, _, rfl⟩
  rw [hx, ures_mk] at cX
  clear hpt0 h2 hokz hpz hriz hpd hix hc hx
  clear hpe hl hml hm hT hpl hpth hpb hkU hri hok hU he hpt
  generalize str l = s at *
  generalize str m = t at *
  generalize str U.host = HU at *
  generalize U.port = KU at *
  generalize str U.path = PU at *
  generalize str D.host = HD at *
  generalize D.port = KD at *
  generalize str D.path = PD at *
  generalize str X.host = HX at *
  generalize X.port = KX at *
  generalize str X.path = PX at *
  go_enter Tryd.func4, Tryd.ntmps4
  go_wp2_with fail
  refine (cA _ (Below.refl _ _)).mono ?_
  rintro e1 w1 ⟨rfl, hb1⟩
  go_wp2_with fail
  refine (cP _ hb1).mono ?_
  rintro e2 w2 ⟨rfl, hb2⟩
  have hU3 := Res.fresh (bt' hb1 hb2) (.string HU) (.int .i64 KU) (.string PU)
  clear cA cP hb1 hb2
  go_upto_region 6 with fail
  generalize w2.alloc (.cells #[.string HU, .int .i64 KU, .string PU] 24) = w3 at hU3 ⊢
  generalize w2.heap.size = gU at hU3 ⊢
  go_wp2_with (refine ldU hU3.cell rfl (.tmp 5) rfl rfl ?_)
  refine (cE _ hU3.below).mono ?_
  rintro e3 w4 ⟨rfl, hb4⟩
  have hU4 := hU3.later hb4
  have hA5 := Res.fresh hU4.below (.string HU) (.int .i64 KU) (.string PU)
  have hU5 := hU4.alloc (.cells #[.string HU, .int .i64 KU, .string PU] 24)
  clear cE hU3 hU4 hb4
  go_upto_region 7 with fail
  generalize w4.alloc (.cells #[.string HU, .int .i64 KU, .string PU] 24) = w5 at hU5 hA5 ⊢
  generalize w4.heap.size = gA at hA5 ⊢
  go_cut [9, 10] (fun x9 x10 wx => ∃ g, x9 = .pointer (some ⟨g, 0, none⟩) ∧ x10 = .int .i64 0 ∧ Res w gU wx (.string HU) (.int .i64 KU) (.string PU) ∧ Res w gA wx (.string HU) (.int .i64 KU) (.string PU) ∧ Res w g wx (.string HU) (.int .i64 KU) (.string PU))
  case first =>
    have KEY := Lib.hid (fun (w' : World) (h : Res w gU w' (.string HU) (.int .i64 KU) (.string PU)) => box_cell h.cell)
    have HU5 := Lib.hid (hU5.later (Below.refl _ w5).drew)
    have HA5 := Lib.hid (hA5.later (Below.refl _ w5).drew)
    clear hU5 hA5
    go_region_held3 (fun w' => w'.cell? ⟨gU, 0, none⟩ = some (.string HU) ∧ w'.cell? ⟨gU, 1, none⟩ = some (.int .i64 KU) ∧ w'.cell? ⟨gU, 2, none⟩ = some (.string PU))
      (first | exact KEY.out _ HU5.out | exact KEY.out _ (HU5.out.alloc _) | exact KEY.out _ HU6.out | exact KEY.out _ (HU6.out.alloc _) | exact KEY.out _ HU7.out | exact KEY.out _ (HU7.out.alloc _) | exact KEY.out _ (HU7.out.other3 HN7.out.ge HNE.out _ _ _))
      (first
        | (go_at_call 8; refine (cPr _ HU5.out.below).mono ?_; rintro e w6 ⟨rfl, hb6⟩; have HU6 := Lib.hid (HU5.out.later hb6); have HA6 := Lib.hid (HA5.out.later hb6); clear hb6)
        | (go_at_call 8; refine (cPr _ (HU5.out.alloc _).below).mono ?_; rintro e w6 ⟨rfl, hb6⟩; have HU6 := Lib.hid ((HU5.out.alloc _).later hb6); have HA6 := Lib.hid ((HA5.out.alloc _).later hb6); have HN6 : Hid (Res w w5.heap.size w6 (.string ⟨#[]⟩) (.int .i64 0) (.string ⟨#[]⟩)) := Lib.hid (Res.freshly HU5.out.below hb6); have HNE : Hid (gU ≠ w5.heap.size) := Lib.hid (Nat.ne_of_lt (lt_of_block HU5.out.cell)); have HNA : Hid (gA ≠ w5.heap.size) := Lib.hid (Nat.ne_of_lt (lt_of_block HA5.out.cell)); clear hb6)
        | (go_at_call 10; refine (cOw _ (HU6.out.alloc _).below).mono ?_; rintro e w7 ⟨rfl, hb7⟩; have HU7 := Lib.hid ((HU6.out.alloc _).later hb7); have HA7 := Lib.hid ((HA6.out.alloc _).later hb7); have HN7 : Hid (Res w w6.heap.size w7 (.string ⟨#[]⟩) (.int .i64 0) (.string ⟨#[]⟩)) := Lib.hid (Res.freshly HU6.out.below hb7); have HNE : Hid (gU ≠ w6.heap.size) := Lib.hid (Nat.ne_of_lt (lt_of_block HU6.out.cell)); have HNA : Hid (gA ≠ w6.heap.size) := Lib.hid (Nat.ne_of_lt (lt_of_block HA6.out.cell)); clear hb7; obtain ⟨n0, n1, n2⟩ := box_cell HN7.out.cell; obtain ⟨m0, m1, m2⟩ := HN7.out.frees)
        | (go_at_call 10; refine (cOw _ HU6.out.below).mono ?_; rintro e w7 ⟨rfl, hb7⟩; have HU7 := Lib.hid (HU6.out.later hb7); have HA7 := Lib.hid (HA6.out.later hb7); have HN7 := Lib.hid (HN6.out.later hb7); clear hb7; obtain ⟨n0, n1, n2⟩ := box_cell HN7.out.cell; obtain ⟨m0, m1, m2⟩ := HN7.out.frees)
        | (go_at_call 10; refine (cOw _ HU6.out.below).mono ?_; rintro e w7 ⟨rfl, hb7⟩; have HU7 := Lib.hid (HU6.out.later hb7); have HA7 := Lib.hid (HA6.out.later hb7); clear hb7))
    · go_wp2_with fail
      go_meet
      case rel => exact ⟨_, rfl, rfl, HU7.out.alloc _, HA7.out.alloc _, Res.fresh HU7.out.below _ _ _⟩
    · go_wp2_with fail
      go_meet
      case rel => exact ⟨_, rfl, rfl, HU7.out.other3 HN7.out.ge HNE.out _ _ _, HA7.out.other3 HN7.out.ge HNA.out _ _ _, HN7.out.set _ _ _⟩
    · go_wp2_with fail
      go_meet
      case rel => exact ⟨_, rfl, rfl, HU7.out.other3 HN7.out.ge HNE.out _ _ _, HA7.out.other3 HN7.out.ge HNA.out _ _ _, HN7.out.set _ _ _⟩
  case rest =>
  obtain ⟨gB, hx9, hx10, hU7, hA7, hB7⟩ := hcut
  subst hx9 hx10
  clear hU5 hA5 cPr cOw
  have hV8 := Res.fresh hU7.below (.string HU) (.int .i64 KU) (.string PU)
  have hU8 := hU7.alloc (.cells #[.string HU, .int .i64 KU, .string PU] 24)
  have hA8 := hA7.alloc (.cells #[.string HU, .int .i64 KU, .string PU] 24)
  have hB8 := hB7.alloc (.cells #[.string HU, .int .i64 KU, .string PU] 24)
  have nU : gU ≠ wc.heap.size := Nat.ne_of_lt (lt_of_block hU7.cell)
  have nA : gA ≠ wc.heap.size := Nat.ne_of_lt (lt_of_block hA7.cell)
  have nB : gB ≠ wc.heap.size := Nat.ne_of_lt (lt_of_block hB7.cell)
  obtain ⟨q0, q1, q2⟩ := box_cell hU7.cell
  clear hA7 hB7
  go_upto_region 9 with (refine ldU hU7.cell rfl (.tmp 5) rfl rfl ?_)
  clear hU7 q0 q1 q2
  generalize wc.alloc (.cells #[.string HU, .int .i64 KU, .string PU] 24) = w8 at hU8 hA8 hB8 hV8 ⊢
  generalize wc.heap.size = gV at hV8 nU nA nB ⊢
  obtain ⟨q0, q1, q2⟩ := box_cell hV8.cell
  have qf := hV8.free
  have hV9 := hV8.set2 (.string ⟨#[47, 122, 122, 57, 47, 121, 63, 122]⟩)
  have hU9 := hU8.other hV8.ge nU (.string ⟨#[47, 122, 122, 57, 47, 121, 63, 122]⟩)
  have hA9 := hA8.other hV8.ge nA (.string ⟨#[47, 122, 122, 57, 47, 121, 63, 122]⟩)
  have hB9 := hB8.other hV8.ge nB (.string ⟨#[47, 122, 122, 57, 47, 121, 63, 122]⟩)
  clear hU8 hA8 hB8 hV8 nU nA nB
  go_upto_region 10 with fail
  generalize w8.setCell ⟨gV, 2, none⟩ (.string ⟨#[47, 122, 122, 57, 47, 121, 63, 122]⟩) = w9 at hU9 hA9 hB9 hV9 ⊢
  clear q0 q1 q2 qf
  obtain ⟨u0, u1, u2⟩ := box_cell hU9.cell
  go_upto_region 12 with fail
  go_wp2_with (refine ldU hV9.cell rfl (.tmp 11) rfl rfl ?_)
  refine (cV _ hU9.below).mono ?_
  rintro e10 wa ⟨rfl, hba⟩
  have hUa := hU9.later hba
  have hAa := hA9.later hba
  have hBa := hB9.later hba
  clear u0 u1 u2 hU9 hA9 hB9 hV9 hba cV
  have hCb := Res.fresh hUa.below (.string HU) (.int .i64 KU) (.string PU)
  have hUb := hUa.alloc (.cells #[.string HU, .int .i64 KU, .string PU] 24)
  have hAb := hAa.alloc (.cells #[.string HU, .int .i64 KU, .string PU] 24)
  have hBb := hBa.alloc (.cells #[.string HU, .int .i64 KU, .string PU] 24)
  clear hUa hAa hBa
  go_upto_region 13 with fail
  generalize wa.alloc (.cells #[.string HU, .int .i64 KU, .string PU] 24) = wb at hUb hAb hBb hCb ⊢
  generalize wa.heap.size = gC at hCb ⊢
  go_wp2_with fail
  refine (cT _ hUb.below).mono ?_
  rintro e11 wc ⟨rfl, hbc⟩
  have hUc := hUb.later hbc
  have hDd := Res.fresh hUc.below (.string HD) (.int .i64 KD) (.string PD)
  have hUd := hUc.alloc (.cells #[.string HD, .int .i64 KD, .string PD] 24)
  have hAd := (hAb.later hbc).alloc (.cells #[.string HD, .int .i64 KD, .string PD] 24)
  have hBd := (hBb.later hbc).alloc (.cells #[.string HD, .int .i64 KD, .string PD] 24)
  have hCd := (hCb.later hbc).alloc (.cells #[.string HD, .int .i64 KD, .string PD] 24)
  clear hUb hAb hBb hCb hbc cT hUc
  go_upto_region 14 with fail
  generalize wc.alloc (.cells #[.string HD, .int .i64 KD, .string PD] 24) = wd at hUd hAd hBd hCd hDd ⊢
  generalize wc.heap.size = gD at hDd ⊢
  go_wp2_with (refine ldU hUd.cell rfl (.tmp 5) rfl rfl ?_)
  refine (cX _ hUd.below).mono ?_
  rintro e12 we ⟨rfl, hbe⟩
  have hUe := hUd.later hbe
  have hXf := Res.fresh hUe.below (.string HX) (.int .i64 KX) (.string PX)
  have hUf := hUe.alloc (.cells #[.string HX, .int .i64 KX, .string PX] 24)
  have hAf := (hAd.later hbe).alloc (.cells #[.string HX, .int .i64 KX, .string PX] 24)
  have hBf := (hBd.later hbe).alloc (.cells #[.string HX, .int .i64 KX, .string PX] 24)
  have hCf := (hCd.later hbe).alloc (.cells #[.string HX, .int .i64 KX, .string PX] 24)
  have hDf := (hDd.later hbe).alloc (.cells #[.string HX, .int .i64 KX, .string PX] 24)
  clear hUd hAd hBd hCd hDd hbe cX hUe
  go_upto_region 15 with fail
  generalize we.alloc (.cells #[.string HX, .int .i64 KX, .string PX] 24) = wf at hUf hAf hBf hCf hDf hXf ⊢
  generalize we.heap.size = gX at hXf ⊢
  obtain ⟨u0, u1, u2⟩ := box_cell hUf.cell
  obtain ⟨a0, a1, a2⟩ := box_cell hAf.cell
  obtain ⟨b0, b1, b2⟩ := box_cell hBf.cell
  obtain ⟨c0, c1, c2⟩ := box_cell hCf.cell
  obtain ⟨d0, d1, d2⟩ := box_cell hDf.cell
  obtain ⟨x0, x1, x2⟩ := box_cell hXf.cell
  have hB := hUf.below
  clear hUf hAf hBf hCf hDf hXf
  go_wp2_with fail
  go_ret
  exact ⟨rfl, hB⟩

set_option maxHeartbeats 1600000 in
set_option maxRecDepth 100000 in
theorem town_w (s t : ByteArray) (w : World) (hs : s.size ≤ 9223372036854775807) (ht : t.size ≤ 9223372036854775807) (hm : MaxOk w) (hT : Tabs w) :
    Calls Tryd.prog 4 #[.string s, .string t] w fun e w' => e = .returned (.bool true) ∧ Below w.heap.size w w' := by
  have cA := fun (W : World) (hb : Below w.heap.size w W) => tawake_w W (hm.later hb) (hT.later hb)
  by_cases h1 : (2000 : Int) < s.size
  · clear hm hT hs ht
    go_enter Tryd.func4, Tryd.ntmps4
    go_wp2_with fail
    refine (cA _ (Below.refl _ _)).mono ?_
    rintro e1 w1 ⟨rfl, hb1⟩
    go_wp2_with fail
    refine (cA _ hb1).mono ?_
    rintro e2 w2 ⟨rfl, hb2⟩
    go_wp2_with fail
    go_ret
    exact ⟨rfl, bt' hb1 hb2⟩
  by_cases h2 : (2000 : Int) < t.size
  · clear hm hT hs ht
    go_enter Tryd.func4, Tryd.ntmps4
    go_wp2_with fail
    refine (cA _ (Below.refl _ _)).mono ?_
    rintro e1 w1 ⟨rfl, hb1⟩
    go_wp2_with fail
    refine (cA _ hb1).mono ?_
    rintro e2 w2 ⟨rfl, hb2⟩
    go_wp2_with fail
    go_ret
    exact ⟨rfl, bt' hb1 hb2⟩
  obtain ⟨l, rfl⟩ : ∃ l, s = str l := ⟨s.data.toList, (str_of s).symm⟩
  obtain ⟨m, rfl⟩ : ∃ m, t = str m := ⟨t.data.toList, (str_of t).symm⟩
  rw [str_size] at h1 h2
  have hl : l.length ≤ 2000 := by omega
  have hml : m.length ≤ 2000 := by omega
  by_cases he : (Tg.parse l).2 = 0
  · obtain ⟨pt, hpt⟩ := (Tg.parse_ok he).1.head
    match pt, hpt with
    | [], hpt =>
      by_cases hi : (Tg.parse m).2 = 0
      · exact own_one0 l m w hl hml hm hT he hi (by rintro U rfl; exact hpt)
      · exact own_one1 l m w hl hml hm hT he hi (by rintro U rfl; exact hpt)
    | c :: r, hpt =>
      by_cases hc : c = 47
      · subst hc
        exact own_two l m w hl hml hm hT he r (by rintro U rfl; exact hpt)
      · by_cases hi : (Tg.parse m).2 = 0
        · exact own_other0 l m w hl hml hm hT he hi c r hc (by rintro U rfl; exact hpt)
        · exact own_other1 l m w hl hml hm hT he hi c r hc (by rintro U rfl; exact hpt)
  · exact own_no l m w hl hml hm hT he
end Go.Proofs.YtlikjfemkadciaaDoor
