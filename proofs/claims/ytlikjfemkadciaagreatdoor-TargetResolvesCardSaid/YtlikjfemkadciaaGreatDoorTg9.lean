/- Package target: a URI of a path and a query. -/
import Derived.Test.YtlikjfemkadciaaGreatDoorTg8
import Derived.Test.YtlikjfemkadciaaGreatDoorTail
namespace Go.Proofs.YtlikjfemkadciaaGreatDoor
open Go.RowKit

theorem even_path (s : ByteArray) (l : List UInt8) (x y : ByteArray) (w : World) (hs : s = str l) (hx : x = str freeS) (hy : y = str pathS) (hl : l.length ≤ 100000) (hm : MaxOk w) (hT : Tabs w) :
    Calls Tryz.prog 41 #[.string s, .slice (some ⟨w.heap.size, 0, none⟩) 2 2] (w.alloc (.cells #[.string x, .string y] 9)) fun e w' => e = .returned (eres (Tg.coded Tg.pathc l)) ∧ Below w.heap.size w w' := by
  have hb : Below w.heap.size w (w.alloc (.cells #[.string x, .string y] 9)) := (Below.refl _ w).alloc (Nat.le_refl _) _
  subst hs
  refine (even_s Tg.pathc l _ _ _ (SIn.two w x y freeS pathS hx hy) (by decide) in_path hl (hm.later hb) (hT.later hb)).mono ?_
  rintro e w' ⟨he, hb2⟩
  exact ⟨he, bt' hb hb2⟩
theorem even_query (s : ByteArray) (l : List UInt8) (x y : ByteArray) (w : World) (hs : s = str l) (hx : x = str freeS) (hy : y = str queryS) (hl : l.length ≤ 100000) (hm : MaxOk w) (hT : Tabs w) :
    Calls Tryz.prog 41 #[.string s, .slice (some ⟨w.heap.size, 0, none⟩) 2 2] (w.alloc (.cells #[.string x, .string y] 9)) fun e w' => e = .returned (eres (Tg.coded Tg.queryc l)) ∧ Below w.heap.size w w' := by
  have hb : Below w.heap.size w (w.alloc (.cells #[.string x, .string y] 9)) := (Below.refl _ w).alloc (Nat.le_refl _) _
  subst hs
  refine (even_s Tg.queryc l _ _ _ (SIn.two w x y freeS queryS hx hy) (by decide) in_query hl (hm.later hb) (hT.later hb)).mono ?_
  rintro e w' ⟨he, hb2⟩
  exact ⟨he, bt' hb hb2⟩

/-- A URI and an error. -/
def ures (x : Tg.U × Int) : Value := .tuple #[uval x.1, .int .i64 x.2]
theorem box_cell {w : World} {g : Nat} {a b c : Value} {t : TypeId} {fz : Nat × Nat} (h : w.heap[g]? = some (.cells #[a, b, c] t fz)) : w.cell? ⟨g, 0, none⟩ = some a ∧ w.cell? ⟨g, 1, none⟩ = some b ∧ w.cell? ⟨g, 2, none⟩ = some c := by
  simp [World.cell?, h]

set_option maxHeartbeats 3200000 in
set_option maxRecDepth 100000 in
theorem at_s (u : Tg.U) (t : List UInt8) (w : World) (hh : u.host.length ≤ 100000) (ht : t.length ≤ 90000) (hm : MaxOk w) (hT : Tabs w) :
    Calls Tryz.prog 24 #[uval u, .string (str (47 :: t))] w fun e w' => e = .returned (ures (Tg.atU u.host u.port (47 :: t))) ∧ Below w.heap.size w w' := by
  obtain ⟨hst, prt, pth⟩ := u
  simp only [] at hh ⊢
  rw [uval_mk]
  obtain ⟨s, hs⟩ : ∃ s, s = str (47 :: t) := ⟨_, rfl⟩
  have hsd : s.data.toList = 47 :: t := by rw [hs, str_list]
  have hsz : s.size = t.length + 1 := by rw [hs, str_size]; rfl
  rw [← hs]
  obtain ⟨N, hN⟩ : ∃ N, N = Tg.ahead Tg.qm t := ⟨_, rfl⟩
  have hNl : N ≤ t.length := by rw [hN]; exact Tg.ahead_le _ _
  have hN1 : Tg.ahead Tg.qm (47 :: t) = N + 1 := by rw [Tg.ahead, if_neg (by decide), hN]
  have cA := fun w => ahead_qm s w (by omega)
  rw [hsd, hN1] at cA
  have ex0 : s.extract 0 (N + 1) = str (47 :: t.take N) := by
    refine str_same ?_
    rw [Lib.extract_data, hsd]; simp
  have ex1 : s.extract (N + 1) s.size = str (t.drop N) := by
    refine str_same ?_
    rw [Lib.extract_data, hsd, List.take_of_length_le]
    · rfl
    · simp; omega
  have HPL : Hid (Tg.place (47 :: t) = (Tg.coded Tg.pathc (47 :: t.take N)).bind fun a => (Tg.coded Tg.queryc (t.drop N)).map fun q => Tg.straight a ++ q) := by
    unfold Tg.place; rw [hN1, List.take_succ_cons, List.drop_succ_cons]; exact Lib.hid rfl
  have cE1 := fun (x y : ByteArray) (W : World) (hb : Below w.heap.size w W) (hx : x = str freeS) (hy : y = str pathS) => even_path _ _ x y W ex0 hx hy (by simp; omega) (hm.later hb) (hT.later hb)
  have cE2 := fun (x y : ByteArray) (W : World) (hb : Below w.heap.size w W) (hx : x = str freeS) (hy : y = str queryS) => even_query _ _ x y W ex1 hx hy (by simp; omega) (hm.later hb) (hT.later hb)
  have HAT : Hid (∀ r, Tg.place (47 :: t) = r → Tg.atU hst prt (47 :: t) = match r with | none => (Tg.zero, 10) | some m => (⟨hst, prt, m⟩, 0)) := Lib.hid (by rintro r rfl; rfl)
  have hcl1 : ∀ a, Tg.coded Tg.pathc (47 :: t.take N) = some a → ∃ a', a = 47 :: a' ∧ a'.length ≤ 90000 := by
    intro a ha
    have hl := Tg.coded_len _ _ ha
    rw [Tg.coded_plain _ _ _ (by decide), if_pos (by decide)] at ha
    obtain ⟨b, _, rfl⟩ := Option.map_eq_some_iff.1 ha
    refine ⟨b, rfl, ?_⟩
    simp at hl; omega
  have hcl2 : ∀ q, Tg.coded Tg.queryc (t.drop N) = some q → q.length ≤ 90000 := by
    intro q hq
    have hl := Tg.coded_len _ _ hq
    simp at hl; omega
  generalize Tg.coded Tg.pathc (47 :: t.take N) = r1 at *
  generalize Tg.coded Tg.queryc (t.drop N) = r2 at *
  have hNs : (N : Int) + 1 ≤ s.size := by omega
  have cC := fun (W : World) => Clone_s (str hst) W (by rw [str_size]; omega)
  have HM := Lib.hid hm
  have HT := Lib.hid hT
  clear hs hsd hsz hN hNl hN1 ex0 ex1 hm hT hh
  go_enter Tryz.func24, Tryz.ntmps24
  rw [lit_free]
  go_upto_region 1 with fail
  have hU0 := (Res.start w (.string (str hst)) (.int .i64 prt) (.string (str pth))).alloc (.cells #[.string ⟨#[]⟩, .int .i64 0, .string ⟨#[]⟩] 24)
  have hR0 : Res w (w.heap.size + 1) ((w.alloc (.cells #[.string (str hst), .int .i64 prt, .string (str pth)] 24)).alloc (.cells #[.string ⟨#[]⟩, .int .i64 0, .string ⟨#[]⟩] 24)) (.string ⟨#[]⟩) (.int .i64 0) (.string ⟨#[]⟩) :=
    ⟨heap_alloc2_new w _ _, hU0.below, by omega⟩
  generalize (w.alloc (.cells #[.string (str hst), .int .i64 prt, .string (str pth)] 24)).alloc (.cells #[.string ⟨#[]⟩, .int .i64 0, .string ⟨#[]⟩] 24) = W0 at hU0 hR0 ⊢
  generalize w.heap.size + 1 = G at hR0 ⊢
  go_wp2_with fail
  refine (cA _).mono ?_
  rintro e W1 ⟨rfl, hb1⟩
  have hU1 := hU0.later hb1
  have hR1 := hR0.later hb1
  clear hU0 hR0 hb1 cA
  go_wp2_with fail
  refine (cE1 _ _ _ hU1.below (by rfl) (by rfl)).mono ?_
  rintro e W2 ⟨rfl, hb2⟩
  have hU2 := hU1.later hb2
  have hR2 := hR1.later hb2
  clear hU1 hR1 hb2 cE1
  cases r1 with
  | none =>
    have HV : Hid (Tg.atU hst prt (47 :: t) = (Tg.zero, 10)) := Lib.hid (HAT.out none HPL.out)
    have e0 : eres none = .tuple #[.string ⟨#[]⟩, .bool false] := rfl
    rw [e0]
    clear HAT HPL cE2 hcl1 hcl2
    go_wp2_with (refine stU hR2 rfl (.tmp 4) (.tmp 22) rfl _ _ _ rfl rfl ?_; intro W3 hR3 _)
    (try simp only [Exit.inBlock, Exit.then])
    refine ret_uri rfl G _ _ _ rfl hR3.cell rfl ?_
    exact ⟨by rw [HV.out]; rfl, hR3.below⟩
  | some a =>
    obtain ⟨a', rfl, hal⟩ := hcl1 a rfl
    have e0 : eres (some (47 :: a')) = .tuple #[.string (str (47 :: a')), .bool true] := rfl
    rw [e0]
    clear hcl1
    go_wp2_with fail
    refine (cE2 _ _ _ hU2.below (by rfl) (by rfl)).mono ?_
    rintro e W3 ⟨rfl, hb3⟩
    have hU3 := hU2.later hb3
    have hR3 := hR2.later hb3
    clear hU2 hR2 hb3 cE2
    cases r2 with
    | none =>
      have HV : Hid (Tg.atU hst prt (47 :: t) = (Tg.zero, 10)) := Lib.hid (HAT.out none HPL.out)
      have e0 : eres none = .tuple #[.string ⟨#[]⟩, .bool false] := rfl
      rw [e0]
      clear HAT HPL hcl2
      go_wp2_with (refine stU hR3 rfl (.tmp 4) (.tmp 33) rfl _ _ _ rfl rfl ?_; intro W4 hR4 _)
      (try simp only [Exit.inBlock, Exit.then])
      refine ret_uri rfl G _ _ _ rfl hR4.cell rfl ?_
      exact ⟨by rw [HV.out]; rfl, hR4.below⟩
    | some q =>
      have HV : Hid (Tg.atU hst prt (47 :: t) = (⟨hst, prt, Tg.straight (47 :: a') ++ q⟩, 0)) := Lib.hid (HAT.out (some _) HPL.out)
      have e0 : eres (some q) = .tuple #[.string (str q), .bool true] := rfl
      rw [e0]
      have hql := hcl2 q rfl
      have hsl := Tg.straight_len a'
      have cS := fun (W : World) (hb : Below w.heap.size w W) => straight_s a' W (by omega) (HM.out.later hb)
      have hz1 : (str (Tg.straight (47 :: a'))).size ≤ 90001 := by rw [str_size]; omega
      have hz2 : (str q).size ≤ 90000 := by rw [str_size]; exact hql
      have HSUM : Hid (str (Tg.straight (47 :: a')) ++ str q = str (Tg.straight (47 :: a') ++ q)) := Lib.hid (str_same (by rw [app_data, str_list, str_list]))
      clear HAT HPL hcl2 hal hql hsl HM HT
      generalize str (Tg.straight (47 :: a')) = X at *
      generalize str q = Y at *
      go_upto_region 9 with fail
      have hz3 : ¬ 9223372036854775807 < X.size + Y.size := by omega
      have hz4 : X.size + Y.size ≤ 9223372036854775807 := by omega
      have hc := box_cell hU3.cell
      have k0 := fun p : LateOf W3 => p.cell hc.1
      have k1 := fun p : LateOf W3 => p.cell hc.2.1
      have GC := fun p : LateOf W3 => late p (cC p.w)
      have GS := fun p : LateOf W3 => late p (cS p.w (hU3.below.trans (p.h.mono hU3.below.size)))
      have GR := fun p : LateOf W3 => hR3.later p.h
      have HGR := Lib.hid GR
      clear cC cS hU3 hR3 hc GR
      refine wp_region_late_tail 10 (by kernel_rfl) (by kernel_rfl) ?_
      simp only [List.take_succ_cons, List.take_zero, List.drop_succ_cons, List.drop_zero]
      quiet_step (fail)
      quiet_step (fail)
      quiet_step ((go_at_call 42; exact GC _))
      quiet_step (fail)
      quiet_step (fail)
      quiet_step (fail)
      quiet_step ((go_at_call 43; exact GS _))
      quiet_step (fail)
      quiet_step (fail)
      quiet_step (fail)
      refine wpQuiet_nil ?_
      intro w2 hw'
      obtain ⟨p, rfl⟩ := hw'
      have hRp := HGR.out p
      go_wp2_with (refine stU hRp rfl (.tmp 4) (.tmp 43) rfl _ _ _ rfl rfl ?_; intro W5 hR5 _)
      (try simp only [Exit.inBlock, Exit.then])
      refine ret_uri rfl G _ _ _ rfl hR5.cell rfl ?_
      exact ⟨by rw [HV.out, HSUM.out]; rfl, hR5.below⟩
end Go.Proofs.YtlikjfemkadciaaGreatDoor
