/- Package target: Parse, Of, Print, Right. -/
import Derived.Test.YtlikjfemkadciaaGreatDoorTg9
namespace Go.Proofs.YtlikjfemkadciaaGreatDoor
open Go.RowKit

theorem long_one (s : ByteArray) (l : List UInt8) (w : World) (hs : s = str l) :
    Calls Tryz.prog 19 #[.slice (some ⟨w.heap.size, 0, none⟩) 1 1] (w.alloc (.cells #[.string s] 9)) fun e w' => e = .returned (.bool (decide (8000 < l.length))) ∧ Below w.heap.size w w' := by
  refine (long_s _ [l] _ (SIn.one w s l hs) (by simp)).mono ?_
  rintro e w' ⟨he, rfl⟩
  have : longL [l] = decide (8000 < l.length) := by simp [longL]
  rw [this] at he
  exact ⟨he, (Below.refl _ _).alloc (Nat.le_refl _) _⟩
theorem long_two (s t : ByteArray) (l m : List UInt8) (w : World) (hs : s = str l) (ht : t = str m) :
    Calls Tryz.prog 19 #[.slice (some ⟨w.heap.size, 0, none⟩) 2 2] (w.alloc (.cells #[.string s, .string t] 9)) fun e w' => e = .returned (.bool (decide (8000 < l.length ∨ 8000 < m.length))) ∧ Below w.heap.size w w' := by
  refine (long_s _ [l, m] _ (SIn.two w s t l m hs ht) (by simp)).mono ?_
  rintro e w' ⟨he, rfl⟩
  have : longL [l, m] = decide (8000 < l.length ∨ 8000 < m.length) := by simp [longL]
  rw [this] at he
  exact ⟨he, (Below.refl _ _).alloc (Nat.le_refl _) _⟩
theorem pre_one (s : ByteArray) (l : List UInt8) (hs : s = str l) (c : UInt8) (w : World) :
    Calls Tryz.prog 23 #[.string s, .string ⟨#[c]⟩] w fun e w' => e = .returned (.bool (decide (l.head? = some c))) ∧ w' = w := by
  subst hs
  refine (Tryz.strings_HasPrefix (str l) ⟨#[c]⟩ w).mono ?_
  rintro e w' ⟨he, hw⟩
  refine ⟨?_, hw⟩
  rw [he, str_list]
  congr 2
  unfold Lib.hasPrefix
  cases l with
  | nil => rfl
  | cons d t =>
    show (([c] : List UInt8).isPrefixOf (d :: t)) = _
    simp [List.isPrefixOf, eq_comm, Bool.beq_eq_decide_eq]

set_option maxHeartbeats 3200000 in
set_option maxRecDepth 100000 in
theorem Parse_s (l : List UInt8) (w : World) (hl : l.length ≤ 1000000) (hm : MaxOk w) (hT : Tabs w) :
    Calls Tryz.prog 8 #[.string (str l)] w fun e w' => e = .returned (ures (Tg.parse l)) ∧ Below w.heap.size w w' := by
  obtain ⟨s, hs⟩ : ∃ s, s = str l := ⟨_, rfl⟩
  have hsd : s.data.toList = l := by rw [hs, str_list]
  have hsz : s.size = l.length := by rw [hs, str_size]
  rw [← hs]
  have cLo := fun w => long_one s l w hs
  have cAb := fun w => absolute_s s w (by omega)
  rw [hsd] at cAb
  have HP : Hid (Tg.parse l = if 8000 < l.length then (Tg.zero, 12) else if Tg.http l = false then (Tg.zero, 10) else match Tg.site ((l.drop 7).take (Tg.ahead Tg.sq (l.drop 7))) with | none => (Tg.zero, 10) | some x => Tg.atU x.1 x.2 (Tg.slash ((l.drop 7).drop (Tg.ahead Tg.sq (l.drop 7))))) := Lib.hid rfl
  have HM := Lib.hid hm
  have HT := Lib.hid hT
  have hR0 := Res.start w (.string ⟨#[]⟩) (.int .i64 0) (.string ⟨#[]⟩)
  by_cases h8 : 8000 < l.length
  · have HV : Hid (Tg.parse l = (Tg.zero, 12)) := by rw [HP.out, if_pos h8]; exact Lib.hid rfl
    rw [decide_eq_true h8] at cLo
    clear HP hm hT hs hsd hsz cAb h8
    go_enter Tryz.func8, Tryz.ntmps8
    go_upto_region 1 with fail
    generalize w.alloc (.cells #[.string ⟨#[]⟩, .int .i64 0, .string ⟨#[]⟩] 24) = W0 at hR0 ⊢
    go_wp2_with fail
    refine (cLo _).mono ?_
    rintro e W1 ⟨rfl, hb1⟩
    have hR1 := hR0.later hb1
    go_wp2_with (refine stU hR1 rfl (.tmp 2) (.tmp 11) rfl _ _ _ rfl rfl ?_; intro W2 hR2 _)
    (try simp only [Exit.inBlock, Exit.then])
    refine ret_uri rfl w.heap.size _ _ _ rfl hR2.cell rfl ?_
    exact ⟨by rw [HV.out]; rfl, hR2.below⟩
  rw [decide_eq_false h8] at cLo
  by_cases hh : Tg.http l = false
  · have HV : Hid (Tg.parse l = (Tg.zero, 10)) := by rw [HP.out, if_neg h8, if_pos hh]; exact Lib.hid rfl
    rw [hh] at cAb
    clear HP hm hT hs hsd hsz h8 hh
    go_enter Tryz.func8, Tryz.ntmps8
    go_upto_region 1 with fail
    generalize w.alloc (.cells #[.string ⟨#[]⟩, .int .i64 0, .string ⟨#[]⟩] 24) = W0 at hR0 ⊢
    go_wp2_with fail
    refine (cLo _).mono ?_
    rintro e W1 ⟨rfl, hb1⟩
    have hR1 := hR0.later hb1
    go_wp2_with fail
    refine (cAb _).mono ?_
    rintro e W2 ⟨rfl, hb2⟩
    have hR2 := hR1.later hb2
    go_wp2_with (refine stU hR2 rfl (.tmp 2) (.tmp 15) rfl _ _ _ rfl rfl ?_; intro W3 hR3 _)
    (try simp only [Exit.inBlock, Exit.then])
    refine ret_uri rfl w.heap.size _ _ _ rfl hR3.cell rfl ?_
    exact ⟨by rw [HV.out]; rfl, hR3.below⟩
  have hht : Tg.http l = true := by simpa using hh
  have h7 : 7 ≤ l.length := by unfold Tg.http at hht; simp at hht; exact hht.1
  have HP2 : Hid (∀ r, Tg.site ((l.drop 7).take (Tg.ahead Tg.sq (l.drop 7))) = r → Tg.parse l = match r with | none => (Tg.zero, 10) | some x => Tg.atU x.1 x.2 (Tg.slash ((l.drop 7).drop (Tg.ahead Tg.sq (l.drop 7))))) := Lib.hid (by rintro r rfl; rw [HP.out, if_neg h8, if_neg hh])
  rw [hht] at cAb
  have e7 : s.extract 7 s.size = str (l.drop 7) := by
    refine str_same ?_
    rw [Lib.extract_data, hsd, List.take_of_length_le]
    simp; omega
  have cAh := fun w => ahead_sq (s.extract 7 s.size) w (by simp; omega)
  have e7d : (s.extract 7 s.size).data.toList = l.drop 7 := by rw [e7, str_list]
  rw [e7d] at cAh
  have hsl := Tg.slash_head ((l.drop 7).drop (Tg.ahead Tg.sq (l.drop 7)))
  have hahl := Tg.ahead_le Tg.sq (l.drop 7)
  have hsize7 : (s.extract 7 s.size).size = l.length - 7 := by rw [Lib.size_eq, e7d, List.length_drop]
  rw [List.length_drop] at hahl
  generalize Tg.ahead Tg.sq (l.drop 7) = N at *
  have eh : (s.extract 7 s.size).extract 0 N = str ((l.drop 7).take N) := by
    refine str_same ?_
    rw [Lib.extract_data, e7d]; simp
  have el : (s.extract 7 s.size).extract N (s.size - 7) = str ((l.drop 7).drop N) := by
    refine str_same ?_
    rw [Lib.extract_data, e7d, List.take_of_length_le]
    simp; omega
  have cSi := fun w => site_s ((l.drop 7).take N) w (by simp; omega)
  rw [← eh] at cSi
  have hs7 : (7 : Int) ≤ s.size := by omega
  have hsN : (N : Int) ≤ (s.extract 7 s.size).size := by omega
  obtain ⟨t2, ht2, ht2l⟩ := hsl
  have cAt := fun (x : List UInt8 × Int) (hx : x.1.length ≤ 100000) (W : World) (hb : Below w.heap.size w W) => at_s ⟨x.1, x.2, []⟩ t2 W hx (by simp at ht2l; omega) (HM.out.later hb) (HT.out.later hb)
  have hsf := fun (x : List UInt8 × Int) (hx : Tg.site ((l.drop 7).take N) = some x) => (Tg.site_facts (l := (l.drop 7).take N) (h := x.1) (k := x.2) hx).2
  have htk : ((l.drop 7).take N).length ≤ 8000 := by simp; omega
  clear HP hm hT h8 hh hht e7 hahl
  cases hsi : Tg.site ((l.drop 7).take N) with
  | none =>
    have HV : Hid (Tg.parse l = (Tg.zero, 10)) := Lib.hid (HP2.out none hsi)
    have e0 : sres none = .tuple #[.agg #[.string ⟨#[]⟩, .int .i64 0, .string ⟨#[]⟩], .bool false] := rfl
    rw [hsi, e0] at cSi
    clear HP2 hsi cAt hsf htk e0 ht2 ht2l el eh e7d hsd hs hsz hsize7 h7 hl
    go_enter Tryz.func8, Tryz.ntmps8
    go_upto_region 1 with fail
    generalize w.alloc (.cells #[.string ⟨#[]⟩, .int .i64 0, .string ⟨#[]⟩] 24) = W0 at hR0 ⊢
    go_wp2_with fail
    refine (cLo _).mono ?_
    rintro e W1 ⟨rfl, hb1⟩
    have hR1 := hR0.later hb1
    go_wp2_with fail
    refine (cAb _).mono ?_
    rintro e W2 ⟨rfl, hb2⟩
    have hR2 := hR1.later hb2
    go_wp2_with fail
    refine (cAh _).mono ?_
    rintro e W3 ⟨rfl, hb3⟩
    have hR3 := hR2.later hb3
    go_wp2_with fail
    refine (cSi _).mono ?_
    rintro e W4 ⟨rfl, hb4⟩
    have hR4 := (hR3.later hb4).alloc (.cells #[.string ⟨#[]⟩, .int .i64 0, .string ⟨#[]⟩] 24)
    clear hR0 hR1 hR2 hR3 hb1 hb2 hb3 hb4
    go_wp2_with (refine stU hR4 rfl (.tmp 2) (.tmp 29) rfl _ _ _ rfl rfl ?_; intro W5 hR5 _)
    (try simp only [Exit.inBlock, Exit.then])
    refine ret_uri rfl w.heap.size _ _ _ rfl hR5.cell rfl ?_
    exact ⟨by rw [HV.out]; rfl, hR5.below⟩
  | some x =>
    have hxl := hsf x hsi
    have HV : Hid (Tg.parse l = Tg.atU x.1 x.2 (47 :: t2)) := by rw [← ht2]; exact Lib.hid (HP2.out (some x) hsi)
    have cAt := cAt x (by omega)
    obtain ⟨xh, xk⟩ := x
    simp only [] at cAt HV
    rw [uval_mk] at cAt
    have e0 : sres (some (xh, xk)) = .tuple #[.agg #[.string (str xh), .int .i64 xk, .string ⟨#[]⟩], .bool true] := rfl
    rw [hsi, e0] at cSi
    have e00 : str [] = ⟨#[]⟩ := rfl
    rw [e00] at cAt
    obtain ⟨⟨⟨ra, rb, rc⟩, rd⟩, hr⟩ : ∃ r, Tg.atU xh xk (47 :: t2) = r := ⟨_, rfl⟩
    have e1 : ures (⟨ra, rb, rc⟩, rd) = .tuple #[.agg #[.string (str ra), .int .i64 rb, .string (str rc)], .int .i64 rd] := rfl
    rw [hr, e1] at cAt
    rw [hr] at HV
    generalize str xh = sh at *
    have cPr := fun (W : World) => pre_one ((s.extract 7 s.size).extract N (s.size - 7)) _ el 47 W
    by_cases h47 : ((l.drop 7).drop N).head? = some 47
    · have hst2 : str (47 :: t2) = (s.extract 7 s.size).extract N (s.size - 7) := by rw [el, ← ht2]; unfold Tg.slash; rw [if_pos h47]
      rw [decide_eq_true h47] at cPr
      rw [hst2] at cAt
      clear HP2 hsi hsf htk e0 ht2 ht2l el eh e7d hsd hs hsz hsize7 h7 hl h47 hst2 hr e1 hxl
      go_enter Tryz.func8, Tryz.ntmps8
      go_upto_region 1 with fail
      generalize w.alloc (.cells #[.string ⟨#[]⟩, .int .i64 0, .string ⟨#[]⟩] 24) = W0 at hR0 ⊢
      go_wp2_with fail
      refine (cLo _).mono ?_
      rintro e W1 ⟨rfl, hb1⟩
      have hR1 := hR0.later hb1
      go_wp2_with fail
      refine (cAb _).mono ?_
      rintro e W2 ⟨rfl, hb2⟩
      have hR2 := hR1.later hb2
      go_wp2_with fail
      refine (cAh _).mono ?_
      rintro e W3 ⟨rfl, hb3⟩
      have hR3 := hR2.later hb3
      go_wp2_with fail
      refine (cSi _).mono ?_
      rintro e W4 ⟨rfl, hb4⟩
      have hR4 := (hR3.later hb4).alloc (.cells #[.string sh, .int .i64 xk, .string ⟨#[]⟩] 24)
      have hS4 := Res.start W4 (.string sh) (.int .i64 xk) (.string ⟨#[]⟩)
      clear hR0 hR1 hR2 hR3 hb1 hb2 hb3 hb4 cLo cAb cAh cSi
      go_upto_region 8 with fail
      generalize W4.alloc (.cells #[.string sh, .int .i64 xk, .string ⟨#[]⟩] 24) = W5 at hR4 hS4 ⊢
      generalize W4.heap.size = G5 at hS4 ⊢
      go_wp2_with fail
      refine (cPr _).mono ?_
      rintro e W6 ⟨rfl, rfl⟩
      go_wp2_with (refine ldU hS4.cell rfl (.tmp 5) rfl rfl ?_)
      refine (cAt _ hR4.below).mono ?_
      rintro e W7 ⟨rfl, hb7⟩
      have hR7 := hR4.later hb7
      go_wp2_with (refine stU hR7 rfl (.tmp 2) (.tmp 41) rfl _ _ _ rfl rfl ?_; intro W8 hR8 _)
      (try simp only [Exit.inBlock, Exit.then])
      refine ret_uri rfl w.heap.size _ _ _ rfl hR8.cell rfl ?_
      exact ⟨by rw [HV.out]; rfl, hR8.below⟩
    · have hsum : (⟨#[47]⟩ : ByteArray) ++ (s.extract 7 s.size).extract N (s.size - 7) = str (47 :: t2) := by
        refine str_same ?_
        rw [app_data, el, str_list, ← ht2]; unfold Tg.slash; rw [if_neg h47]; rfl
      rw [decide_eq_false h47] at cPr
      rw [← hsum] at cAt
      have hsz9 : ((s.extract 7 s.size).extract N (s.size - 7)).size ≤ 1000000 := by rw [el, str_size]; simp; omega
      clear HP2 hsi hsf htk e0 ht2 ht2l el eh e7d hsd hs hsz hsize7 h7 hl h47 hsum hr e1 hxl
      go_enter Tryz.func8, Tryz.ntmps8
      go_upto_region 1 with fail
      generalize w.alloc (.cells #[.string ⟨#[]⟩, .int .i64 0, .string ⟨#[]⟩] 24) = W0 at hR0 ⊢
      go_wp2_with fail
      refine (cLo _).mono ?_
      rintro e W1 ⟨rfl, hb1⟩
      have hR1 := hR0.later hb1
      go_wp2_with fail
      refine (cAb _).mono ?_
      rintro e W2 ⟨rfl, hb2⟩
      have hR2 := hR1.later hb2
      go_wp2_with fail
      refine (cAh _).mono ?_
      rintro e W3 ⟨rfl, hb3⟩
      have hR3 := hR2.later hb3
      go_wp2_with fail
      refine (cSi _).mono ?_
      rintro e W4 ⟨rfl, hb4⟩
      have hR4 := (hR3.later hb4).alloc (.cells #[.string sh, .int .i64 xk, .string ⟨#[]⟩] 24)
      have hS4 := Res.start W4 (.string sh) (.int .i64 xk) (.string ⟨#[]⟩)
      clear hR0 hR1 hR2 hR3 hb1 hb2 hb3 hb4 cLo cAb cAh cSi
      go_upto_region 8 with fail
      generalize W4.alloc (.cells #[.string sh, .int .i64 xk, .string ⟨#[]⟩] 24) = W5 at hR4 hS4 ⊢
      generalize W4.heap.size = G5 at hS4 ⊢
      go_wp2_with fail
      refine (cPr _).mono ?_
      rintro e W6 ⟨rfl, rfl⟩
      generalize (s.extract 7 s.size).extract N (s.size - 7) = Y at cAt hsz9 ⊢
      go_wp2_with (refine ldU hS4.cell rfl (.tmp 5) rfl rfl ?_)
      refine (cAt _ hR4.below).mono ?_
      rintro e W7 ⟨rfl, hb7⟩
      have hR7 := hR4.later hb7
      go_wp2_with (refine stU hR7 rfl (.tmp 2) (.tmp 41) rfl _ _ _ rfl rfl ?_; intro W8 hR8 _)
      (try simp only [Exit.inBlock, Exit.then])
      refine ret_uri rfl w.heap.size _ _ _ rfl hR8.cell rfl ?_
      exact ⟨by rw [HV.out]; rfl, hR8.below⟩
end Go.Proofs.YtlikjfemkadciaaGreatDoor
