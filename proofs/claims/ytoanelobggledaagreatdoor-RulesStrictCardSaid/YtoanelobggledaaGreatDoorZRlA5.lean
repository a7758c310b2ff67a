/- The statements of layer 11: RulesStrict. -/
import Derived.Test.YtoanelobggledaaGreatDoorProg
import Derived.Test.YtoanelobggledaaGreatDoorZM1
import Derived.Test.YtoanelobggledaaGreatDoorZM2
import Derived.Test.YtoanelobggledaaGreatDoorZOctBase
import Derived.Test.YtoanelobggledaaGreatDoorZFd
import Derived.Test.YtoanelobggledaaGreatDoorZCt
import Derived.Test.YtoanelobggledaaGreatDoorZR1
import Derived.Test.YtoanelobggledaaGreatDoorZRlB
import Derived.Test.YtoanelobggledaaGreatDoorZRlF
import Derived.Test.YtoanelobggledaaGreatDoorZRl3
import Derived.Test.YtoanelobggledaaGreatDoorZRpC
import Derived.BigQuiet
import Derived.Deep.CutBlock
import Derived.Deep.DeepCutAuto
import Derived.Deep.LoopGhost
import Derived.Deep.QuietTactic
import Derived.Deep.RegionHeld3
import Derived.Deep.RegionLaw
import Derived.Deep.RegionWith
import Derived.Ground.SlbCloneProg
import Derived.IntWalk
import Derived.Laws.AppendOwnNone
import Derived.Laws.Externs
import Derived.Laws.OwnMore
import Derived.Laws.RangeString
import Derived.Lib.AppendStr
import Derived.Lib.AppendZerosOnto
import Derived.Lib.BufferRead
import Derived.Lib.Bytealg
import Derived.Lib.ConvBytes
import Derived.Lib.FieldsP
import Derived.Lib.Hide
import Derived.Lib.IndexBytes
import Derived.Lib.IndexMore
import Derived.Lib.ItoaNum
import Derived.Lib.Join
import Derived.Lib.SlTrimSet
import Derived.Lib.SlicesCompact
import Derived.Lib.UnsafeStr
import Derived.LoopTactic
import Derived.Maps.AppendAt
import Derived.Maps.OwnSet
import Derived.Shelf.Bytes.SlClone
import Derived.Shelf.LaysM
import Derived.Shelf.Slices.CompactS
import Derived.Shelf.Slices.In.SortNone
import Derived.Shelf.Small.Bits
import Derived.Shelf.Small.Strs
import Derived.Shelf.Small.Utf8
import Derived.Shelf.Small.Wraps
import Derived.Shelf.Sort.Plain
import Derived.Shelf.Spec.TrailingZeros
import Derived.Shelf.Strconv.Clone
import Derived.Shelf.Strconv.Itoa0
import Derived.Shelf.Strconv.Itoa1
import Derived.Shelf.Strconv.Itoa2
import Derived.Shelf.Strconv.Itoa3
import Derived.Shelf.Strconv.Itoa4
import Derived.Shelf.Strings.AsciiSet
import Derived.Shelf.Strings.Builder1
import Derived.Shelf.Strings.Builder2
import Derived.Shelf.Strings.Count
import Derived.Shelf.Strings.Cut
import Derived.Shelf.Strings.FieldsFuncAny
import Derived.Shelf.Strings.FieldsFuncGrows
import Derived.Shelf.Strings.IndexAny
import Derived.Shelf.Strings.IndexAnyAll
import Derived.Shelf.Strings.LastIndex
import Derived.Shelf.Strings.OnBuilder
import Derived.Shelf.Strings.Prefix
import Derived.Shelf.Strings.Runes
import Derived.Shelf.Strings.Search1
import Derived.Shelf.Strings.Search2
import Derived.Shelf.Strings.Search3
import Derived.Shelf.Strings.Shaped
import Derived.Shelf.Strings.SlTrimAscii
import Derived.Shelf.Strings.Split
import Derived.Shelf.Strings.SplitShaped
import Derived.Shelf.Strings.Trim
import Derived.Shelf.Unicode.CaseConvert
import Derived.Shelf.Unicode.CaseLaid
import Derived.Shelf.Unicode.CaseLookup
import Derived.Shelf.Unicode.CaseTo
import Derived.Shelf.Unicode.DecodeAny
import Derived.Shelf.Unicode.DecodeLast
import Derived.Shelf.Unicode.DecodeSlow
import Derived.Shelf.Unicode.Latin
import Derived.SliceStrings
import Derived.StillTailTactics
import Derived.StringKeys
import Derived.WalkKit
import Derived.WalkLawsBesides
import Derived.WalkSpells
namespace Go.Proofs.YtoanelobggledaaGreatDoor
open Go.RowKit

set_option maxHeartbeats 6400000 in
set_option maxRecDepth 100000 in
theorem strict_w {Env : World → Prop} (R : Prog11 D0 Env) (m n : Msg) (how : Int) (w : World) (he : Env w) (hm : MOk w m) (hn : MOk w n) :
    Calls Tryz.prog 8 #[m.val, n.val, .int .i64 how] w fun e w' => e = .returned (.bool true) ∧ Below w.heap.size w w' := by
  have cA : Hid (∀ W', Below w.heap.size w W' → Calls Tryz.prog 10 #[] W' fun e w' => e = .returned (.bool true) ∧ Below W'.heap.size W' w') := Lib.hid fun W' hb => awake_w R W' (R.later he hb)
  have HE := Lib.hid (fun (W' : World) (hb : Below w.heap.size w W') => R.later he hb)
  obtain ⟨a, b, c, st, mi, fv, bv, fs, bl⟩ := m
  obtain ⟨a', b', c', st', mi', fv', bv', fs', bl'⟩ := n
  obtain ⟨fa, fc, hfv, hx8⟩ := hm.fin
  obtain ⟨ba, bc, hbv⟩ := hm.body
  obtain ⟨fa', fc', hfv', hx9⟩ := hn.fin
  obtain ⟨ba', bc', hbv'⟩ := hn.body
  clear hx8 hx9
  dsimp only at hfv hbv hfv' hbv'
  subst hfv hbv hfv' hbv'
  unfold Msg.val
  dsimp only
  have cS : Hid (∀ (g : Nat) W', Below w.heap.size w W' → W'.heap[g]? = some (.cells #[.string a, .string b, .int .i64 st, .string c, .int .i64 mi, .slice fa fs.length fc, .slice ba bl bc, .string a', .string b', .int .i64 st', .string c', .int .i64 mi', .slice fa' fs'.length fc', .slice ba' bl' bc'] 27 (0, 0)) → Calls Tryz.prog 11 #[.slice (some ⟨g, 0, none⟩) 2 2] W' fun e w' => e = .returned (.bool ([(⟨a, b, c, st, mi, .slice fa fs.length fc, .slice ba bl bc, fs, bl⟩ : Msg), ⟨a', b', c', st', mi', .slice fa' fs'.length fc', .slice ba' bl' bc', fs', bl'⟩].all shortB)) ∧ Below W'.heap.size W' w') := Lib.hid fun g W' hb h =>
    short_w g 2 [⟨a, b, c, st, mi, .slice fa fs.length fc, .slice ba bl bc, fs, bl⟩, ⟨a', b', c', st', mi', .slice fa' fs'.length fc', .slice ba' bl' bc', fs', bl'⟩] W' rfl (by decide) (MRow.two (m := ⟨a, b, c, st, mi, .slice fa fs.length fc, .slice ba bl bc, fs, bl⟩) (n := ⟨a', b', c', st', mi', .slice fa' fs'.length fc', .slice ba' bl' bc', fs', bl'⟩) h) (fun q hq => by
      rcases List.mem_cons.1 hq with rfl | hq
      · exact hm.later hb
      · obtain rfl := List.mem_singleton.1 hq; exact hn.later hb)
  have HSH : Hid ([(⟨a, b, c, st, mi, .slice fa fs.length fc, .slice ba bl bc, fs, bl⟩ : Msg), ⟨a', b', c', st', mi', .slice fa' fs'.length fc', .slice ba' bl' bc', fs', bl'⟩].all shortB = true → ((Mid fs ∧ bl ≤ 1000 ∧ a.size ≤ 100) ∧ (Mid fs' ∧ bl' ≤ 1000 ∧ a'.size ≤ 100)) ∧ Mid (fs ++ [(Rl.nCCU, Rl.vNS)]) ∧ Mid (fs' ++ [(Rl.nCCU, Rl.vNS)]) ∧ Mid ((Rl.nCCU, Rl.vPR) :: fs')) := Lib.hid fun h => by
    have h2 : shortB ⟨a, b, c, st, mi, .slice fa fs.length fc, .slice ba bl bc, fs, bl⟩ = true ∧ shortB ⟨a', b', c', st', mi', .slice fa' fs'.length fc', .slice ba' bl' bc', fs', bl'⟩ = true := by simpa using h
    have h3 : (Rl.kept fs).length ≤ 30 := by rw [Rl.kept_drop]; exact Nat.le_trans (Fld.drop_length _ _) (shortB_few h2.1)
    have h4 : fs'.length ≤ 30 := shortB_few h2.2
    have h5 : fs.length ≤ 30 := shortB_few h2.1
    exact ⟨⟨shortB_spec h2.1, shortB_spec h2.2⟩, mid_snoc (shortB_spec h2.1).1 h5 (by decide) (by decide), mid_snoc (shortB_spec h2.2).1 h4 (by decide) (by decide), mid_cons (shortB_spec h2.2).1 h4 (by decide) (by decide)⟩
  generalize [(⟨a, b, c, st, mi, .slice fa fs.length fc, .slice ba bl bc, fs, bl⟩ : Msg), ⟨a', b', c', st', mi', .slice fa' fs'.length fc', .slice ba' bl' bc', fs', bl'⟩].all shortB = sh at *
  have HF1 := Lib.hid hm.fin
  have HF2 := Lib.hid hn.fin
  obtain ⟨x1, hx1, hxl1⟩ := hm.bin
  obtain ⟨x2, hx2, hxl2⟩ := hn.bin
  have HN1 := Lib.hid hm.nil
  have HN2 := Lib.hid hn.nil
  have HS1 := Lib.hid hm.blim
  change Hid (b.size ≤ 281474976710656 ∧ c.size ≤ 281474976710656) at HS1
  dsimp only at hx1 hxl1 hx2 hxl2
  have HX1 := Lib.hid hx1
  have HX2 := Lib.hid hx2
  have HL1 := Lib.hid hxl1
  have HL2 := Lib.hid hxl2
  change Hid (FIn w (.slice fa fs.length fc) fs) at HF1
  change Hid (FIn w (.slice fa' fs'.length fc') fs') at HF2
  change Hid (NilOk (.slice fa fs.length fc)) at HN1
  change Hid (NilOk (.slice fa' fs'.length fc')) at HN2
  clear hm hn hx1 hx2 hxl1 hxl2 he
  generalize fs.length = fl at *
  generalize fs'.length = fl' at *
  obtain ⟨W, hW⟩ : ∃ W, W = (w.alloc (.cells #[.string a, .string b, .int .i64 st, .string c, .int .i64 mi, .slice fa fl fc, .slice ba bl bc] 27)).alloc (.cells #[.string a', .string b', .int .i64 st', .string c', .int .i64 mi', .slice fa' fl' fc', .slice ba' bl' bc'] 27) := ⟨_, rfl⟩
  have hbw : Below w.heap.size w W := by rw [hW]; exact ((Below.refl _ w).alloc (Nat.le_refl _) _).alloc (by simp) _
  have q0 : W.heap[w.heap.size]? = some (.cells #[.string a, .string b, .int .i64 st, .string c, .int .i64 mi, .slice fa fl fc, .slice ba bl bc] 27 (0, 0)) := by rw [hW]; exact blk_stay (heap_alloc_new w _) ((Below.refl _ _).alloc (Nat.le_refl _) _)
  have q1 : W.heap[w.heap.size + 1]? = some (.cells #[.string a', .string b', .int .i64 st', .string c', .int .i64 mi', .slice fa' fl' fc', .slice ba' bl' bc'] 27 (0, 0)) := by rw [hW]; exact heap_alloc2_new w _ _
  have HM := Lib.hid (fun (W' : World) (hb : Below W.heap.size W W') => set7' (blk_stay q0 hb))
  have HN := Lib.hid (fun (W' : World) (hb : Below W.heap.size W W') => set7' (blk_stay q1 hb))
  have hWW := Below.refl W.heap.size W
  have HQ0 := Lib.hid q0
  have HQ1 := Lib.hid q1
  clear q0 q1
  unfold mv mcell at *
  obtain ⟨m0, m1, m2, m3, m4, m5, m6⟩ := HM.out W hWW
  obtain ⟨n0, n1, n2, n3, n4, n5, n6⟩ := HN.out W hWW
  go_enter Tryz.func8, Tryz.ntmps8
  go_upto_region 1 with fail
  rw [← hW]
  clear hW
  go_wp2_with fail
  refine (cA.out W hbw).mono ?_
  rintro e w1 ⟨rfl, hx1⟩
  have hbw1 := hbw.trans (hx1.mono hbw.size)
  have hWw1 := hWW.trans (hx1.mono hWW.size)
  clear hx1 m0 m1 m2 m3 m4 m5 m6 n0 n1 n2 n3 n4 n5 n6
  obtain ⟨m0, m1, m2, m3, m4, m5, m6⟩ := HM.out w1 hWw1
  obtain ⟨n0, n1, n2, n3, n4, n5, n6⟩ := HN.out w1 hWw1
  have hr2 := heap_alloc_new w1 (.cells #[.string a, .string b, .int .i64 st, .string c, .int .i64 mi, .slice fa fl fc, .slice ba bl bc, .string a', .string b', .int .i64 st', .string c', .int .i64 mi', .slice fa' fl' fc', .slice ba' bl' bc'] 27)
  have hx2 : Below w1.heap.size w1 (w1.alloc (.cells #[.string a, .string b, .int .i64 st, .string c, .int .i64 mi, .slice fa fl fc, .slice ba bl bc, .string a', .string b', .int .i64 st', .string c', .int .i64 mi', .slice fa' fl' fc', .slice ba' bl' bc'] 27)) := (Below.refl _ _).alloc (Nat.le_refl _) _
  have hbw2 := hbw1.trans (hx2.mono hbw1.size)
  have hWw2 := hWw1.trans (hx2.mono hWw1.size)
  have cS2 := cS.out w1.heap.size _ hbw2 hr2
  clear hx2 hr2
  go_wp2_with fail
  refine cS2.mono ?_
  rintro e w3 ⟨rfl, hx3⟩
  have hbw3 := hbw2.trans (hx3.mono hbw2.size)
  have hWw3 := hWw2.trans (hx3.mono hWw2.size)
  clear hx3 cS2 cS hbw2 hWw2 hbw1 hWw1 m0 m1 m2 m3 m4 m5 m6 n0 n1 n2 n3 n4 n5 n6
  cases sh with
  | false =>
    go_wp2_with fail
    refine (cA.out w3 hbw3).mono ?_
    rintro e w4 ⟨rfl, hx4⟩
    go_wp2_with fail
    go_ret
    exact ⟨rfl, hbw3.trans (hx4.mono hbw3.size)⟩
  | true =>
    obtain ⟨⟨⟨p1, p2, p3⟩, q1, q2, q3⟩, p4, q4⟩ := HSH.out rfl
    clear HSH cA
    obtain ⟨h1q, hq1⟩ : ∃ q, how.tmod 4 = q := ⟨_, rfl⟩
    have b1 : -4 < h1q ∧ h1q < 4 := by rw [← hq1]; exact ⟨Int.lt_tmod_of_pos how (by omega), Int.tmod_lt_of_pos how (by omega)⟩
    obtain ⟨b10, b11⟩ := b1
    obtain ⟨J, hJ⟩ : ∃ J, (h1q + 4).tmod 4 = J := ⟨_, rfl⟩
    have hJ4 : J = 0 ∨ J = 1 ∨ J = 2 ∨ J = 3 := by
      have h1 := Int.tmod_nonneg 4 (show 0 ≤ h1q + 4 by omega)
      have h2 := Int.tmod_lt_of_pos (h1q + 4) (show (0 : Int) < 4 by omega)
      omega
    have D3 := fun W' (hb : Below w.heap.size w W') => R.storable a b c a' b' c' st mi st' mi' (.slice fa fl fc) (.slice ba bl bc) (.slice fa' fl' fc') (.slice ba' bl' bc') fs fs' W' (HE.out W' hb) (HF1.out.later hb) ⟨_, _, _, rfl⟩ p1 (HF2.out.later hb) ⟨_, _, _, rfl⟩ q1 p3
    have D4 := fun W' (hb : Below w.heap.size w W') => R.storable (str Rl.mHead) b c a' b' c' st mi st' mi' (.slice fa fl fc) (.slice ba bl bc) (.slice fa' fl' fc') (.slice ba' bl' bc') fs fs' W' (HE.out W' hb) (HF1.out.later hb) ⟨_, _, _, rfl⟩ p1 (HF2.out.later hb) ⟨_, _, _, rfl⟩ q1 (by decide)
    have D0' := Lib.hid (fun f W' (hb : Below w.heap.size w W') (hf : FIn W' f (fs' ++ [(Rl.nCCU, Rl.vNS)])) => R.storable a b c a' b' c' st mi st' mi' (.slice fa fl fc) (.slice ba bl bc) f (.slice ba' bl' bc') fs _ W' (HE.out W' hb) (HF1.out.later hb) ⟨_, _, _, rfl⟩ p1 hf ⟨_, _, _, rfl⟩ q4.1 p3)
    have D1' := Lib.hid (fun f W' (hb : Below w.heap.size w W') (hf : FIn W' f ((Rl.nCCU, Rl.vPR) :: fs')) => R.storable a b c a' b' c' st mi st' mi' (.slice fa fl fc) (.slice ba bl bc) f (.slice ba' bl' bc') fs _ W' (HE.out W' hb) (HF1.out.later hb) ⟨_, _, _, rfl⟩ p1 hf ⟨_, _, _, rfl⟩ q4.2 p3)
    have D2' := Lib.hid (fun f W' (hb : Below w.heap.size w W') (hf : FIn W' f (fs ++ [(Rl.nCCU, Rl.vNS)])) => R.storable a b c a' b' c' st mi st' mi' f (.slice ba bl bc) (.slice fa' fl' fc') (.slice ba' bl' bc') _ fs' W' (HE.out W' hb) hf ⟨_, _, _, rfl⟩ p4 (HF2.out.later hb) ⟨_, _, _, rfl⟩ q1 p3)
    rw [Rl.strict0] at D0'
    rw [Rl.strict1] at D1'
    rw [Rl.strict2] at D2'
    rw [Rl.strict3 D0 _ fs st' fs' (show (str Rl.mHead).data.toList ≠ Rl.mGet by decide)] at D4
    have ka : fs.length + 1 ≤ 1000000000 := by have := p1.1; omega
    have kb : fs'.length + 1 ≤ 1000000000 := by have := q1.1; omega
    clear HX1 HX2 HL1 HL2 R p1 p2 p3 p4 q1 q2 q3 q4 HE
    unfold mv mcell at *
    obtain ⟨m0, m1, m2, m3, m4, m5, m6⟩ := HM.out w3 hWw3
    obtain ⟨n0, n1, n2, n3, n4, n5, n6⟩ := HN.out w3 hWw3
    go_upto_region 4 with fail
    change Code.wp _ _ _ _ (w3.alloc (.cells #[.string (str Rl.nCCU), .string (str Rl.vNS)] 53))
    have hz := (Below.refl w3.heap.size w3).alloc (Nat.le_refl _) (.cells #[.string (str Rl.nCCU), .string (str Rl.vNS)] 53)
    have rF := heap_alloc_new w3 (.cells #[.string (str Rl.nCCU), .string (str Rl.vNS)] 53)
    generalize w3.alloc (.cells #[.string (str Rl.nCCU), .string (str Rl.vNS)] 53) = z at *
    have hg0 : ∃ g, g = w3.heap.size ∧ w.heap.size ≤ g ∧ W.heap.size ≤ g := ⟨_, rfl, hbw3.size, hWw3.size⟩
    obtain ⟨gF, hgF, hg1, hg2⟩ := hg0
    rw [← hgF] at rF ⊢
    clear hgF
    have hbz := hbw3.trans (hz.mono hbw3.size)
    have hWz := hWw3.trans (hz.mono hWw3.size)
    clear hz hbw3 hWw3 m0 m1 m2 m3 m4 m5 m6 n0 n1 n2 n3 n4 n5 n6
    have b0 := blk_stay HQ0.out hWz
    have b1 := blk_stay HQ1.out hWz
    rcases hJ4 with rfl | rfl | rfl | rfl
    · clear D3 D4 D1' D2' HN1 ka HQ0 HQ1
      have pZ := Below.refl z.heap.size z
      have pA : Below z.heap.size z (z.alloc (.cells #[] 53)) := pZ.alloc (Nat.le_refl _) _
      have pB : Below z.heap.size z (z.alloc (.cells #[.string (str Rl.nCCU), .string (str Rl.vNS)] 53)) := pZ.alloc (Nat.le_refl _) _
      have pAB : Below z.heap.size z ((z.alloc (.cells #[] 53)).alloc (.cells #[.string (str Rl.nCCU), .string (str Rl.vNS)] 53)) := pA.alloc (by simp) _
      have pBA : Below z.heap.size z ((z.alloc (.cells #[.string (str Rl.nCCU), .string (str Rl.vNS)] 53)).alloc (.cells #[] 53)) := pB.alloc (by simp) _
      have u1 := (set7' (blk_stay b1 pZ)).2.2.2.2.2.1
      have g1 := (cells2 (blk_stay rF pZ)).1
      have h1 := (cells2 (blk_stay rF pZ)).2
      have U1 : (z).drew.cell? ⟨w.heap.size + 1, 5, none⟩ = _ := u1
      have G1 : (z).drew.cell? ⟨gF, 0, none⟩ = _ := g1
      have H1 : (z).drew.cell? ⟨gF, 1, none⟩ = _ := h1
      have u2 := (set7' (blk_stay b1 pA)).2.2.2.2.2.1
      have g2 := (cells2 (blk_stay rF pA)).1
      have h2 := (cells2 (blk_stay rF pA)).2
      have U2 : (z.alloc (.cells #[] 53)).drew.cell? ⟨w.heap.size + 1, 5, none⟩ = _ := u2
      have G2 : (z.alloc (.cells #[] 53)).drew.cell? ⟨gF, 0, none⟩ = _ := g2
      have H2 : (z.alloc (.cells #[] 53)).drew.cell? ⟨gF, 1, none⟩ = _ := h2
      have u3 := (set7' (blk_stay b1 pB)).2.2.2.2.2.1
      have g3 := (cells2 (blk_stay rF pB)).1
      have h3 := (cells2 (blk_stay rF pB)).2
      have U3 : (z.alloc (.cells #[.string (str Rl.nCCU), .string (str Rl.vNS)] 53)).drew.cell? ⟨w.heap.size + 1, 5, none⟩ = _ := u3
      have G3 : (z.alloc (.cells #[.string (str Rl.nCCU), .string (str Rl.vNS)] 53)).drew.cell? ⟨gF, 0, none⟩ = _ := g3
      have H3 : (z.alloc (.cells #[.string (str Rl.nCCU), .string (str Rl.vNS)] 53)).drew.cell? ⟨gF, 1, none⟩ = _ := h3
      have u4 := (set7' (blk_stay b1 pAB)).2.2.2.2.2.1
      have g4 := (cells2 (blk_stay rF pAB)).1
      have h4 := (cells2 (blk_stay rF pAB)).2
      have U4 : ((z.alloc (.cells #[] 53)).alloc (.cells #[.string (str Rl.nCCU), .string (str Rl.vNS)] 53)).drew.cell? ⟨w.heap.size + 1, 5, none⟩ = _ := u4
      have G4 : ((z.alloc (.cells #[] 53)).alloc (.cells #[.string (str Rl.nCCU), .string (str Rl.vNS)] 53)).drew.cell? ⟨gF, 0, none⟩ = _ := g4
      have H4 : ((z.alloc (.cells #[] 53)).alloc (.cells #[.string (str Rl.nCCU), .string (str Rl.vNS)] 53)).drew.cell? ⟨gF, 1, none⟩ = _ := h4
      have u5 := (set7' (blk_stay b1 pBA)).2.2.2.2.2.1
      have g5 := (cells2 (blk_stay rF pBA)).1
      have h5 := (cells2 (blk_stay rF pBA)).2
      have U5 : ((z.alloc (.cells #[.string (str Rl.nCCU), .string (str Rl.vNS)] 53)).alloc (.cells #[] 53)).drew.cell? ⟨w.heap.size + 1, 5, none⟩ = _ := u5
      have G5 : ((z.alloc (.cells #[.string (str Rl.nCCU), .string (str Rl.vNS)] 53)).alloc (.cells #[] 53)).drew.cell? ⟨gF, 0, none⟩ = _ := g5
      have H5 : ((z.alloc (.cells #[.string (str Rl.nCCU), .string (str Rl.vNS)] 53)).alloc (.cells #[] 53)).drew.cell? ⟨gF, 1, none⟩ = _ := h5
      have hEA : FBuf z (z.alloc (.cells #[] 53)).drew (.slice (some ⟨z.heap.size, 0, none⟩) 0 0) [] := (FBuf.none_ z z pZ).after (Below.refl _ _).drew
      have hEAB : FBuf z ((z.alloc (.cells #[] 53)).alloc (.cells #[.string (str Rl.nCCU), .string (str Rl.vNS)] 53)).drew (.slice (some ⟨z.heap.size, 0, none⟩) 0 0) [] := (FBuf.none_ z z pZ).after ((Below.refl _ _).alloc (Nat.le_refl _) (.cells #[.string (str Rl.nCCU), .string (str Rl.vNS)] 53)).drew
      have hEBA : FBuf z ((z.alloc (.cells #[.string (str Rl.nCCU), .string (str Rl.vNS)] 53)).alloc (.cells #[] 53)).drew (.slice (some ⟨z.heap.size + 1, 0, none⟩) 0 0) [] := (by
        have h := (FBuf.none_ z (z.alloc (.cells #[.string (str Rl.nCCU), .string (str Rl.vNS)] 53)) pB).after (Below.refl _ _).drew
        rw [show (z.alloc (.cells #[.string (str Rl.nCCU), .string (str Rl.vNS)] 53)).heap.size = z.heap.size + 1 by simp] at h
        exact h)
      have hAA := HF2.out.later (hbz.trans (pA.drew.mono hbz.size))
      have hAAB := HF2.out.later (hbz.trans (pAB.drew.mono hbz.size))
      have hABA := HF2.out.later (hbz.trans (pBA.drew.mono hbz.size))
      have hB4 : FIn ((z.alloc (.cells #[] 53)).alloc (.cells #[.string (str Rl.nCCU), .string (str Rl.vNS)] 53)).drew (.slice (some ⟨z.heap.size + 1, 0, none⟩) 1 1) [(Rl.nCCU, Rl.vNS)] := (by
        have h := (fin_one (z.alloc (.cells #[] 53)) Rl.nCCU Rl.vNS).later (Below.refl _ _).drew
        rw [show (z.alloc (.cells #[] 53)).heap.size = z.heap.size + 1 by simp] at h
        exact h)
      have hB5 : FIn ((z.alloc (.cells #[.string (str Rl.nCCU), .string (str Rl.vNS)] 53)).alloc (.cells #[] 53)).drew (.slice (some ⟨z.heap.size, 0, none⟩) 1 1) [(Rl.nCCU, Rl.vNS)] := (fin_one z Rl.nCCU Rl.vNS).later ((Below.refl _ _).alloc (Nat.le_refl _) (.cells #[] 53)).drew
      have nb := HN2.out
      have kc : ([] : List Fld.F).length + fs'.length ≤ 1000000000 := by rw [List.length_nil]; omega
      have kd : fs'.length + [(Rl.nCCU, Rl.vNS)].length ≤ 1000000000 := by rw [List.length_singleton]; omega
      have no : NilOk (.slice (some ⟨z.heap.size, 0, none⟩) 1 1) := fun c h => by cases h
      go_upto_region 6 with fail
      go_region_law (first
        | (refine appFsO (W := z) hEA hAA nb kc (.tmp 25) (.tmp 27) rfl rfl rfl ?_; intro v1 W1 hB1 hG1; rw [List.nil_append] at hB1; have ra := blk_stay rF hB1.2; have ga := (cells2 ra).1; have gb := (cells2 ra).2; have hE1 := hB1.after ((Below.refl _ W1).alloc (Nat.le_refl _) (.cells #[.string (str Rl.nCCU), .string (str Rl.vNS)] 53)); have hO1 := fin_one W1 Rl.nCCU Rl.vNS; have no1 : NilOk (.slice (some ⟨W1.heap.size, 0, none⟩) 1 1) := (fun c h => by cases h))
        | (refine appFsO (W := z) hEAB hAAB nb kc (.tmp 25) (.tmp 27) rfl rfl rfl ?_; intro v1 W1 hB1 hG1; rw [List.nil_append] at hB1; have ra := blk_stay rF hB1.2; have ga := (cells2 ra).1; have gb := (cells2 ra).2; have hE1 := hB1; have hO1 := hB4.grown1 hG1 (by simp [Value.ownBlock]); have no1 : NilOk (.slice (some ⟨z.heap.size + 1, 0, none⟩) 1 1) := (fun c h => by cases h))
        | (refine appFsO (W := z) hEBA hABA nb kc (.tmp 25) (.tmp 27) rfl rfl rfl ?_; intro v1 W1 hB1 hG1; rw [List.nil_append] at hB1; have ra := blk_stay rF hB1.2; have ga := (cells2 ra).1; have gb := (cells2 ra).2; have hE1 := hB1; have hO1 := hB5.grown1 hG1 (by simp [Value.ownBlock]); have no1 : NilOk (.slice (some ⟨z.heap.size, 0, none⟩) 1 1) := (fun c h => by cases h))
        | (refine appFsO (W := z) hE1 hO1 no1 kd (.tmp 28) (.tmp 30) rfl rfl rfl ?_; intro v2 W2 hB2 hG2; have hI2 := hB2.fin; obtain ⟨va2, vc2, rfl, hx2⟩ := hB2.fin; rw [show (fs' ++ [(Rl.nCCU, Rl.vNS)]).length = fs'.length + 1 by simp] at hI2; have y1 := blk_stay b1 hB2.2; have yz := freeT y1 5; obtain ⟨k0, k1, k2, k3, k4, k5, k6⟩ := set7' y1))
      all_goals
        go_upto_region 15 with fail
        change Code.wp _ _ _ _ (W2.setCell ⟨w.heap.size + 1, 5, none⟩ (.slice va2 (fs'.length + 1) vc2))
        have hb2 := hbz.trans (hB2.2.mono hbz.size)
        have y0 := blk_stay b0 hB2.2
        have hI := hI2.beside (u := (.slice va2 (fs'.length + 1) vc2)) k5 (fun s h => by cases h)
        have hbs := hb2.setCell (p := ⟨w.heap.size + 1, 5, none⟩) (Nat.le_succ _) (.slice va2 (fs'.length + 1) vc2)
        obtain ⟨m0, m1, m2, m3, m4, m5, m6⟩ := set7' y0
        have j5 := World.cell?_setCell_same W2 ⟨w.heap.size + 1, 5, none⟩ (.slice va2 (fs'.length + 1) vc2) k5
        have i0 := (World.cell?_setCell_other W2 ⟨w.heap.size + 1, 5, none⟩ ⟨w.heap.size, 0, none⟩ (.slice va2 (fs'.length + 1) vc2) (by simp)).trans m0
        have i1 := (World.cell?_setCell_other W2 ⟨w.heap.size + 1, 5, none⟩ ⟨w.heap.size, 1, none⟩ (.slice va2 (fs'.length + 1) vc2) (by simp)).trans m1
        have i2 := (World.cell?_setCell_other W2 ⟨w.heap.size + 1, 5, none⟩ ⟨w.heap.size, 2, none⟩ (.slice va2 (fs'.length + 1) vc2) (by simp)).trans m2
        have i3 := (World.cell?_setCell_other W2 ⟨w.heap.size + 1, 5, none⟩ ⟨w.heap.size, 3, none⟩ (.slice va2 (fs'.length + 1) vc2) (by simp)).trans m3
        have i4 := (World.cell?_setCell_other W2 ⟨w.heap.size + 1, 5, none⟩ ⟨w.heap.size, 4, none⟩ (.slice va2 (fs'.length + 1) vc2) (by simp)).trans m4
        have i5 := (World.cell?_setCell_other W2 ⟨w.heap.size + 1, 5, none⟩ ⟨w.heap.size, 5, none⟩ (.slice va2 (fs'.length + 1) vc2) (by simp)).trans m5
        have i6 := (World.cell?_setCell_other W2 ⟨w.heap.size + 1, 5, none⟩ ⟨w.heap.size, 6, none⟩ (.slice va2 (fs'.length + 1) vc2) (by simp)).trans m6
        have j0 := (World.cell?_setCell_other W2 ⟨w.heap.size + 1, 5, none⟩ ⟨w.heap.size + 1, 0, none⟩ (.slice va2 (fs'.length + 1) vc2) (by simp)).trans k0
        have j1 := (World.cell?_setCell_other W2 ⟨w.heap.size + 1, 5, none⟩ ⟨w.heap.size + 1, 1, none⟩ (.slice va2 (fs'.length + 1) vc2) (by simp)).trans k1
        have j2 := (World.cell?_setCell_other W2 ⟨w.heap.size + 1, 5, none⟩ ⟨w.heap.size + 1, 2, none⟩ (.slice va2 (fs'.length + 1) vc2) (by simp)).trans k2
        have j3 := (World.cell?_setCell_other W2 ⟨w.heap.size + 1, 5, none⟩ ⟨w.heap.size + 1, 3, none⟩ (.slice va2 (fs'.length + 1) vc2) (by simp)).trans k3
        have j4 := (World.cell?_setCell_other W2 ⟨w.heap.size + 1, 5, none⟩ ⟨w.heap.size + 1, 4, none⟩ (.slice va2 (fs'.length + 1) vc2) (by simp)).trans k4
        have j6 := (World.cell?_setCell_other W2 ⟨w.heap.size + 1, 5, none⟩ ⟨w.heap.size + 1, 6, none⟩ (.slice va2 (fs'.length + 1) vc2) (by simp)).trans k6
        have D := D0'.out _ _ hbs hI
        clear hE1 hO1 no1 hB1 hG1 ra ga gb hEA hEAB hEBA hAA hAAB hABA hB4 hB5 nb kc kd no pZ pA pB pAB pBA u1 g1 h1 U1 G1 H1 u2 g2 h2 U2 G2 H2 u3 g3 h3 U3 G3 H3 u4 g4 h4 U4 G4 H4 u5 g5 h5 U5 G5 H5 y0 y1 yz m0 m1 m2 m3 m4 m5 m6 k0 k1 k2 k3 k4 k5 k6 hI hI2 hx2 hB2 hG2 hb2 HM HN D0' HF1 HF2 HN2 b0 b1 rF
        generalize W2.setCell ⟨w.heap.size + 1, 5, none⟩ (.slice va2 (fs'.length + 1) vc2) = Z at *
        generalize fs'.length + 1 = N at *
        go_wp2_with fail
        refine D.mono ?_
        rintro e w4 ⟨rfl, hx4⟩
        go_wp2_with fail
        go_ret
        exact ⟨rfl, hbs.trans (hx4.mono hbs.size)⟩
    · clear D3 D4 D0' D2' HN1 ka b0 b1
      have f0 : z.cell? ⟨gF, 0, none⟩ = some (.string (str Rl.nCCU)) := by simp only [World.cell?, rF]; rfl
      have f1 : z.cell? ⟨gF, 1, none⟩ = some (.string (str Rl.vNS)) := by simp only [World.cell?, rF]; rfl
      have zf := freeT rF 1
      go_upto_region 9 with fail
      change Code.wp _ _ _ _ (z.setCell ⟨gF, 1, none⟩ (.string (str Rl.vPR)))
      have g0 := (World.cell?_setCell_other z ⟨gF, 1, none⟩ ⟨gF, 0, none⟩ (.string (str Rl.vPR)) (by simp)).trans f0
      have g1 := World.cell?_setCell_same z ⟨gF, 1, none⟩ (.string (str Rl.vPR)) f1
      have hb1 := hbz.setCell (p := ⟨gF, 1, none⟩) hg1 (.string (str Rl.vPR))
      have hW1 := hWz.setCell (p := ⟨gF, 1, none⟩) hg2 (.string (str Rl.vPR))
      clear rF f0 f1 zf hbz hWz
      generalize z.setCell ⟨gF, 1, none⟩ (.string (str Rl.vPR)) = z1 at *
      have hal := (Below.refl z1.heap.size z1).alloc (Nat.le_refl _) (.cells #[.string (str Rl.nCCU), .string (str Rl.vPR)] 53)
      have hE := FBuf.one_ z1 z1 (Below.refl _ _) (Rl.nCCU, Rl.vPR)
      have hA := HF2.out.later (hb1.trans (hal.mono hb1.size))
      have nb := HN2.out
      have kc : [(Rl.nCCU, Rl.vPR)].length + fs'.length ≤ 1000000000 := by rw [List.length_singleton]; omega
      obtain ⟨n0, n1, n2, n3, n4, n5, n6⟩ := HN.out _ (hW1.trans (hal.mono hW1.size))
      clear n0 n1 n2 n3 n4 n6 hal HN2
      go_upto_region 15 with (at_builtin; refine appFs hE hA nb kc rfl _ _ rfl rfl rfl ?_; intro v2 W2 hB2; rw [List.singleton_append] at hB2; have hI2 := hB2.fin; obtain ⟨va2, vc2, rfl, hx2⟩ := hB2.fin; have hW2 := hW1.trans (hB2.2.mono hW1.size); have hb2 := hb1.trans (hB2.2.mono hb1.size); have y0 := blk_stay HQ0.out hW2; have y1 := blk_stay HQ1.out hW2; have yz := freeT y1 5; obtain ⟨k0, k1, k2, k3, k4, k5, k6⟩ := set7' y1)
      change Code.wp _ _ _ _ (W2.setCell ⟨w.heap.size + 1, 5, none⟩ (.slice va2 ((Rl.nCCU, Rl.vPR) :: fs').length vc2))
      have hI := hI2.beside (u := (.slice va2 ((Rl.nCCU, Rl.vPR) :: fs').length vc2)) k5 (fun s h => by cases h)
      have hbs := hb2.setCell (p := ⟨w.heap.size + 1, 5, none⟩) (Nat.le_succ _) (.slice va2 ((Rl.nCCU, Rl.vPR) :: fs').length vc2)
      obtain ⟨m0, m1, m2, m3, m4, m5, m6⟩ := set7' y0
      have j5 := World.cell?_setCell_same W2 ⟨w.heap.size + 1, 5, none⟩ (.slice va2 ((Rl.nCCU, Rl.vPR) :: fs').length vc2) k5
      have i0 := (World.cell?_setCell_other W2 ⟨w.heap.size + 1, 5, none⟩ ⟨w.heap.size, 0, none⟩ (.slice va2 ((Rl.nCCU, Rl.vPR) :: fs').length vc2) (by simp)).trans m0
      have i1 := (World.cell?_setCell_other W2 ⟨w.heap.size + 1, 5, none⟩ ⟨w.heap.size, 1, none⟩ (.slice va2 ((Rl.nCCU, Rl.vPR) :: fs').length vc2) (by simp)).trans m1
      have i2 := (World.cell?_setCell_other W2 ⟨w.heap.size + 1, 5, none⟩ ⟨w.heap.size, 2, none⟩ (.slice va2 ((Rl.nCCU, Rl.vPR) :: fs').length vc2) (by simp)).trans m2
      have i3 := (World.cell?_setCell_other W2 ⟨w.heap.size + 1, 5, none⟩ ⟨w.heap.size, 3, none⟩ (.slice va2 ((Rl.nCCU, Rl.vPR) :: fs').length vc2) (by simp)).trans m3
      have i4 := (World.cell?_setCell_other W2 ⟨w.heap.size + 1, 5, none⟩ ⟨w.heap.size, 4, none⟩ (.slice va2 ((Rl.nCCU, Rl.vPR) :: fs').length vc2) (by simp)).trans m4
      have i5 := (World.cell?_setCell_other W2 ⟨w.heap.size + 1, 5, none⟩ ⟨w.heap.size, 5, none⟩ (.slice va2 ((Rl.nCCU, Rl.vPR) :: fs').length vc2) (by simp)).trans m5
      have i6 := (World.cell?_setCell_other W2 ⟨w.heap.size + 1, 5, none⟩ ⟨w.heap.size, 6, none⟩ (.slice va2 ((Rl.nCCU, Rl.vPR) :: fs').length vc2) (by simp)).trans m6
      have j0 := (World.cell?_setCell_other W2 ⟨w.heap.size + 1, 5, none⟩ ⟨w.heap.size + 1, 0, none⟩ (.slice va2 ((Rl.nCCU, Rl.vPR) :: fs').length vc2) (by simp)).trans k0
      have j1 := (World.cell?_setCell_other W2 ⟨w.heap.size + 1, 5, none⟩ ⟨w.heap.size + 1, 1, none⟩ (.slice va2 ((Rl.nCCU, Rl.vPR) :: fs').length vc2) (by simp)).trans k1
      have j2 := (World.cell?_setCell_other W2 ⟨w.heap.size + 1, 5, none⟩ ⟨w.heap.size + 1, 2, none⟩ (.slice va2 ((Rl.nCCU, Rl.vPR) :: fs').length vc2) (by simp)).trans k2
      have j3 := (World.cell?_setCell_other W2 ⟨w.heap.size + 1, 5, none⟩ ⟨w.heap.size + 1, 3, none⟩ (.slice va2 ((Rl.nCCU, Rl.vPR) :: fs').length vc2) (by simp)).trans k3
      have j4 := (World.cell?_setCell_other W2 ⟨w.heap.size + 1, 5, none⟩ ⟨w.heap.size + 1, 4, none⟩ (.slice va2 ((Rl.nCCU, Rl.vPR) :: fs').length vc2) (by simp)).trans k4
      have j6 := (World.cell?_setCell_other W2 ⟨w.heap.size + 1, 5, none⟩ ⟨w.heap.size + 1, 6, none⟩ (.slice va2 ((Rl.nCCU, Rl.vPR) :: fs').length vc2) (by simp)).trans k6
      have D := D1'.out _ _ hbs hI
      clear hE hA nb kc n5 g0 g1 y0 y1 yz m0 m1 m2 m3 m4 m5 m6 k0 k1 k2 k3 k4 k5 k6 hI hI2 hx2 hB2 hW2 hb2 HQ0 HQ1 HM HN D1' HF1 HF2
      generalize W2.setCell ⟨w.heap.size + 1, 5, none⟩ (.slice va2 ((Rl.nCCU, Rl.vPR) :: fs').length vc2) = Z at *
      generalize ((Rl.nCCU, Rl.vPR) :: fs').length = N at *
      go_wp2_with fail
      refine D.mono ?_
      rintro e w4 ⟨rfl, hx4⟩
      go_wp2_with fail
      go_ret
      exact ⟨rfl, hbs.trans (hx4.mono hbs.size)⟩
    · clear D3 D4 D0' D1' HN2 kb HQ0 HQ1
      have pZ := Below.refl z.heap.size z
      have pA : Below z.heap.size z (z.alloc (.cells #[] 53)) := pZ.alloc (Nat.le_refl _) _
      have pB : Below z.heap.size z (z.alloc (.cells #[.string (str Rl.nCCU), .string (str Rl.vNS)] 53)) := pZ.alloc (Nat.le_refl _) _
      have pAB : Below z.heap.size z ((z.alloc (.cells #[] 53)).alloc (.cells #[.string (str Rl.nCCU), .string (str Rl.vNS)] 53)) := pA.alloc (by simp) _
      have pBA : Below z.heap.size z ((z.alloc (.cells #[.string (str Rl.nCCU), .string (str Rl.vNS)] 53)).alloc (.cells #[] 53)) := pB.alloc (by simp) _
      have u1 := (set7' (blk_stay b0 pZ)).2.2.2.2.2.1
      have g1 := (cells2 (blk_stay rF pZ)).1
      have h1 := (cells2 (blk_stay rF pZ)).2
      have U1 : (z).drew.cell? ⟨w.heap.size, 5, none⟩ = _ := u1
      have G1 : (z).drew.cell? ⟨gF, 0, none⟩ = _ := g1
      have H1 : (z).drew.cell? ⟨gF, 1, none⟩ = _ := h1
      have u2 := (set7' (blk_stay b0 pA)).2.2.2.2.2.1
      have g2 := (cells2 (blk_stay rF pA)).1
      have h2 := (cells2 (blk_stay rF pA)).2
      have U2 : (z.alloc (.cells #[] 53)).drew.cell? ⟨w.heap.size, 5, none⟩ = _ := u2
      have G2 : (z.alloc (.cells #[] 53)).drew.cell? ⟨gF, 0, none⟩ = _ := g2
      have H2 : (z.alloc (.cells #[] 53)).drew.cell? ⟨gF, 1, none⟩ = _ := h2
      have u3 := (set7' (blk_stay b0 pB)).2.2.2.2.2.1
      have g3 := (cells2 (blk_stay rF pB)).1
      have h3 := (cells2 (blk_stay rF pB)).2
      have U3 : (z.alloc (.cells #[.string (str Rl.nCCU), .string (str Rl.vNS)] 53)).drew.cell? ⟨w.heap.size, 5, none⟩ = _ := u3
      have G3 : (z.alloc (.cells #[.string (str Rl.nCCU), .string (str Rl.vNS)] 53)).drew.cell? ⟨gF, 0, none⟩ = _ := g3
      have H3 : (z.alloc (.cells #[.string (str Rl.nCCU), .string (str Rl.vNS)] 53)).drew.cell? ⟨gF, 1, none⟩ = _ := h3
      have u4 := (set7' (blk_stay b0 pAB)).2.2.2.2.2.1
      have g4 := (cells2 (blk_stay rF pAB)).1
      have h4 := (cells2 (blk_stay rF pAB)).2
      have U4 : ((z.alloc (.cells #[] 53)).alloc (.cells #[.string (str Rl.nCCU), .string (str Rl.vNS)] 53)).drew.cell? ⟨w.heap.size, 5, none⟩ = _ := u4
      have G4 : ((z.alloc (.cells #[] 53)).alloc (.cells #[.string (str Rl.nCCU), .string (str Rl.vNS)] 53)).drew.cell? ⟨gF, 0, none⟩ = _ := g4
      have H4 : ((z.alloc (.cells #[] 53)).alloc (.cells #[.string (str Rl.nCCU), .string (str Rl.vNS)] 53)).drew.cell? ⟨gF, 1, none⟩ = _ := h4
      have u5 := (set7' (blk_stay b0 pBA)).2.2.2.2.2.1
      have g5 := (cells2 (blk_stay rF pBA)).1
      have h5 := (cells2 (blk_stay rF pBA)).2
      have U5 : ((z.alloc (.cells #[.string (str Rl.nCCU), .string (str Rl.vNS)] 53)).alloc (.cells #[] 53)).drew.cell? ⟨w.heap.size, 5, none⟩ = _ := u5
      have G5 : ((z.alloc (.cells #[.string (str Rl.nCCU), .string (str Rl.vNS)] 53)).alloc (.cells #[] 53)).drew.cell? ⟨gF, 0, none⟩ = _ := g5
      have H5 : ((z.alloc (.cells #[.string (str Rl.nCCU), .string (str Rl.vNS)] 53)).alloc (.cells #[] 53)).drew.cell? ⟨gF, 1, none⟩ = _ := h5
      have hEA : FBuf z (z.alloc (.cells #[] 53)).drew (.slice (some ⟨z.heap.size, 0, none⟩) 0 0) [] := (FBuf.none_ z z pZ).after (Below.refl _ _).drew
      have hEAB : FBuf z ((z.alloc (.cells #[] 53)).alloc (.cells #[.string (str Rl.nCCU), .string (str Rl.vNS)] 53)).drew (.slice (some ⟨z.heap.size, 0, none⟩) 0 0) [] := (FBuf.none_ z z pZ).after ((Below.refl _ _).alloc (Nat.le_refl _) (.cells #[.string (str Rl.nCCU), .string (str Rl.vNS)] 53)).drew
      have hEBA : FBuf z ((z.alloc (.cells #[.string (str Rl.nCCU), .string (str Rl.vNS)] 53)).alloc (.cells #[] 53)).drew (.slice (some ⟨z.heap.size + 1, 0, none⟩) 0 0) [] := (by
        have h := (FBuf.none_ z (z.alloc (.cells #[.string (str Rl.nCCU), .string (str Rl.vNS)] 53)) pB).after (Below.refl _ _).drew
        rw [show (z.alloc (.cells #[.string (str Rl.nCCU), .string (str Rl.vNS)] 53)).heap.size = z.heap.size + 1 by simp] at h
        exact h)
      have hAA := HF1.out.later (hbz.trans (pA.drew.mono hbz.size))
      have hAAB := HF1.out.later (hbz.trans (pAB.drew.mono hbz.size))
      have hABA := HF1.out.later (hbz.trans (pBA.drew.mono hbz.size))
      have hB4 : FIn ((z.alloc (.cells #[] 53)).alloc (.cells #[.string (str Rl.nCCU), .string (str Rl.vNS)] 53)).drew (.slice (some ⟨z.heap.size + 1, 0, none⟩) 1 1) [(Rl.nCCU, Rl.vNS)] := (by
        have h := (fin_one (z.alloc (.cells #[] 53)) Rl.nCCU Rl.vNS).later (Below.refl _ _).drew
        rw [show (z.alloc (.cells #[] 53)).heap.size = z.heap.size + 1 by simp] at h
        exact h)
      have hB5 : FIn ((z.alloc (.cells #[.string (str Rl.nCCU), .string (str Rl.vNS)] 53)).alloc (.cells #[] 53)).drew (.slice (some ⟨z.heap.size, 0, none⟩) 1 1) [(Rl.nCCU, Rl.vNS)] := (fin_one z Rl.nCCU Rl.vNS).later ((Below.refl _ _).alloc (Nat.le_refl _) (.cells #[] 53)).drew
      have nb := HN1.out
      have kc : ([] : List Fld.F).length + fs.length ≤ 1000000000 := by rw [List.length_nil]; omega
      have kd : fs.length + [(Rl.nCCU, Rl.vNS)].length ≤ 1000000000 := by rw [List.length_singleton]; omega
      have no : NilOk (.slice (some ⟨z.heap.size, 0, none⟩) 1 1) := fun c h => by cases h
      go_upto_region 11 with fail
      go_region_law (first
        | (refine appFsO (W := z) hEA hAA nb kc (.tmp 44) (.tmp 46) rfl rfl rfl ?_; intro v1 W1 hB1 hG1; rw [List.nil_append] at hB1; have ra := blk_stay rF hB1.2; have ga := (cells2 ra).1; have gb := (cells2 ra).2; have hE1 := hB1.after ((Below.refl _ W1).alloc (Nat.le_refl _) (.cells #[.string (str Rl.nCCU), .string (str Rl.vNS)] 53)); have hO1 := fin_one W1 Rl.nCCU Rl.vNS; have no1 : NilOk (.slice (some ⟨W1.heap.size, 0, none⟩) 1 1) := (fun c h => by cases h))
        | (refine appFsO (W := z) hEAB hAAB nb kc (.tmp 44) (.tmp 46) rfl rfl rfl ?_; intro v1 W1 hB1 hG1; rw [List.nil_append] at hB1; have ra := blk_stay rF hB1.2; have ga := (cells2 ra).1; have gb := (cells2 ra).2; have hE1 := hB1; have hO1 := hB4.grown1 hG1 (by simp [Value.ownBlock]); have no1 : NilOk (.slice (some ⟨z.heap.size + 1, 0, none⟩) 1 1) := (fun c h => by cases h))
        | (refine appFsO (W := z) hEBA hABA nb kc (.tmp 44) (.tmp 46) rfl rfl rfl ?_; intro v1 W1 hB1 hG1; rw [List.nil_append] at hB1; have ra := blk_stay rF hB1.2; have ga := (cells2 ra).1; have gb := (cells2 ra).2; have hE1 := hB1; have hO1 := hB5.grown1 hG1 (by simp [Value.ownBlock]); have no1 : NilOk (.slice (some ⟨z.heap.size, 0, none⟩) 1 1) := (fun c h => by cases h))
        | (refine appFsO (W := z) hE1 hO1 no1 kd (.tmp 47) (.tmp 49) rfl rfl rfl ?_; intro v2 W2 hB2 hG2; have hI2 := hB2.fin; obtain ⟨va2, vc2, rfl, hx2⟩ := hB2.fin; rw [show (fs ++ [(Rl.nCCU, Rl.vNS)]).length = fs.length + 1 by simp] at hI2; have y1 := blk_stay b0 hB2.2; have yz := freeT y1 5; obtain ⟨k0, k1, k2, k3, k4, k5, k6⟩ := set7' y1))
      all_goals
        go_upto_region 15 with fail
        change Code.wp _ _ _ _ (W2.setCell ⟨w.heap.size, 5, none⟩ (.slice va2 (fs.length + 1) vc2))
        have hb2 := hbz.trans (hB2.2.mono hbz.size)
        have y0 := blk_stay b1 hB2.2
        have hI := hI2.beside (u := (.slice va2 (fs.length + 1) vc2)) k5 (fun s h => by cases h)
        have hbs := hb2.setCell (p := ⟨w.heap.size, 5, none⟩) (Nat.le_refl _) (.slice va2 (fs.length + 1) vc2)
        obtain ⟨m0, m1, m2, m3, m4, m5, m6⟩ := set7' y0
        have j5 := World.cell?_setCell_same W2 ⟨w.heap.size, 5, none⟩ (.slice va2 (fs.length + 1) vc2) k5
        have i0 := (World.cell?_setCell_other W2 ⟨w.heap.size, 5, none⟩ ⟨w.heap.size + 1, 0, none⟩ (.slice va2 (fs.length + 1) vc2) (by simp)).trans m0
        have i1 := (World.cell?_setCell_other W2 ⟨w.heap.size, 5, none⟩ ⟨w.heap.size + 1, 1, none⟩ (.slice va2 (fs.length + 1) vc2) (by simp)).trans m1
        have i2 := (World.cell?_setCell_other W2 ⟨w.heap.size, 5, none⟩ ⟨w.heap.size + 1, 2, none⟩ (.slice va2 (fs.length + 1) vc2) (by simp)).trans m2
        have i3 := (World.cell?_setCell_other W2 ⟨w.heap.size, 5, none⟩ ⟨w.heap.size + 1, 3, none⟩ (.slice va2 (fs.length + 1) vc2) (by simp)).trans m3
        have i4 := (World.cell?_setCell_other W2 ⟨w.heap.size, 5, none⟩ ⟨w.heap.size + 1, 4, none⟩ (.slice va2 (fs.length + 1) vc2) (by simp)).trans m4
        have i5 := (World.cell?_setCell_other W2 ⟨w.heap.size, 5, none⟩ ⟨w.heap.size + 1, 5, none⟩ (.slice va2 (fs.length + 1) vc2) (by simp)).trans m5
        have i6 := (World.cell?_setCell_other W2 ⟨w.heap.size, 5, none⟩ ⟨w.heap.size + 1, 6, none⟩ (.slice va2 (fs.length + 1) vc2) (by simp)).trans m6
        have j0 := (World.cell?_setCell_other W2 ⟨w.heap.size, 5, none⟩ ⟨w.heap.size, 0, none⟩ (.slice va2 (fs.length + 1) vc2) (by simp)).trans k0
        have j1 := (World.cell?_setCell_other W2 ⟨w.heap.size, 5, none⟩ ⟨w.heap.size, 1, none⟩ (.slice va2 (fs.length + 1) vc2) (by simp)).trans k1
        have j2 := (World.cell?_setCell_other W2 ⟨w.heap.size, 5, none⟩ ⟨w.heap.size, 2, none⟩ (.slice va2 (fs.length + 1) vc2) (by simp)).trans k2
        have j3 := (World.cell?_setCell_other W2 ⟨w.heap.size, 5, none⟩ ⟨w.heap.size, 3, none⟩ (.slice va2 (fs.length + 1) vc2) (by simp)).trans k3
        have j4 := (World.cell?_setCell_other W2 ⟨w.heap.size, 5, none⟩ ⟨w.heap.size, 4, none⟩ (.slice va2 (fs.length + 1) vc2) (by simp)).trans k4
        have j6 := (World.cell?_setCell_other W2 ⟨w.heap.size, 5, none⟩ ⟨w.heap.size, 6, none⟩ (.slice va2 (fs.length + 1) vc2) (by simp)).trans k6
        have D := D2'.out _ _ hbs hI
        clear hE1 hO1 no1 hB1 hG1 ra ga gb hEA hEAB hEBA hAA hAAB hABA hB4 hB5 nb kc kd no pZ pA pB pAB pBA u1 g1 h1 U1 G1 H1 u2 g2 h2 U2 G2 H2 u3 g3 h3 U3 G3 H3 u4 g4 h4 U4 G4 H4 u5 g5 h5 U5 G5 H5 y0 y1 yz m0 m1 m2 m3 m4 m5 m6 k0 k1 k2 k3 k4 k5 k6 hI hI2 hx2 hB2 hG2 hb2 HM HN D2' HF1 HF2 HN1 b0 b1 rF
        generalize W2.setCell ⟨w.heap.size, 5, none⟩ (.slice va2 (fs.length + 1) vc2) = Z at *
        generalize fs.length + 1 = N at *
        go_wp2_with fail
        refine D.mono ?_
        rintro e w4 ⟨rfl, hx4⟩
        go_wp2_with fail
        go_ret
        exact ⟨rfl, hbs.trans (hx4.mono hbs.size)⟩
    · clear HQ0 HQ1
      clear D0' D1' D2' HN1 HN2 HF1 HF2 ka kb
      obtain ⟨m0, m1, m2, m3, m4, m5, m6⟩ := set7' b0
      obtain ⟨n0, n1, n2, n3, n4, n5, n6⟩ := set7' b1
      have z0 := freeT b0 0
      by_cases hag : a = str Rl.mGet
      · subst hag
        clear D3
        have ae : ((str Rl.mGet).toList == [71, 69, 84]) = true := by rw [str_toList]; rfl
        go_upto_region 15 with fail
        change Code.wp _ _ _ _ (z.setCell ⟨w.heap.size, 0, none⟩ (.string (str Rl.mHead)))
        have D := D4 _ (hbz.setCell (p := ⟨w.heap.size, 0, none⟩) (Nat.le_refl _) (.string (str Rl.mHead)))
        have hbs := hbz.setCell (p := ⟨w.heap.size, 0, none⟩) (Nat.le_refl _) (.string (str Rl.mHead))
        have e0 := World.cell?_setCell_same z ⟨w.heap.size, 0, none⟩ (.string (str Rl.mHead)) m0
        have e1 := (World.cell?_setCell_other z ⟨w.heap.size, 0, none⟩ ⟨w.heap.size, 1, none⟩ (.string (str Rl.mHead)) (by simp)).trans m1
        have e2 := (World.cell?_setCell_other z ⟨w.heap.size, 0, none⟩ ⟨w.heap.size, 2, none⟩ (.string (str Rl.mHead)) (by simp)).trans m2
        have e3 := (World.cell?_setCell_other z ⟨w.heap.size, 0, none⟩ ⟨w.heap.size, 3, none⟩ (.string (str Rl.mHead)) (by simp)).trans m3
        have e4 := (World.cell?_setCell_other z ⟨w.heap.size, 0, none⟩ ⟨w.heap.size, 4, none⟩ (.string (str Rl.mHead)) (by simp)).trans m4
        have e5 := (World.cell?_setCell_other z ⟨w.heap.size, 0, none⟩ ⟨w.heap.size, 5, none⟩ (.string (str Rl.mHead)) (by simp)).trans m5
        have e6 := (World.cell?_setCell_other z ⟨w.heap.size, 0, none⟩ ⟨w.heap.size, 6, none⟩ (.string (str Rl.mHead)) (by simp)).trans m6
        have d0 := (World.cell?_setCell_other z ⟨w.heap.size, 0, none⟩ ⟨w.heap.size + 1, 0, none⟩ (.string (str Rl.mHead)) (by simp)).trans n0
        have d1 := (World.cell?_setCell_other z ⟨w.heap.size, 0, none⟩ ⟨w.heap.size + 1, 1, none⟩ (.string (str Rl.mHead)) (by simp)).trans n1
        have d2 := (World.cell?_setCell_other z ⟨w.heap.size, 0, none⟩ ⟨w.heap.size + 1, 2, none⟩ (.string (str Rl.mHead)) (by simp)).trans n2
        have d3 := (World.cell?_setCell_other z ⟨w.heap.size, 0, none⟩ ⟨w.heap.size + 1, 3, none⟩ (.string (str Rl.mHead)) (by simp)).trans n3
        have d4 := (World.cell?_setCell_other z ⟨w.heap.size, 0, none⟩ ⟨w.heap.size + 1, 4, none⟩ (.string (str Rl.mHead)) (by simp)).trans n4
        have d5 := (World.cell?_setCell_other z ⟨w.heap.size, 0, none⟩ ⟨w.heap.size + 1, 5, none⟩ (.string (str Rl.mHead)) (by simp)).trans n5
        have d6 := (World.cell?_setCell_other z ⟨w.heap.size, 0, none⟩ ⟨w.heap.size + 1, 6, none⟩ (.string (str Rl.mHead)) (by simp)).trans n6
        generalize z.setCell ⟨w.heap.size, 0, none⟩ (.string (str Rl.mHead)) = Z at *
        clear D4 ae b0 b1 z0 rF HM HN m0 m1 m2 m3 m4 m5 m6 n0 n1 n2 n3 n4 n5 n6 hbz hWz
        go_wp2_with fail
        refine D.mono ?_
        rintro e w4 ⟨rfl, hx4⟩
        go_wp2_with fail
        go_ret
        exact ⟨rfl, hbs.trans (hx4.mono hbs.size)⟩
      · have ane : (a.toList == [71, 69, 84]) = false := arr_nef hag
        have D := D3 z hbz
        rw [Rl.strict3 D0 _ fs st' fs' (fun e => hag (by rw [← e]; exact (str_of a).symm))] at D
        clear D3 D4 hag b0 b1 z0 rF HM HN
        go_wp2_with fail
        refine D.mono ?_
        rintro e w4 ⟨rfl, hx4⟩
        go_wp2_with fail
        go_ret
        exact ⟨rfl, hbz.trans (hx4.mono hbz.size)⟩
end Go.Proofs.YtoanelobggledaaGreatDoor

