/- The statements of layer 11: RulesTwice. -/
import Derived.Test.YtoanelobggledaaGreatDoorProg
import Derived.Test.YtoanelobggledaaGreatDoorZM1
import Derived.Test.YtoanelobggledaaGreatDoorZM2
import Derived.Test.YtoanelobggledaaGreatDoorZOctBase
import Derived.Test.YtoanelobggledaaGreatDoorZFd
import Derived.Test.YtoanelobggledaaGreatDoorZCt
import Derived.Test.YtoanelobggledaaGreatDoorZR1
import Derived.Test.YtoanelobggledaaGreatDoorZRlB
import Derived.Test.YtoanelobggledaaGreatDoorZRlH
import Derived.BigQuiet
import Derived.Deep.CutBlock
import Derived.Deep.DeepCutAuto
import Derived.Deep.LoopGhost
import Derived.Deep.QuietTactic
import Derived.Deep.RegionWith
import Derived.Ground.SlbCloneProg
import Derived.IntWalk
import Derived.Laws.AppendOwnNone
import Derived.Laws.Externs
import Derived.Laws.OwnMore
import Derived.Laws.RangeString
import Derived.Lib.AppendStr
import Derived.Lib.AppendZerosOnto
import Derived.Lib.BufferRead
import Derived.Lib.Bytealg
import Derived.Lib.FieldsP
import Derived.Lib.Hide
import Derived.Lib.IndexBytes
import Derived.Lib.IndexMore
import Derived.Lib.ItoaNum
import Derived.Lib.Join
import Derived.Lib.SlTrimSet
import Derived.Lib.SlicesCompact
import Derived.Lib.UnsafeStr
import Derived.LoopTactic
import Derived.Maps.AppendAt
import Derived.Maps.OwnSet
import Derived.Shelf.Bytes.SlClone
import Derived.Shelf.LaysM
import Derived.Shelf.Slices.CompactS
import Derived.Shelf.Slices.In.SortNone
import Derived.Shelf.Small.Bits
import Derived.Shelf.Small.Strs
import Derived.Shelf.Small.Utf8
import Derived.Shelf.Small.Wraps
import Derived.Shelf.Sort.Plain
import Derived.Shelf.Spec.TrailingZeros
import Derived.Shelf.Strconv.Clone
import Derived.Shelf.Strconv.Itoa0
import Derived.Shelf.Strconv.Itoa1
import Derived.Shelf.Strconv.Itoa2
import Derived.Shelf.Strconv.Itoa3
import Derived.Shelf.Strconv.Itoa4
import Derived.Shelf.Strings.AsciiSet
import Derived.Shelf.Strings.Builder1
import Derived.Shelf.Strings.Builder2
import Derived.Shelf.Strings.Count
import Derived.Shelf.Strings.Cut
import Derived.Shelf.Strings.FieldsFuncAny
import Derived.Shelf.Strings.FieldsFuncGrows
import Derived.Shelf.Strings.IndexAny
import Derived.Shelf.Strings.IndexAnyAll
import Derived.Shelf.Strings.LastIndex
import Derived.Shelf.Strings.OnBuilder
import Derived.Shelf.Strings.Prefix
import Derived.Shelf.Strings.Runes
import Derived.Shelf.Strings.Search1
import Derived.Shelf.Strings.Search2
import Derived.Shelf.Strings.Search3
import Derived.Shelf.Strings.Shaped
import Derived.Shelf.Strings.SlTrimAscii
import Derived.Shelf.Strings.Split
import Derived.Shelf.Strings.SplitShaped
import Derived.Shelf.Strings.Trim
import Derived.Shelf.Unicode.CaseConvert
import Derived.Shelf.Unicode.CaseLaid
import Derived.Shelf.Unicode.CaseLookup
import Derived.Shelf.Unicode.CaseTo
import Derived.Shelf.Unicode.DecodeAny
import Derived.Shelf.Unicode.DecodeLast
import Derived.Shelf.Unicode.DecodeSlow
import Derived.Shelf.Unicode.Latin
import Derived.SliceStrings
import Derived.StillTailTactics
import Derived.StringKeys
import Derived.WalkKit
import Derived.WalkLawsBesides
import Derived.WalkSpells
namespace Go.Proofs.YtoanelobggledaaGreatDoor
open Go.RowKit

set_option maxHeartbeats 6400000 in
set_option maxRecDepth 100000 in
theorem twice_w {Env : World → Prop} (R : Prog11 D0 Env) (m n : Msg) (w : World) (he : Env w) (hm : MOk w m) (hn : MOk w n) :
    Calls Tryz.prog 9 #[m.val, n.val] w fun e w' => e = .returned (.bool true) ∧ Below w.heap.size w w' := by
  have cA : Hid (∀ W', Below w.heap.size w W' → Calls Tryz.prog 10 #[] W' fun e w' => e = .returned (.bool true) ∧ Below W'.heap.size W' w') := Lib.hid fun W' hb => awake_w R W' (R.later he hb)
  have HE := Lib.hid (fun (W' : World) (hb : Below w.heap.size w W') => R.later he hb)
  obtain ⟨a, b, c, st, mi, fv, bv, fs, bl⟩ := m
  obtain ⟨a', b', c', st', mi', fv', bv', fs', bl'⟩ := n
  obtain ⟨fa, fc, hfv, hx8⟩ := hm.fin
  obtain ⟨ba, bc, hbv⟩ := hm.body
  obtain ⟨fa', fc', hfv', hx9⟩ := hn.fin
  obtain ⟨ba', bc', hbv'⟩ := hn.body
  clear hx8 hx9
  dsimp only at hfv hbv hfv' hbv'
  subst hfv hbv hfv' hbv'
  unfold Msg.val
  dsimp only
  have cS : Hid (∀ (g : Nat) W', Below w.heap.size w W' → W'.heap[g]? = some (.cells #[.string a, .string b, .int .i64 st, .string c, .int .i64 mi, .slice fa fs.length fc, .slice ba bl bc, .string a', .string b', .int .i64 st', .string c', .int .i64 mi', .slice fa' fs'.length fc', .slice ba' bl' bc'] 27 (0, 0)) → Calls Tryz.prog 11 #[.slice (some ⟨g, 0, none⟩) 2 2] W' fun e w' => e = .returned (.bool ([(⟨a, b, c, st, mi, .slice fa fs.length fc, .slice ba bl bc, fs, bl⟩ : Msg), ⟨a', b', c', st', mi', .slice fa' fs'.length fc', .slice ba' bl' bc', fs', bl'⟩].all shortB)) ∧ Below W'.heap.size W' w') := Lib.hid fun g W' hb h =>
    short_w g 2 [⟨a, b, c, st, mi, .slice fa fs.length fc, .slice ba bl bc, fs, bl⟩, ⟨a', b', c', st', mi', .slice fa' fs'.length fc', .slice ba' bl' bc', fs', bl'⟩] W' rfl (by decide) (MRow.two (m := ⟨a, b, c, st, mi, .slice fa fs.length fc, .slice ba bl bc, fs, bl⟩) (n := ⟨a', b', c', st', mi', .slice fa' fs'.length fc', .slice ba' bl' bc', fs', bl'⟩) h) (fun q hq => by
      rcases List.mem_cons.1 hq with rfl | hq
      · exact hm.later hb
      · obtain rfl := List.mem_singleton.1 hq; exact hn.later hb)
  have HSH : Hid ([(⟨a, b, c, st, mi, .slice fa fs.length fc, .slice ba bl bc, fs, bl⟩ : Msg), ⟨a', b', c', st', mi', .slice fa' fs'.length fc', .slice ba' bl' bc', fs', bl'⟩].all shortB = true → ((Mid fs ∧ bl ≤ 1000 ∧ a.size ≤ 100) ∧ (Mid fs' ∧ bl' ≤ 1000 ∧ a'.size ≤ 100)) ∧ Mid (Rl.update (Rl.kept fs) fs') ∧ Mid (Rl.update fs fs')) := Lib.hid fun h => by
    have h2 : shortB ⟨a, b, c, st, mi, .slice fa fs.length fc, .slice ba bl bc, fs, bl⟩ = true ∧ shortB ⟨a', b', c', st', mi', .slice fa' fs'.length fc', .slice ba' bl' bc', fs', bl'⟩ = true := by simpa using h
    have h3 : (Rl.kept fs).length ≤ 30 := by rw [Rl.kept_drop]; exact Nat.le_trans (Fld.drop_length _ _) (shortB_few h2.1)
    have h4 : fs'.length ≤ 30 := shortB_few h2.2
    have h5 : fs.length ≤ 30 := shortB_few h2.1
    exact ⟨⟨shortB_spec h2.1, shortB_spec h2.2⟩, update_mid (shortB_spec h2.1).1.kept (shortB_spec h2.2).1 (by omega), update_mid (shortB_spec h2.1).1 (shortB_spec h2.2).1 (by omega)⟩
  generalize [(⟨a, b, c, st, mi, .slice fa fs.length fc, .slice ba bl bc, fs, bl⟩ : Msg), ⟨a', b', c', st', mi', .slice fa' fs'.length fc', .slice ba' bl' bc', fs', bl'⟩].all shortB = sh at *
  have HF1 := Lib.hid hm.fin
  have HF2 := Lib.hid hn.fin
  obtain ⟨x1, hx1, hxl1⟩ := hm.bin
  obtain ⟨x2, hx2, hxl2⟩ := hn.bin
  have HN1 := Lib.hid hm.nil
  have HS1 := Lib.hid hm.blim
  change Hid (b.size ≤ 281474976710656 ∧ c.size ≤ 281474976710656) at HS1
  dsimp only at hx1 hxl1 hx2 hxl2
  have HX1 := Lib.hid hx1
  have HX2 := Lib.hid hx2
  have HL1 := Lib.hid hxl1
  have HL2 := Lib.hid hxl2
  change Hid (FIn w (.slice fa fs.length fc) fs) at HF1
  change Hid (FIn w (.slice fa' fs'.length fc') fs') at HF2
  change Hid (NilOk (.slice fa fs.length fc)) at HN1
  clear hm hn hx1 hx2 hxl1 hxl2 he
  generalize fs.length = fl at *
  generalize fs'.length = fl' at *
  obtain ⟨W, hW⟩ : ∃ W, W = (w.alloc (.cells #[.string a, .string b, .int .i64 st, .string c, .int .i64 mi, .slice fa fl fc, .slice ba bl bc] 27)).alloc (.cells #[.string a', .string b', .int .i64 st', .string c', .int .i64 mi', .slice fa' fl' fc', .slice ba' bl' bc'] 27) := ⟨_, rfl⟩
  have hbw : Below w.heap.size w W := by rw [hW]; exact ((Below.refl _ w).alloc (Nat.le_refl _) _).alloc (by simp) _
  have q0 : W.heap[w.heap.size]? = some (.cells #[.string a, .string b, .int .i64 st, .string c, .int .i64 mi, .slice fa fl fc, .slice ba bl bc] 27 (0, 0)) := by rw [hW]; exact blk_stay (heap_alloc_new w _) ((Below.refl _ _).alloc (Nat.le_refl _) _)
  have q1 : W.heap[w.heap.size + 1]? = some (.cells #[.string a', .string b', .int .i64 st', .string c', .int .i64 mi', .slice fa' fl' fc', .slice ba' bl' bc'] 27 (0, 0)) := by rw [hW]; exact heap_alloc2_new w _ _
  have HM := Lib.hid (fun (W' : World) (hb : Below W.heap.size W W') => set7' (blk_stay q0 hb))
  have HN := Lib.hid (fun (W' : World) (hb : Below W.heap.size W W') => set7' (blk_stay q1 hb))
  have hWW := Below.refl W.heap.size W
  clear q0 q1
  unfold mv mcell at *
  obtain ⟨m0, m1, m2, m3, m4, m5, m6⟩ := HM.out W hWW
  obtain ⟨n0, n1, n2, n3, n4, n5, n6⟩ := HN.out W hWW
  go_enter Tryz.func9, Tryz.ntmps9
  go_upto_region 1 with fail
  rw [← hW]
  clear hW
  go_wp2_with fail
  refine (cA.out W hbw).mono ?_
  rintro e w1 ⟨rfl, hx1⟩
  have hbw1 := hbw.trans (hx1.mono hbw.size)
  have hWw1 := hWW.trans (hx1.mono hWW.size)
  clear hx1 m0 m1 m2 m3 m4 m5 m6 n0 n1 n2 n3 n4 n5 n6
  obtain ⟨m0, m1, m2, m3, m4, m5, m6⟩ := HM.out w1 hWw1
  obtain ⟨n0, n1, n2, n3, n4, n5, n6⟩ := HN.out w1 hWw1
  have hr2 := heap_alloc_new w1 (.cells #[.string a, .string b, .int .i64 st, .string c, .int .i64 mi, .slice fa fl fc, .slice ba bl bc, .string a', .string b', .int .i64 st', .string c', .int .i64 mi', .slice fa' fl' fc', .slice ba' bl' bc'] 27)
  have hx2 : Below w1.heap.size w1 (w1.alloc (.cells #[.string a, .string b, .int .i64 st, .string c, .int .i64 mi, .slice fa fl fc, .slice ba bl bc, .string a', .string b', .int .i64 st', .string c', .int .i64 mi', .slice fa' fl' fc', .slice ba' bl' bc'] 27)) := (Below.refl _ _).alloc (Nat.le_refl _) _
  have hbw2 := hbw1.trans (hx2.mono hbw1.size)
  have hWw2 := hWw1.trans (hx2.mono hWw1.size)
  have cS2 := cS.out w1.heap.size _ hbw2 hr2
  clear hx2 hr2
  go_wp2_with fail
  refine cS2.mono ?_
  rintro e w3 ⟨rfl, hx3⟩
  have hbw3 := hbw2.trans (hx3.mono hbw2.size)
  have hWw3 := hWw2.trans (hx3.mono hWw2.size)
  clear hx3 cS2 cS hbw2 hWw2 hbw1 hWw1 m0 m1 m2 m3 m4 m5 m6 n0 n1 n2 n3 n4 n5 n6
  cases sh with
  | false =>
    go_wp2_with fail
    refine (cA.out w3 hbw3).mono ?_
    rintro e w4 ⟨rfl, hx4⟩
    go_wp2_with fail
    go_ret
    exact ⟨rfl, hbw3.trans (hx4.mono hbw3.size)⟩
  | true =>
    obtain ⟨⟨⟨p1, p2, p3⟩, q1, q2, q3⟩, p4, q4⟩ := HSH.out rfl
    clear HSH cA
    rw [← HL1.out] at p2
    rw [← HL2.out] at q2
    obtain ⟨K, hK⟩ : ∃ K, K = Rl.kept fs := ⟨_, rfl⟩
    have hKm : Mid K := by rw [hK]; exact p1.kept
    obtain ⟨U, hU⟩ : ∃ U, U = Rl.update K fs' := ⟨_, rfl⟩
    have hUm : Mid U := by rw [hU]; rw [hK]; exact p4
    have hU2 : Rl.update U fs' = U := by rw [hU]; exact Rl.update_twice K fs'
    have hT1 : Rl.has U Rl.kTE = false := by rw [hU, hK]; exact Rl.update_has (Rl.kept_has fs (Rl.gone_hop (by decide))) (Rl.gone_hop (by decide))
    have hT2 : Rl.has U Rl.kCL = false := by rw [hU, hK]; exact Rl.update_has (Rl.kept_has fs (by rw [show Oct.lower Rl.kCL = Rl.kCL by decide]; exact Rl.gone_cl fs)) (by rw [show Oct.lower Rl.kCL = Rl.kCL by decide]; exact Rl.gone_cl fs')
    have hT3 : Rl.has U Rl.kConn = false := by rw [hU, hK]; exact Rl.update_has (Rl.kept_has fs (Rl.gone_hop (by decide))) (Rl.gone_hop (by decide))
    have cK := R.kept a b c st mi (.slice fa fl fc) (.slice ba bl bc) fs x1 w3 (HE.out w3 hbw3) (HF1.out.later hbw3) (HX1.out.later hbw3) p1 p2 (by omega) HS1.out.1 HS1.out.2
    rw [← hK] at cK
    have cU := fun f v W' (hb : Below w.heap.size w W') (hf : FIn W' f K) (hv : BOk W' v x1) => R.update a b c a' b' c' st mi st' mi' f v (.slice fa' fl' fc') (.slice ba' bl' bc') K fs' x1 x2 W' (HE.out W' hb) hf hv hKm p2 (HF2.out.later hb) (HX2.out.later hb) q1 q2 (by omega) HS1.out.1 HS1.out.2
    have cV := fun f v W' (hb : Below w.heap.size w W') (hf : FIn W' f U) (hv : BOk W' v x1) => R.update a b c a' b' c' st mi st' mi' f v (.slice fa' fl' fc') (.slice ba' bl' bc') U fs' x1 x2 W' (HE.out W' hb) hf hv hUm p2 (HF2.out.later hb) (HX2.out.later hb) q1 q2 (by omega) HS1.out.1 HS1.out.2
    rw [← hU] at cU
    rw [hU2] at cV
    have cE := fun f f' W' (hf : FIn W' f U) (hf' : FIn W' f' U) => SameF_w f f' U U W' hf hf' (by have := hUm.1; omega)
    rw [sameF_self] at cE
    have cH1 := fun f v W' (hf : FIn W' f U) => rHas_w a b c st mi f v U Rl.kTE W' hf hUm (by decide)
    have cH2 := fun f v W' (hf : FIn W' f U) => rHas_w a b c st mi f v U Rl.kCL W' hf hUm (by decide)
    have cH3 := fun f v W' (hf : FIn W' f U) => rHas_w a b c st mi f v U Rl.kConn W' hf hUm (by decide)
    rw [hT1, show str Rl.kTE = ⟨#[116, 114, 97, 110, 115, 102, 101, 114, 45, 101, 110, 99, 111, 100, 105, 110, 103]⟩ from rfl] at cH1
    rw [hT2, show str Rl.kCL = ⟨#[99, 111, 110, 116, 101, 110, 116, 45, 108, 101, 110, 103, 116, 104]⟩ from rfl] at cH2
    rw [hT3, show str Rl.kConn = ⟨#[99, 111, 110, 110, 101, 99, 116, 105, 111, 110]⟩ from rfl] at cH3
    clear hT1 hT2 hT3 hU2 hU hK HX1 HX2 HL1 HL2 HN1 R p1 p2 p3 p4 q1 q2 q3 q4 hKm HE HF1 HF2
    unfold mv mcell at *
    obtain ⟨m0, m1, m2, m3, m4, m5, m6⟩ := HM.out w3 hWw3
    obtain ⟨n0, n1, n2, n3, n4, n5, n6⟩ := HN.out w3 hWw3
    go_wp2_with fail
    refine (cK).mono ?_
    rintro e w4 ⟨⟨f4, v4, rfl, hf4, hv4⟩, hx4⟩
    have hbw4 := hbw3.trans (hx4.mono hbw3.size)
    have hWw4 := hWw3.trans (hx4.mono hWw3.size)
    obtain ⟨ka4, kc4, hke4, hy9⟩ := id hf4
    obtain ⟨va4, vc4, hve4, hy8, hy7, hy6⟩ := id hv4.1
    clear hy9 hy8 hy7 hy6
    subst hke4 hve4
    have hx4s : Below w4.heap.size w4 (w4.alloc (.cells #[.string a, .string b, .int .i64 st, .string c, .int .i64 mi, .slice ka4 K.length kc4, .slice va4 x1.length vc4] 27)) := (Below.refl _ _).alloc (Nat.le_refl _) _
    have r4 := heap_alloc_new w4 (.cells #[.string a, .string b, .int .i64 st, .string c, .int .i64 mi, .slice ka4 K.length kc4, .slice va4 x1.length vc4] 27)
    go_upto_region 4 with fail
    change Code.wp _ _ _ _ (w4.alloc (.cells #[.string a, .string b, .int .i64 st, .string c, .int .i64 mi, .slice ka4 K.length kc4, .slice va4 x1.length vc4] 27))
    generalize w4.alloc (.cells #[.string a, .string b, .int .i64 st, .string c, .int .i64 mi, .slice ka4 K.length kc4, .slice va4 x1.length vc4] 27) = z4 at *
    generalize w4.heap.size = g4 at r4 ⊢
    have hbz4 := hbw4.trans (hx4s.mono hbw4.size)
    have hWz4 := hWw4.trans (hx4s.mono hWw4.size)
    have hfz4 := hf4.later hx4s
    have hvz4 := hv4.later hx4s
    clear cK m0 m1 m2 m3 m4 m5 m6 n0 n1 n2 n3 n4 n5 n6
    obtain ⟨s0, s1, s2, s3, s4, s5, s6⟩ := set7' r4
    obtain ⟨m0, m1, m2, m3, m4, m5, m6⟩ := HM.out z4 hWz4
    obtain ⟨n0, n1, n2, n3, n4, n5, n6⟩ := HN.out z4 hWz4
    go_wp2_with fail
    refine (cU _ _ z4 hbz4 hfz4 hvz4).mono ?_
    rintro e w6 ⟨⟨f6, v6, rfl, hf6, hv6⟩, hx6⟩
    have hbw6 := hbz4.trans (hx6.mono hbz4.size)
    have hWw6 := hWz4.trans (hx6.mono hWz4.size)
    obtain ⟨ka6, kc6, hke6, hy9⟩ := id hf6
    obtain ⟨va6, vc6, hve6, hy8, hy7, hy6⟩ := id hv6.1
    clear hy9 hy8 hy7 hy6
    subst hke6 hve6
    have hx6s : Below w6.heap.size w6 (w6.alloc (.cells #[.string a, .string b, .int .i64 st, .string c, .int .i64 mi, .slice ka6 U.length kc6, .slice va6 x1.length vc6] 27)) := (Below.refl _ _).alloc (Nat.le_refl _) _
    have r6 := heap_alloc_new w6 (.cells #[.string a, .string b, .int .i64 st, .string c, .int .i64 mi, .slice ka6 U.length kc6, .slice va6 x1.length vc6] 27)
    go_upto_region 5 with fail
    change Code.wp _ _ _ _ (w6.alloc (.cells #[.string a, .string b, .int .i64 st, .string c, .int .i64 mi, .slice ka6 U.length kc6, .slice va6 x1.length vc6] 27))
    generalize w6.alloc (.cells #[.string a, .string b, .int .i64 st, .string c, .int .i64 mi, .slice ka6 U.length kc6, .slice va6 x1.length vc6] 27) = z6 at *
    generalize w6.heap.size = g6 at r6 ⊢
    have hbz6 := hbw6.trans (hx6s.mono hbw6.size)
    have hWz6 := hWw6.trans (hx6s.mono hWw6.size)
    have hfz6 := hf6.later hx6s
    have hvz6 := hv6.later hx6s
    clear cU m0 m1 m2 m3 m4 m5 m6 n0 n1 n2 n3 n4 n5 n6 s0 s1 s2 s3 s4 s5 s6 r4
    obtain ⟨s0, s1, s2, s3, s4, s5, s6⟩ := set7' r6
    obtain ⟨m0, m1, m2, m3, m4, m5, m6⟩ := HM.out z6 hWz6
    obtain ⟨n0, n1, n2, n3, n4, n5, n6⟩ := HN.out z6 hWz6
    go_wp2_with fail
    refine (cV _ _ z6 hbz6 hfz6 hvz6).mono ?_
    rintro e w8 ⟨⟨f8, v8, rfl, hf8, hv8⟩, hx8⟩
    have hbw8 := hbz6.trans (hx8.mono hbz6.size)
    have hWw8 := hWz6.trans (hx8.mono hWz6.size)
    obtain ⟨ka8, kc8, hke8, hy9⟩ := id hf8
    obtain ⟨va8, vc8, hve8, hy8, hy7, hy6⟩ := id hv8.1
    clear hy9 hy8 hy7 hy6
    subst hke8 hve8
    replace r6 := blk_stay r6 hx8
    have hx8s : Below w8.heap.size w8 (w8.alloc (.cells #[.string a, .string b, .int .i64 st, .string c, .int .i64 mi, .slice ka8 U.length kc8, .slice va8 x1.length vc8] 27)) := (Below.refl _ _).alloc (Nat.le_refl _) _
    have r8 := heap_alloc_new w8 (.cells #[.string a, .string b, .int .i64 st, .string c, .int .i64 mi, .slice ka8 U.length kc8, .slice va8 x1.length vc8] 27)
    go_upto_region 6 with fail
    change Code.wp _ _ _ _ (w8.alloc (.cells #[.string a, .string b, .int .i64 st, .string c, .int .i64 mi, .slice ka8 U.length kc8, .slice va8 x1.length vc8] 27))
    generalize w8.alloc (.cells #[.string a, .string b, .int .i64 st, .string c, .int .i64 mi, .slice ka8 U.length kc8, .slice va8 x1.length vc8] 27) = z8 at *
    generalize w8.heap.size = g8 at r8 ⊢
    replace r6 := blk_stay r6 hx8s
    have hbz8 := hbw8.trans (hx8s.mono hbw8.size)
    have hWz8 := hWw8.trans (hx8s.mono hWw8.size)
    have hfz8 := hf8.later hx8s
    have hvz8 := hv8.later hx8s
    have hf6z := (hfz6.later hx8).later hx8s
    clear cV m0 m1 m2 m3 m4 m5 m6 n0 n1 n2 n3 n4 n5 n6 s0 s1 s2 s3 s4 s5 s6
    obtain ⟨s0, s1, s2, s3, s4, s5, s6⟩ := set7' r6
    obtain ⟨t0, t1, t2, t3, t4, t5, t6⟩ := set7' r8
    have cE8 := cE _ _ z8 hf6z hfz8
    go_wp2_with fail
    refine cE8.mono ?_
    rintro e w10 ⟨rfl, hx10⟩
    have hb10 := hbz8.trans (hx10.mono hbz8.size)
    replace r6 := blk_stay r6 hx10
    have hf10 := hf6z.later hx10
    clear s0 s1 s2 s3 s4 s5 s6 t0 t1 t2 t3 t4 t5 t6
    obtain ⟨s0, s1, s2, s3, s4, s5, s6⟩ := set7' r6
    have k1 := cH1 _ (.slice va6 x1.length vc6) w10 hf10
    go_wp2_with fail
    refine k1.mono ?_
    rintro e w11 ⟨rfl, hx11⟩
    have hb11 := hb10.trans (hx11.mono hb10.size)
    replace r6 := blk_stay r6 hx11
    have hf11 := hf10.later hx11
    clear s0 s1 s2 s3 s4 s5 s6
    obtain ⟨s0, s1, s2, s3, s4, s5, s6⟩ := set7' r6
    have k2 := cH2 _ (.slice va6 x1.length vc6) w11 hf11
    go_wp2_with fail
    refine k2.mono ?_
    rintro e w12 ⟨rfl, hx12⟩
    have hb12 := hb11.trans (hx12.mono hb11.size)
    replace r6 := blk_stay r6 hx12
    have hf12 := hf11.later hx12
    clear s0 s1 s2 s3 s4 s5 s6
    obtain ⟨s0, s1, s2, s3, s4, s5, s6⟩ := set7' r6
    have k3 := cH3 _ (.slice va6 x1.length vc6) w12 hf12
    go_wp2_with fail
    refine k3.mono ?_
    rintro e w13 ⟨rfl, hx13⟩
    go_wp2_with fail
    go_ret
    exact ⟨rfl, hb12.trans (hx13.mono hb12.size)⟩
end Go.Proofs.YtoanelobggledaaGreatDoor

