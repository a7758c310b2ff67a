/- The statements of layer 11: RulesValidates. -/
import Derived.Test.YtoanelobggledaaGreatDoorProg
import Derived.Test.YtoanelobggledaaGreatDoorZM1
import Derived.Test.YtoanelobggledaaGreatDoorZM2
import Derived.Test.YtoanelobggledaaGreatDoorZOctBase
import Derived.Test.YtoanelobggledaaGreatDoorZFd
import Derived.Test.YtoanelobggledaaGreatDoorZCt
import Derived.Test.YtoanelobggledaaGreatDoorZR1
import Derived.Test.YtoanelobggledaaGreatDoorZRlB
import Derived.Test.YtoanelobggledaaGreatDoorZRl3
import Derived.Test.YtoanelobggledaaGreatDoorZRl8
import Derived.Test.YtoanelobggledaaGreatDoorZRlD4
import Derived.BigQuiet
import Derived.Deep.CutBlock
import Derived.Deep.DeepCutAuto
import Derived.Deep.LoopGhost
import Derived.Deep.QuietTactic
import Derived.Deep.RegionHeld3
import Derived.Deep.RegionWith
import Derived.Ground.SlbCloneProg
import Derived.IntWalk
import Derived.Laws.AppendOwnNone
import Derived.Laws.Externs
import Derived.Laws.OwnMore
import Derived.Laws.RangeString
import Derived.Lib.AppendStr
import Derived.Lib.AppendZerosOnto
import Derived.Lib.BufferRead
import Derived.Lib.Bytealg
import Derived.Lib.ConvBytes
import Derived.Lib.FieldsP
import Derived.Lib.Hide
import Derived.Lib.IndexBytes
import Derived.Lib.IndexMore
import Derived.Lib.ItoaNum
import Derived.Lib.Join
import Derived.Lib.SlTrimSet
import Derived.Lib.SlicesCompact
import Derived.Lib.UnsafeStr
import Derived.LoopTactic
import Derived.Maps.AppendAt
import Derived.Maps.OwnSet
import Derived.Shelf.Bytes.SlClone
import Derived.Shelf.LaysM
import Derived.Shelf.Slices.CompactS
import Derived.Shelf.Slices.In.SortNone
import Derived.Shelf.Small.Bits
import Derived.Shelf.Small.Strs
import Derived.Shelf.Small.Utf8
import Derived.Shelf.Small.Wraps
import Derived.Shelf.Sort.Plain
import Derived.Shelf.Spec.TrailingZeros
import Derived.Shelf.Strconv.Clone
import Derived.Shelf.Strconv.Itoa0
import Derived.Shelf.Strconv.Itoa1
import Derived.Shelf.Strconv.Itoa2
import Derived.Shelf.Strconv.Itoa3
import Derived.Shelf.Strconv.Itoa4
import Derived.Shelf.Strings.AsciiSet
import Derived.Shelf.Strings.Builder1
import Derived.Shelf.Strings.Builder2
import Derived.Shelf.Strings.Count
import Derived.Shelf.Strings.Cut
import Derived.Shelf.Strings.FieldsFuncAny
import Derived.Shelf.Strings.FieldsFuncGrows
import Derived.Shelf.Strings.IndexAny
import Derived.Shelf.Strings.IndexAnyAll
import Derived.Shelf.Strings.LastIndex
import Derived.Shelf.Strings.OnBuilder
import Derived.Shelf.Strings.Prefix
import Derived.Shelf.Strings.Runes
import Derived.Shelf.Strings.Search1
import Derived.Shelf.Strings.Search2
import Derived.Shelf.Strings.Search3
import Derived.Shelf.Strings.Shaped
import Derived.Shelf.Strings.SlTrimAscii
import Derived.Shelf.Strings.Split
import Derived.Shelf.Strings.SplitShaped
import Derived.Shelf.Strings.Trim
import Derived.Shelf.Unicode.CaseConvert
import Derived.Shelf.Unicode.CaseLaid
import Derived.Shelf.Unicode.CaseLookup
import Derived.Shelf.Unicode.CaseTo
import Derived.Shelf.Unicode.DecodeAny
import Derived.Shelf.Unicode.DecodeLast
import Derived.Shelf.Unicode.DecodeSlow
import Derived.Shelf.Unicode.Latin
import Derived.SliceStrings
import Derived.StillTailTactics
import Derived.StringKeys
import Derived.WalkKit
import Derived.WalkLawsBesides
import Derived.WalkSpells
namespace Go.Proofs.YtoanelobggledaaGreatDoor
open Go.RowKit

set_option maxHeartbeats 6400000 in
set_option maxRecDepth 100000 in
theorem validates_w {Env : World → Prop} (R : Prog11 D0 Env) (m n : Msg) (w : World) (he : Env w) (hm : MOk w m) (hn : MOk w n) :
    Calls Tryz.prog 5 #[m.val, n.val] w fun e w' => e = .returned (.bool true) ∧ Below w.heap.size w w' := by
  have cA : Hid (∀ W', Below w.heap.size w W' → Calls Tryz.prog 10 #[] W' fun e w' => e = .returned (.bool true) ∧ Below W'.heap.size W' w') := Lib.hid fun W' hb => awake_w R W' (R.later he hb)
  have HE := Lib.hid (fun (W' : World) (hb : Below w.heap.size w W') => R.later he hb)
  obtain ⟨a, b, c, st, mi, fv, bv, fs, bl⟩ := m
  obtain ⟨a', b', c', st', mi', fv', bv', fs', bl'⟩ := n
  obtain ⟨fa, fc, hfv, hx8⟩ := hm.fin
  obtain ⟨ba, bc, hbv⟩ := hm.body
  obtain ⟨fa', fc', hfv', hx9⟩ := hn.fin
  obtain ⟨ba', bc', hbv'⟩ := hn.body
  clear hx8 hx9
  dsimp only at hfv hbv hfv' hbv'
  subst hfv hbv hfv' hbv'
  unfold Msg.val
  dsimp only
  have cS : Hid (∀ (g : Nat) W', Below w.heap.size w W' → W'.heap[g]? = some (.cells #[.string a, .string b, .int .i64 st, .string c, .int .i64 mi, .slice fa fs.length fc, .slice ba bl bc, .string a', .string b', .int .i64 st', .string c', .int .i64 mi', .slice fa' fs'.length fc', .slice ba' bl' bc'] 27 (0, 0)) → Calls Tryz.prog 11 #[.slice (some ⟨g, 0, none⟩) 2 2] W' fun e w' => e = .returned (.bool ([(⟨a, b, c, st, mi, .slice fa fs.length fc, .slice ba bl bc, fs, bl⟩ : Msg), ⟨a', b', c', st', mi', .slice fa' fs'.length fc', .slice ba' bl' bc', fs', bl'⟩].all shortB)) ∧ Below W'.heap.size W' w') := Lib.hid fun g W' hb h =>
    short_w g 2 [⟨a, b, c, st, mi, .slice fa fs.length fc, .slice ba bl bc, fs, bl⟩, ⟨a', b', c', st', mi', .slice fa' fs'.length fc', .slice ba' bl' bc', fs', bl'⟩] W' rfl (by decide) (MRow.two (m := ⟨a, b, c, st, mi, .slice fa fs.length fc, .slice ba bl bc, fs, bl⟩) (n := ⟨a', b', c', st', mi', .slice fa' fs'.length fc', .slice ba' bl' bc', fs', bl'⟩) h) (fun q hq => by
      rcases List.mem_cons.1 hq with rfl | hq
      · exact hm.later hb
      · obtain rfl := List.mem_singleton.1 hq; exact hn.later hb)
  have HSH : Hid ([(⟨a, b, c, st, mi, .slice fa fs.length fc, .slice ba bl bc, fs, bl⟩ : Msg), ⟨a', b', c', st', mi', .slice fa' fs'.length fc', .slice ba' bl' bc', fs', bl'⟩].all shortB = true → ((Mid fs ∧ bl ≤ 1000 ∧ a.size ≤ 100) ∧ (Mid fs' ∧ bl' ≤ 1000 ∧ a'.size ≤ 100)) ∧ Mid (Rl.update (Rl.kept fs) fs') ∧ Mid (Rl.update fs fs')) := Lib.hid fun h => by
    have h2 : shortB ⟨a, b, c, st, mi, .slice fa fs.length fc, .slice ba bl bc, fs, bl⟩ = true ∧ shortB ⟨a', b', c', st', mi', .slice fa' fs'.length fc', .slice ba' bl' bc', fs', bl'⟩ = true := by simpa using h
    have h3 : (Rl.kept fs).length ≤ 30 := by rw [Rl.kept_drop]; exact Nat.le_trans (Fld.drop_length _ _) (shortB_few h2.1)
    have h4 : fs'.length ≤ 30 := shortB_few h2.2
    have h5 : fs.length ≤ 30 := shortB_few h2.1
    exact ⟨⟨shortB_spec h2.1, shortB_spec h2.2⟩, update_mid (shortB_spec h2.1).1.kept (shortB_spec h2.2).1 (by omega), update_mid (shortB_spec h2.1).1 (shortB_spec h2.2).1 (by omega)⟩
  generalize [(⟨a, b, c, st, mi, .slice fa fs.length fc, .slice ba bl bc, fs, bl⟩ : Msg), ⟨a', b', c', st', mi', .slice fa' fs'.length fc', .slice ba' bl' bc', fs', bl'⟩].all shortB = sh at *
  have HF1 := Lib.hid hm.fin
  have HF2 := Lib.hid hn.fin
  obtain ⟨x1, hx1, hxl1⟩ := hm.bin
  obtain ⟨x2, hx2, hxl2⟩ := hn.bin
  have HN1 := Lib.hid hm.nil
  have HS1 := Lib.hid hm.blim
  change Hid (b.size ≤ 281474976710656 ∧ c.size ≤ 281474976710656) at HS1
  dsimp only at hx1 hxl1 hx2 hxl2
  have HX1 := Lib.hid hx1
  have HX2 := Lib.hid hx2
  have HL1 := Lib.hid hxl1
  have HL2 := Lib.hid hxl2
  change Hid (FIn w (.slice fa fs.length fc) fs) at HF1
  change Hid (FIn w (.slice fa' fs'.length fc') fs') at HF2
  change Hid (NilOk (.slice fa fs.length fc)) at HN1
  clear hm hn hx1 hx2 hxl1 hxl2 he
  generalize fs.length = fl at *
  generalize fs'.length = fl' at *
  obtain ⟨W, hW⟩ : ∃ W, W = (w.alloc (.cells #[.string a, .string b, .int .i64 st, .string c, .int .i64 mi, .slice fa fl fc, .slice ba bl bc] 27)).alloc (.cells #[.string a', .string b', .int .i64 st', .string c', .int .i64 mi', .slice fa' fl' fc', .slice ba' bl' bc'] 27) := ⟨_, rfl⟩
  have hbw : Below w.heap.size w W := by rw [hW]; exact ((Below.refl _ w).alloc (Nat.le_refl _) _).alloc (by simp) _
  have q0 : W.heap[w.heap.size]? = some (.cells #[.string a, .string b, .int .i64 st, .string c, .int .i64 mi, .slice fa fl fc, .slice ba bl bc] 27 (0, 0)) := by rw [hW]; exact blk_stay (heap_alloc_new w _) ((Below.refl _ _).alloc (Nat.le_refl _) _)
  have q1 : W.heap[w.heap.size + 1]? = some (.cells #[.string a', .string b', .int .i64 st', .string c', .int .i64 mi', .slice fa' fl' fc', .slice ba' bl' bc'] 27 (0, 0)) := by rw [hW]; exact heap_alloc2_new w _ _
  have HM := Lib.hid (fun (W' : World) (hb : Below W.heap.size W W') => set7' (blk_stay q0 hb))
  have HN := Lib.hid (fun (W' : World) (hb : Below W.heap.size W W') => set7' (blk_stay q1 hb))
  have hWW := Below.refl W.heap.size W
  clear q0 q1
  unfold mv mcell at *
  obtain ⟨m0, m1, m2, m3, m4, m5, m6⟩ := HM.out W hWW
  obtain ⟨n0, n1, n2, n3, n4, n5, n6⟩ := HN.out W hWW
  go_enter Tryz.func5, Tryz.ntmps5
  go_upto_region 1 with fail
  rw [← hW]
  clear hW
  go_wp2_with fail
  refine (cA.out W hbw).mono ?_
  rintro e w1 ⟨rfl, hx1⟩
  have hbw1 := hbw.trans (hx1.mono hbw.size)
  have hWw1 := hWW.trans (hx1.mono hWW.size)
  clear hx1 m0 m1 m2 m3 m4 m5 m6 n0 n1 n2 n3 n4 n5 n6
  obtain ⟨m0, m1, m2, m3, m4, m5, m6⟩ := HM.out w1 hWw1
  obtain ⟨n0, n1, n2, n3, n4, n5, n6⟩ := HN.out w1 hWw1
  have hr2 := heap_alloc_new w1 (.cells #[.string a, .string b, .int .i64 st, .string c, .int .i64 mi, .slice fa fl fc, .slice ba bl bc, .string a', .string b', .int .i64 st', .string c', .int .i64 mi', .slice fa' fl' fc', .slice ba' bl' bc'] 27)
  have hx2 : Below w1.heap.size w1 (w1.alloc (.cells #[.string a, .string b, .int .i64 st, .string c, .int .i64 mi, .slice fa fl fc, .slice ba bl bc, .string a', .string b', .int .i64 st', .string c', .int .i64 mi', .slice fa' fl' fc', .slice ba' bl' bc'] 27)) := (Below.refl _ _).alloc (Nat.le_refl _) _
  have hbw2 := hbw1.trans (hx2.mono hbw1.size)
  have hWw2 := hWw1.trans (hx2.mono hWw1.size)
  have cS2 := cS.out w1.heap.size _ hbw2 hr2
  clear hx2 hr2
  go_wp2_with fail
  refine cS2.mono ?_
  rintro e w3 ⟨rfl, hx3⟩
  have hbw3 := hbw2.trans (hx3.mono hbw2.size)
  have hWw3 := hWw2.trans (hx3.mono hWw2.size)
  clear hx3 cS2 cS hbw2 hWw2 hbw1 hWw1 m0 m1 m2 m3 m4 m5 m6 n0 n1 n2 n3 n4 n5 n6
  cases sh with
  | false =>
    go_wp2_with fail
    refine (cA.out w3 hbw3).mono ?_
    rintro e w4 ⟨rfl, hx4⟩
    go_wp2_with fail
    go_ret
    exact ⟨rfl, hbw3.trans (hx4.mono hbw3.size)⟩
  | true =>
    obtain ⟨⟨⟨p1, p2, p3⟩, q1, q2, q3⟩, p4, q4⟩ := HSH.out rfl
    clear HSH cA
    rw [← HL1.out] at p2
    rw [← HL2.out] at q2
    obtain ⟨U, hU⟩ : ∃ U, U = Rl.update fs fs' := ⟨_, rfl⟩
    have hUl : U.length ≤ 1000000000 := by rw [hU]; have := q4.1; omega
    obtain ⟨C, hC⟩ : ∃ C, C = Rl.condition D0 fs := ⟨_, rfl⟩
    have hCl : C.length ≤ 1000000000 := by rw [hC]; exact cond_len D0 fs
    have cU := R.update a b c a' b' c' st mi st' mi' (.slice fa fl fc) (.slice ba bl bc) (.slice fa' fl' fc') (.slice ba' bl' bc') fs fs' x1 x2 w3 (HE.out w3 hbw3) (HF1.out.later hbw3) (HX1.out.later hbw3) p1 p2 (HF2.out.later hbw3) (HX2.out.later hbw3) q1 q2 (by omega) HS1.out.1 HS1.out.2
    rw [← hU] at cU
    have DC1 := Lib.hid (fun W' (hb : Below w.heap.size w W') => R.condition a b c st mi (.slice fa fl fc) (.slice ba bl bc) fs W' (HE.out W' hb) (HF1.out.later hb) ⟨_, _, _, rfl⟩ p1)
    have DC2 := Lib.hid (fun W' (hb : Below w.heap.size w W') => rCondition_w a b c st mi (.slice fa fl fc) (.slice ba bl bc) fs W' (HF1.out.later hb) p1)
    have DF1 := Lib.hid (fun W' (hb : Below w.heap.size w W') => R.confirms a b c a' b' c' st mi st' mi' (.slice fa fl fc) (.slice ba bl bc) (.slice fa' fl' fc') (.slice ba' bl' bc') fs fs' W' (HE.out W' hb) (HF1.out.later hb) ⟨_, _, _, rfl⟩ p1 (HF2.out.later hb) ⟨_, _, _, rfl⟩ q1)
    have DF2 := Lib.hid (fun W' (hb : Below w.heap.size w W') => rConfirms_w a b c a' b' c' st mi st' mi' (.slice fa fl fc) (.slice ba bl bc) (.slice fa' fl' fc') (.slice ba' bl' bc') fs fs' W' (HF1.out.later hb) p1 (HF2.out.later hb) q1)
    have DRU := Lib.hid (fun W' (hb : Below w.heap.size w W') => rUpdate_w (.slice fa fl fc) (.slice fa' fl' fc') fs fs' W' (HF1.out.later hb) p1 HN1.out (HF2.out.later hb) q1)
    have HB := Lib.hid (fun W' (hb : Below w.heap.size w W') => (HX1.out.later hb).conv)
    rw [← hC] at DC1 DC2
    rw [← hU] at DRU
    generalize Rl.confirms fs st' fs' = cf at *
    clear hU hC HX1 HX2 HL2 R p1 p2 p3 p4 q1 q2 q3 q4 HE HF1 HF2 HN1
    unfold mv mcell at *
    obtain ⟨m0, m1, m2, m3, m4, m5, m6⟩ := HM.out w3 hWw3
    obtain ⟨n0, n1, n2, n3, n4, n5, n6⟩ := HN.out w3 hWw3
    go_wp2_with fail
    refine (cU).mono ?_
    rintro e w4 ⟨⟨f4, v4, rfl, hf4, hv4⟩, hx4⟩
    have hbw4 := hbw3.trans (hx4.mono hbw3.size)
    have hWw4 := hWw3.trans (hx4.mono hWw3.size)
    obtain ⟨ka4, kc4, hke4, hy9⟩ := id hf4
    obtain ⟨va4, vc4, hve4, hy8, hy7, hy6⟩ := id hv4.1
    clear hy9 hy8 hy7 hy6
    subst hke4 hve4
    have hx4s : Below w4.heap.size w4 (w4.alloc (.cells #[.string a, .string b, .int .i64 st, .string c, .int .i64 mi, .slice ka4 U.length kc4, .slice va4 x1.length vc4] 27)) := (Below.refl _ _).alloc (Nat.le_refl _) _
    have r4 := heap_alloc_new w4 (.cells #[.string a, .string b, .int .i64 st, .string c, .int .i64 mi, .slice ka4 U.length kc4, .slice va4 x1.length vc4] 27)
    go_upto_region 4 with fail
    change Code.wp _ _ _ _ (w4.alloc (.cells #[.string a, .string b, .int .i64 st, .string c, .int .i64 mi, .slice ka4 U.length kc4, .slice va4 x1.length vc4] 27))
    generalize w4.alloc (.cells #[.string a, .string b, .int .i64 st, .string c, .int .i64 mi, .slice ka4 U.length kc4, .slice va4 x1.length vc4] 27) = z4 at *
    generalize w4.heap.size = g4 at r4 ⊢
    have hbz4 := hbw4.trans (hx4s.mono hbw4.size)
    have hWz4 := hWw4.trans (hx4s.mono hWw4.size)
    have hfz4 := hf4.later hx4s
    have hvz4 := hv4.later hx4s
    clear cU m0 m1 m2 m3 m4 m5 m6 n0 n1 n2 n3 n4 n5 n6
    have HS : Hid (∀ w', Below z4.heap.size z4 w' → (w'.cell? ⟨w.heap.size, 0, none⟩ = some (.string a) ∧ w'.cell? ⟨w.heap.size, 1, none⟩ = some (.string b) ∧ w'.cell? ⟨w.heap.size, 2, none⟩ = some (.int .i64 st) ∧ w'.cell? ⟨w.heap.size, 3, none⟩ = some (.string c) ∧ w'.cell? ⟨w.heap.size, 4, none⟩ = some (.int .i64 mi) ∧ w'.cell? ⟨w.heap.size, 5, none⟩ = some (.slice fa fl fc) ∧ w'.cell? ⟨w.heap.size, 6, none⟩ = some (.slice ba bl bc) ∧ w'.cell? ⟨w.heap.size + 1, 0, none⟩ = some (.string a') ∧ w'.cell? ⟨w.heap.size + 1, 1, none⟩ = some (.string b') ∧ w'.cell? ⟨w.heap.size + 1, 2, none⟩ = some (.int .i64 st') ∧ w'.cell? ⟨w.heap.size + 1, 3, none⟩ = some (.string c') ∧ w'.cell? ⟨w.heap.size + 1, 4, none⟩ = some (.int .i64 mi') ∧ w'.cell? ⟨w.heap.size + 1, 5, none⟩ = some (.slice fa' fl' fc') ∧ w'.cell? ⟨w.heap.size + 1, 6, none⟩ = some (.slice ba' bl' bc') ∧ w'.cell? ⟨g4, 0, none⟩ = some (.string a) ∧ w'.cell? ⟨g4, 1, none⟩ = some (.string b) ∧ w'.cell? ⟨g4, 2, none⟩ = some (.int .i64 st) ∧ w'.cell? ⟨g4, 3, none⟩ = some (.string c) ∧ w'.cell? ⟨g4, 4, none⟩ = some (.int .i64 mi) ∧ w'.cell? ⟨g4, 5, none⟩ = some (.slice ka4 U.length kc4) ∧ w'.cell? ⟨g4, 6, none⟩ = some (.slice va4 x1.length vc4) ∧ (convert 25 9 (.slice va4 x1.length vc4)).run Tryz.prog w' = .ok (.string (str x1)) w' ∧ (convert 25 9 (.slice ba bl bc)).run Tryz.prog w' = .ok (.string (str x1)) w' ∧ (binOp .eql 23 (.agg #[.string a, .string b, .int .i64 st, .string c, .int .i64 mi]) (.agg #[.string a, .string b, .int .i64 st, .string c, .int .i64 mi])).run Tryz.prog w' = .ok (.bool true) w' ∧ (eqGuard .eql 23 (.tmp 45) (.tmp 47) (.agg #[.string a, .string b, .int .i64 st, .string c, .int .i64 mi]) (.agg #[.string a, .string b, .int .i64 st, .string c, .int .i64 mi])).run Tryz.prog w' = .ok () w')) := Lib.hid fun w' hb => by
      obtain ⟨i0, i1, i2, i3, i4, i5, i6⟩ := HM.out w' (hWz4.trans (hb.mono hWz4.size))
      obtain ⟨j0, j1, j2, j3, j4, j5, j6⟩ := HN.out w' (hWz4.trans (hb.mono hWz4.size))
      obtain ⟨s0, s1, s2, s3, s4, s5, s6⟩ := set7' (blk_stay r4 hb)
      exact ⟨i0, i1, i2, i3, i4, i5, i6, j0, j1, j2, j3, j4, j5, j6, s0, s1, s2, s3, s4, s5, s6, (hvz4.later hb).conv, HB.out w' (hbz4.trans (hb.mono hbz4.size)), eql_start a b c st mi w', guard_start 45 47 a b c st mi w'⟩
    have cC1 := Lib.hid (fun W' (hb : Below z4.heap.size z4 W') => DC1.out W' (hbz4.trans (hb.mono hbz4.size)))
    have cC2 := Lib.hid (fun W' (hb : Below z4.heap.size z4 W') => DC2.out W' (hbz4.trans (hb.mono hbz4.size)))
    have cF1 := Lib.hid (fun W' (hb : Below z4.heap.size z4 W') => DF1.out W' (hbz4.trans (hb.mono hbz4.size)))
    have cF2 := Lib.hid (fun W' (hb : Below z4.heap.size z4 W') => DF2.out W' (hbz4.trans (hb.mono hbz4.size)))
    have cRU := Lib.hid (fun W' (hb : Below z4.heap.size z4 W') => DRU.out W' (hbz4.trans (hb.mono hbz4.size)))
    have cE1 := Lib.hid (fun f f' W' (hf : FIn W' f C) (hf' : FIn W' f' C) => SameF_w f f' C C W' hf hf' hCl)
    have cE2 := Lib.hid (fun f' W' (hb : Below z4.heap.size z4 W') (hf' : FIn W' f' U) => SameF_w (.slice ka4 U.length kc4) f' U U W' (hfz4.later hb) hf' hUl)
    rw [sameF_self] at cE1 cE2
    generalize str x1 = sx at *
    have K0 : Hid (Below z4.heap.size z4 z4.drew) := Lib.hid (Below.refl _ _).drew
    have HZ := Lib.hid (hbz4)
    clear DC1 DC2 DF1 DF2 DRU HB r4 HM HN hfz4 hvz4 hbz4 hWz4 hx4s hbw4 hWw4 hx4 hf4 hv4 hbw3 hWw3 HL1 hCl hUl
    go_region_held3 (fun w' => w'.cell? ⟨w.heap.size, 0, none⟩ = some (.string a) ∧ w'.cell? ⟨w.heap.size, 1, none⟩ = some (.string b) ∧ w'.cell? ⟨w.heap.size, 2, none⟩ = some (.int .i64 st) ∧ w'.cell? ⟨w.heap.size, 3, none⟩ = some (.string c) ∧ w'.cell? ⟨w.heap.size, 4, none⟩ = some (.int .i64 mi) ∧ w'.cell? ⟨w.heap.size, 5, none⟩ = some (.slice fa fl fc) ∧ w'.cell? ⟨w.heap.size, 6, none⟩ = some (.slice ba bl bc) ∧ w'.cell? ⟨w.heap.size + 1, 0, none⟩ = some (.string a') ∧ w'.cell? ⟨w.heap.size + 1, 1, none⟩ = some (.string b') ∧ w'.cell? ⟨w.heap.size + 1, 2, none⟩ = some (.int .i64 st') ∧ w'.cell? ⟨w.heap.size + 1, 3, none⟩ = some (.string c') ∧ w'.cell? ⟨w.heap.size + 1, 4, none⟩ = some (.int .i64 mi') ∧ w'.cell? ⟨w.heap.size + 1, 5, none⟩ = some (.slice fa' fl' fc') ∧ w'.cell? ⟨w.heap.size + 1, 6, none⟩ = some (.slice ba' bl' bc') ∧ w'.cell? ⟨g4, 0, none⟩ = some (.string a) ∧ w'.cell? ⟨g4, 1, none⟩ = some (.string b) ∧ w'.cell? ⟨g4, 2, none⟩ = some (.int .i64 st) ∧ w'.cell? ⟨g4, 3, none⟩ = some (.string c) ∧ w'.cell? ⟨g4, 4, none⟩ = some (.int .i64 mi) ∧ w'.cell? ⟨g4, 5, none⟩ = some (.slice ka4 U.length kc4) ∧ w'.cell? ⟨g4, 6, none⟩ = some (.slice va4 x1.length vc4) ∧ (convert 25 9 (.slice va4 x1.length vc4)).run Tryz.prog w' = .ok (.string sx) w' ∧ (convert 25 9 (.slice ba bl bc)).run Tryz.prog w' = .ok (.string sx) w' ∧ (binOp .eql 23 (.agg #[.string a, .string b, .int .i64 st, .string c, .int .i64 mi]) (.agg #[.string a, .string b, .int .i64 st, .string c, .int .i64 mi])).run Tryz.prog w' = .ok (.bool true) w' ∧ (eqGuard .eql 23 (.tmp 45) (.tmp 47) (.agg #[.string a, .string b, .int .i64 st, .string c, .int .i64 mi]) (.agg #[.string a, .string b, .int .i64 st, .string c, .int .i64 mi])).run Tryz.prog w' = .ok () w')
      (first
        | with_reducible exact HS.out _ K0.out | with_reducible exact HS.out _ K7.out | with_reducible exact HS.out _ K6.out | with_reducible exact HS.out _ K5.out | with_reducible exact HS.out _ K4.out
        | with_reducible exact HS.out _ K3.out | with_reducible exact HS.out _ K2.out | with_reducible exact HS.out _ K1.out)
      (first
        | (go_at_call 20; (with_reducible refine (cE2.out v6 y6 K6.out F6.out).mono ?_); rintro e y7 ⟨rfl, hb⟩; have K7 := Lib.hid (K6.out.trans (hb.mono K6.out.size)); clear hb)
        | (go_at_call 31; (with_reducible refine (cRU.out _ K5.out).mono ?_); rintro e y6 ⟨⟨v6, rfl, hf⟩, hb⟩; have K6 := Lib.hid (K5.out.trans (hb.mono K5.out.size)); have F6 := Lib.hid hf; clear hf hb)
        | (go_at_call 30; (with_reducible refine (cF2.out _ K4.out).mono ?_); rintro e y5 ⟨rfl, hb⟩; have K5 := Lib.hid (K4.out.trans (hb.mono K4.out.size)); clear hb)
        | (go_at_call 29; (with_reducible refine (cF1.out _ K3.out).mono ?_); rintro e y4 ⟨rfl, hb⟩; have K4 := Lib.hid (K3.out.trans (hb.mono K3.out.size)); clear hb)
        | (go_at_call 20; (with_reducible refine (cE1.out v1 v2 y2 F1.out F2.out).mono ?_); rintro e y3 ⟨rfl, hb⟩; have K3 := Lib.hid (K2.out.trans (hb.mono K2.out.size)); clear hb)
        | (go_at_call 28; (with_reducible refine (cC2.out _ K1.out).mono ?_); rintro e y2 ⟨⟨v2, rfl, hf⟩, hb⟩; have K2 := Lib.hid (K1.out.trans (hb.mono K1.out.size)); have F2 := Lib.hid hf; replace F1 := Lib.hid (F1.out.later hb); clear hf hb)
        | (go_at_call 27; (with_reducible refine (cC1.out _ K0.out).mono ?_); rintro e y1 ⟨⟨v1, rfl, hf⟩, hb⟩; have K1 := Lib.hid (K0.out.trans (hb.mono K0.out.size)); have F1 := Lib.hid hf; clear hf hb))
    all_goals
      go_wp2_with fail
      go_ret
      exact ⟨rfl, HZ.out.trans (K7.out.mono HZ.out.size)⟩
end Go.Proofs.YtoanelobggledaaGreatDoor

