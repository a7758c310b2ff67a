/- The statements of layer 11: RulesAsked. -/
import Derived.Test.YtoanelobggledaaGreatDoorProg
import Derived.Test.YtoanelobggledaaGreatDoorZM1
import Derived.Test.YtoanelobggledaaGreatDoorZM2
import Derived.Test.YtoanelobggledaaGreatDoorZOctBase
import Derived.Test.YtoanelobggledaaGreatDoorYM2
import Derived.Test.YtoanelobggledaaGreatDoorYOctBase
import Derived.Test.YtoanelobggledaaGreatDoorZFd
import Derived.Test.YtoanelobggledaaGreatDoorZCt
import Derived.Test.YtoanelobggledaaGreatDoorZR1
import Derived.Test.YtoanelobggledaaGreatDoorZRl5
import Derived.Test.YtoanelobggledaaGreatDoorZRlB
import Derived.Test.YtoanelobggledaaGreatDoorZRlH
import Derived.Test.YtoanelobggledaaGreatDoorZRl3
import Derived.BigQuiet
import Derived.Deep.CutBlock
import Derived.Deep.DeepCutAuto
import Derived.Deep.LoopGhost
import Derived.Deep.QuietTactic
import Derived.Deep.RegionHeld3
import Derived.Deep.RegionWith
import Derived.Ground.SlbCloneProg
import Derived.IntWalk
import Derived.Laws.AppendOwnNone
import Derived.Laws.Externs
import Derived.Laws.OwnMore
import Derived.Laws.RangeString
import Derived.Lib.AppendStr
import Derived.Lib.AppendZerosOnto
import Derived.Lib.BufferRead
import Derived.Lib.Bytealg
import Derived.Lib.ConvBytes
import Derived.Lib.FieldsP
import Derived.Lib.Hide
import Derived.Lib.IndexBytes
import Derived.Lib.IndexMore
import Derived.Lib.ItoaNum
import Derived.Lib.Join
import Derived.Lib.SlTrimSet
import Derived.Lib.SlicesCompact
import Derived.Lib.UnsafeStr
import Derived.LoopTactic
import Derived.Maps.AppendAt
import Derived.Maps.OwnSet
import Derived.Shelf.Bytes.SlClone
import Derived.Shelf.LaysM
import Derived.Shelf.Slices.CompactS
import Derived.Shelf.Slices.In.SortNone
import Derived.Shelf.Small.Bits
import Derived.Shelf.Small.Strs
import Derived.Shelf.Small.Utf8
import Derived.Shelf.Small.Wraps
import Derived.Shelf.Sort.Plain
import Derived.Shelf.Spec.TrailingZeros
import Derived.Shelf.Strconv.Clone
import Derived.Shelf.Strconv.Itoa0
import Derived.Shelf.Strconv.Itoa1
import Derived.Shelf.Strconv.Itoa2
import Derived.Shelf.Strconv.Itoa3
import Derived.Shelf.Strconv.Itoa4
import Derived.Shelf.Strings.AsciiSet
import Derived.Shelf.Strings.Builder1
import Derived.Shelf.Strings.Builder2
import Derived.Shelf.Strings.Count
import Derived.Shelf.Strings.Cut
import Derived.Shelf.Strings.FieldsFuncAny
import Derived.Shelf.Strings.FieldsFuncGrows
import Derived.Shelf.Strings.IndexAny
import Derived.Shelf.Strings.IndexAnyAll
import Derived.Shelf.Strings.LastIndex
import Derived.Shelf.Strings.OnBuilder
import Derived.Shelf.Strings.Prefix
import Derived.Shelf.Strings.Runes
import Derived.Shelf.Strings.Search1
import Derived.Shelf.Strings.Search2
import Derived.Shelf.Strings.Search3
import Derived.Shelf.Strings.Shaped
import Derived.Shelf.Strings.SlTrimAscii
import Derived.Shelf.Strings.Split
import Derived.Shelf.Strings.SplitShaped
import Derived.Shelf.Strings.Trim
import Derived.Shelf.Unicode.CaseConvert
import Derived.Shelf.Unicode.CaseLaid
import Derived.Shelf.Unicode.CaseLookup
import Derived.Shelf.Unicode.CaseTo
import Derived.Shelf.Unicode.DecodeAny
import Derived.Shelf.Unicode.DecodeLast
import Derived.Shelf.Unicode.DecodeSlow
import Derived.Shelf.Unicode.Latin
import Derived.SliceStrings
import Derived.StillTailTactics
import Derived.StringKeys
import Derived.WalkKit
import Derived.WalkLawsBesides
import Derived.WalkSpells
namespace Go.Proofs.YtoanelobggledaaGreatDoor
open Go.RowKit

theorem one_len {fs : List Fld.F} (h : Mid fs) {nm v : List UInt8} (e : Rl.one fs nm = some v) : v.length ≤ 500 := by
  unfold Rl.one at e
  split at e
  · rename_i v' hv
    injection e with e; subst e
    exact (h.got nm).2 _ (by rw [hv]; simp)
  · cases e
theorem onv_tg {fs : List Fld.F} (h : Mid fs) {nm : List UInt8} : ∃ tg ok, onv (Rl.one fs nm) = .tuple #[.string (str tg), .bool ok] ∧ tg.length ≤ 500 ∧ ∀ t, Rl.one fs nm = some t → ok = true ∧ t = tg := by
  cases e : Rl.one fs nm with
  | none => exact ⟨[], false, rfl, by decide, fun t ht => by cases ht⟩
  | some v => exact ⟨v, true, rfl, one_len h e, fun t ht => by injection ht with ht; exact ⟨rfl, ht.symm⟩⟩
theorem cond_mid {D : List UInt8 → Option Int} {fs : List Fld.F} (h : Mid fs) : Mid (Rl.condition D fs) := by
  unfold Rl.condition
  have h2 : ((Rl.one fs Fr.kMod).getD []).length ≤ 500 := by
    cases e : Rl.one fs Fr.kMod with
    | none => decide
    | some v => exact one_len h e
  cases e : Rl.one fs Rl.kETag with
  | none =>
    dsimp only
    split
    · exact ⟨by simp, fun f hf => by obtain rfl := List.mem_singleton.1 hf; exact ⟨by show Rl.nIMS.length ≤ 300; decide, h2⟩⟩
    · exact ⟨by simp, fun f hf => by cases hf⟩
  | some t =>
    have h1 := one_len h e
    dsimp only
    split
    · exact ⟨by simp, fun f hf => by
        rcases List.mem_cons.1 hf with rfl | hf
        · exact ⟨by show Rl.nINM.length ≤ 300; decide, h1⟩
        · obtain rfl := List.mem_singleton.1 hf; exact ⟨by show Rl.nIMS.length ≤ 300; decide, h2⟩⟩
    · exact ⟨by simp, fun f hf => by obtain rfl := List.mem_singleton.1 hf; exact ⟨by show Rl.nINM.length ≤ 300; decide, h1⟩⟩
set_option maxHeartbeats 6400000 in
set_option maxRecDepth 100000 in
theorem asked_w {Env : World → Prop} (R : Prog11 D0 Env) (m : Msg) (w : World) (he : Env w) (hm : MOk w m) :
    Calls Tryz.prog 7 #[m.val] w fun e w' => e = .returned (.bool true) ∧ Below w.heap.size w w' := by
  have cA : Hid (∀ W', Below w.heap.size w W' → Calls Tryz.prog 10 #[] W' fun e w' => e = .returned (.bool true) ∧ Below W'.heap.size W' w') := Lib.hid fun W' hb => awake_w R W' (R.later he hb)
  have HE := Lib.hid (fun (W' : World) (hb : Below w.heap.size w W') => R.later he hb)
  obtain ⟨a, b, c, st, mi, fv, bv, fs, bl⟩ := m
  obtain ⟨fa, fc, hfv, hx8⟩ := hm.fin
  obtain ⟨ba, bc, hbv⟩ := hm.body
  clear hx8
  dsimp only at hfv hbv
  subst hfv hbv
  unfold Msg.val
  dsimp only
  have cS : Hid (∀ (g : Nat) W', Below w.heap.size w W' → W'.heap[g]? = some (.cells #[.string a, .string b, .int .i64 st, .string c, .int .i64 mi, .slice fa fs.length fc, .slice ba bl bc] 27 (0, 0)) → Calls Tryz.prog 11 #[.slice (some ⟨g, 0, none⟩) 1 1] W' fun e w' => e = .returned (.bool ([(⟨a, b, c, st, mi, .slice fa fs.length fc, .slice ba bl bc, fs, bl⟩ : Msg)].all shortB)) ∧ Below W'.heap.size W' w') := Lib.hid fun g W' hb h =>
    short_w g 1 [⟨a, b, c, st, mi, .slice fa fs.length fc, .slice ba bl bc, fs, bl⟩] W' rfl (by decide) (MRow.one (m := ⟨a, b, c, st, mi, .slice fa fs.length fc, .slice ba bl bc, fs, bl⟩) h) (fun q hq => by
      obtain rfl := List.mem_singleton.1 hq; exact hm.later hb)
  have HSH : Hid ([(⟨a, b, c, st, mi, .slice fa fs.length fc, .slice ba bl bc, fs, bl⟩ : Msg)].all shortB = true → (Mid fs ∧ bl ≤ 1000 ∧ a.size ≤ 100) ∧ (Rl.kept fs).length ≤ 30) := Lib.hid fun h => by
    have h2 : shortB ⟨a, b, c, st, mi, .slice fa fs.length fc, .slice ba bl bc, fs, bl⟩ = true := by simpa using h
    have h5 : fs.length ≤ 30 := shortB_few h2
    exact ⟨shortB_spec h2, by rw [Rl.kept_drop]; exact Nat.le_trans (Fld.drop_length _ _) h5⟩
  generalize [(⟨a, b, c, st, mi, .slice fa fs.length fc, .slice ba bl bc, fs, bl⟩ : Msg)].all shortB = sh at *
  have HF1 := Lib.hid hm.fin
  obtain ⟨x1, hx1, hxl1⟩ := hm.bin
  have HN1 := Lib.hid hm.nil
  have HS1 := Lib.hid hm.blim
  change Hid (b.size ≤ 281474976710656 ∧ c.size ≤ 281474976710656) at HS1
  dsimp only at hx1 hxl1
  have HX1 := Lib.hid hx1
  have HL1 := Lib.hid hxl1
  change Hid (FIn w (.slice fa fs.length fc) fs) at HF1
  change Hid (NilOk (.slice fa fs.length fc)) at HN1
  clear hm hx1 hxl1 he
  generalize fs.length = fl at *
  obtain ⟨W, hW⟩ : ∃ W, W = w.alloc (.cells #[.string a, .string b, .int .i64 st, .string c, .int .i64 mi, .slice fa fl fc, .slice ba bl bc] 27) := ⟨_, rfl⟩
  have hbw : Below w.heap.size w W := by rw [hW]; exact (Below.refl _ w).alloc (Nat.le_refl _) _
  have q0 : W.heap[w.heap.size]? = some (.cells #[.string a, .string b, .int .i64 st, .string c, .int .i64 mi, .slice fa fl fc, .slice ba bl bc] 27 (0, 0)) := by rw [hW]; exact heap_alloc_new w _
  have HM := Lib.hid (fun (W' : World) (hb : Below W.heap.size W W') => set7' (blk_stay q0 hb))
  have hWW := Below.refl W.heap.size W
  clear q0
  unfold mv mcell at *
  obtain ⟨m0, m1, m2, m3, m4, m5, m6⟩ := HM.out W hWW
  go_enter Tryz.func7, Tryz.ntmps7
  go_upto_region 1 with fail
  rw [← hW]
  clear hW
  go_wp2_with fail
  refine (cA.out W hbw).mono ?_
  rintro e w1 ⟨rfl, hx1⟩
  have hbw1 := hbw.trans (hx1.mono hbw.size)
  have hWw1 := hWW.trans (hx1.mono hWW.size)
  clear hx1 m0 m1 m2 m3 m4 m5 m6
  obtain ⟨m0, m1, m2, m3, m4, m5, m6⟩ := HM.out w1 hWw1
  have hr2 := heap_alloc_new w1 (.cells #[.string a, .string b, .int .i64 st, .string c, .int .i64 mi, .slice fa fl fc, .slice ba bl bc] 27)
  have hx2 : Below w1.heap.size w1 (w1.alloc (.cells #[.string a, .string b, .int .i64 st, .string c, .int .i64 mi, .slice fa fl fc, .slice ba bl bc] 27)) := (Below.refl _ _).alloc (Nat.le_refl _) _
  have hbw2 := hbw1.trans (hx2.mono hbw1.size)
  have hWw2 := hWw1.trans (hx2.mono hWw1.size)
  have cS2 := cS.out w1.heap.size _ hbw2 hr2
  clear hx2 hr2
  go_wp2_with fail
  refine cS2.mono ?_
  rintro e w3 ⟨rfl, hx3⟩
  have hbw3 := hbw2.trans (hx3.mono hbw2.size)
  have hWw3 := hWw2.trans (hx3.mono hWw2.size)
  clear hx3 cS2 cS hbw2 hWw2 hbw1 hWw1 m0 m1 m2 m3 m4 m5 m6
  cases sh with
  | false =>
    go_wp2_with fail
    refine (cA.out w3 hbw3).mono ?_
    rintro e w4 ⟨rfl, hx4⟩
    go_wp2_with fail
    go_ret
    exact ⟨rfl, hbw3.trans (hx4.mono hbw3.size)⟩
  | true =>
    obtain ⟨⟨p1, p2, p3⟩, p4⟩ := HSH.out rfl
    clear HSH cA
    rw [← HL1.out] at p2
    obtain ⟨K, hK⟩ : ∃ K, K = Rl.kept fs := ⟨_, rfl⟩
    have hKm : Mid K := by rw [hK]; exact p1.kept
    have hK2 : Rl.kept K = K := by rw [hK]; exact Rl.kept_twice fs
    have hK3 : K.length ≤ 30 := by rw [hK]; exact p4
    obtain ⟨C, hC⟩ : ∃ C, C = Rl.condition D0 K := ⟨_, rfl⟩
    have hCm : Mid C := by rw [hC]; exact cond_mid hKm
    obtain ⟨U, hU⟩ : ∃ U, U = Rl.update K K := ⟨_, rfl⟩
    have hUl : U.length = K.length := by rw [hU]; exact Rl.update_self_length hK2
    have hUg : ∀ n, Fld.get U n = Fld.get K n := fun n => by rw [hU]; exact Rl.update_self_get hK2 n
    have hUm : Mid U := by rw [hU]; exact update_mid hKm hKm (by omega)
    obtain ⟨tg, ok, ho, ht1, ht2⟩ := onv_tg hKm (nm := Rl.kETag)
    have HUN : Hid (C.length ≠ 0 → (ok = true → Oct.splitAll [tg] = [tg]) → Rl.unchanged D0 Rl.mGet C 200 K = true) := Lib.hid fun h1 h2 => by
      rw [hC]
      refine Rl.unchanged_self D0 K (fun e => h1 (by rw [hC, e]; rfl)) fun t ht => ?_
      obtain ⟨e1, e2⟩ := ht2 t ht
      rw [e2]; exact h2 e1
    have cK := R.kept a b c st mi (.slice fa fl fc) (.slice ba bl bc) fs x1 w3 (HE.out w3 hbw3) (HF1.out.later hbw3) (HX1.out.later hbw3) p1 p2 (by omega) HS1.out.1 HS1.out.2
    rw [← hK] at cK
    have HDC := Lib.hid (fun f v W' (hb : Below w.heap.size w W') (hf : FIn W' f K) (hv : BOk W' v x1) => R.condition a b c st mi f v K W' (HE.out W' hb) hf (by obtain ⟨⟨q, z, e, h8, h7, h6⟩, h5⟩ := hv; exact ⟨q, _, z, e⟩) hKm)
    rw [← hC] at HDC
    have HDO := Lib.hid (fun f v W' (hf : FIn W' f K) => rOne_w a b c st mi f v K Rl.kETag W' hf hKm (by decide))
    rw [ho, show str Rl.kETag = ⟨#[101, 116, 97, 103]⟩ from rfl] at HDO
    have HDS := Lib.hid (fun v W' (hv : SIn W' v [tg]) => rSplit_s v [tg] W' hv (by simp) (fun l hl => by obtain rfl := List.mem_singleton.1 hl; omega))
    have HDU := Lib.hid (fun f v f' W' (hb : Below w.heap.size w W') (hf' : FIn W' f' C) (hf : FIn W' f K) (hv : Sl v) => R.unchanged (⟨#[71, 69, 84]⟩ : ByteArray) (⟨#[47]⟩ : ByteArray) (⟨#[]⟩ : ByteArray) a b c 0 1 st mi f' (.slice none 0 0) f v C K W' (HE.out W' hb) hf' ⟨_, _, _, rfl⟩ hCm hf hv hKm (by decide))
    have HDF := Lib.hid (fun f v W' (hb : Below w.heap.size w W') (hf : FIn W' f K) (hv : Sl v) => R.confirms a b c a b c st mi 304 mi f v f v K K W' (HE.out W' hb) hf hv hKm hf hv hKm)
    rw [Rl.confirms_self] at HDF
    have HDP := Lib.hid (fun f v W' (hb : Below w.heap.size w W') (hf : FIn W' f K) (hv : BOk W' v x1) => R.update a b c a b c st mi 304 mi f v f v K K x1 x1 W' (HE.out W' hb) hf hv hKm p2 hf hv hKm p2 (by omega) HS1.out.1 HS1.out.2)
    rw [← hU] at HDP
    have HDG := Lib.hid (fun f (nm : List UInt8) W' (hf : FIn W' f K) (hn : nm.length ≤ 1000000) => rGet_w f K nm W' hf hKm.small hn)
    have HDH := Lib.hid (fun f (nm : List UInt8) W' (hf : FIn W' f U) (hn : nm.length ≤ 1000000) => by have := rGet_w f U nm W' hf hUm.small hn; rw [hUg] at this; exact this)
    have HKM := Lib.hid hKm
    have HUL := Lib.hid hUl
    have hcl9 : C.length ≤ 100 := hCm.1
    have hkl9 : K.length ≤ 100 := hKm.1
    clear hC hK hU hUl hUg hUm hKm hCm hK2 ho ht2 HX1 HL1 HN1 R p1 p2 p3 p4 HE HF1 HS1
    unfold mv mcell at *
    obtain ⟨m0, m1, m2, m3, m4, m5, m6⟩ := HM.out w3 hWw3
    go_wp2_with fail
    refine (cK).mono ?_
    rintro e w4 ⟨⟨f4, v4, rfl, hf4, hv4⟩, hx4⟩
    have hbw4 := hbw3.trans (hx4.mono hbw3.size)
    have hWw4 := hWw3.trans (hx4.mono hWw3.size)
    obtain ⟨ka4, kc4, hke4, hy9⟩ := id hf4
    obtain ⟨va4, vc4, hve4, hy8, hy7, hy6⟩ := id hv4.1
    clear hy9 hy8 hy7 hy6
    subst hke4 hve4
    have hx4s : Below w4.heap.size w4 (w4.alloc (.cells #[.string a, .string b, .int .i64 st, .string c, .int .i64 mi, .slice ka4 K.length kc4, .slice va4 x1.length vc4] 27)) := (Below.refl _ _).alloc (Nat.le_refl _) _
    have r4 := heap_alloc_new w4 (.cells #[.string a, .string b, .int .i64 st, .string c, .int .i64 mi, .slice ka4 K.length kc4, .slice va4 x1.length vc4] 27)
    go_upto_region 4 with fail
    change Code.wp _ _ _ _ (w4.alloc (.cells #[.string a, .string b, .int .i64 st, .string c, .int .i64 mi, .slice ka4 K.length kc4, .slice va4 x1.length vc4] 27))
    generalize w4.alloc (.cells #[.string a, .string b, .int .i64 st, .string c, .int .i64 mi, .slice ka4 K.length kc4, .slice va4 x1.length vc4] 27) = z4 at *
    generalize w4.heap.size = g4 at r4 ⊢
    have hbz4 := hbw4.trans (hx4s.mono hbw4.size)
    have hWz4 := hWw4.trans (hx4s.mono hWw4.size)
    have hfz4 := hf4.later hx4s
    have hvz4 := hv4.later hx4s
    clear cK m0 m1 m2 m3 m4 m5 m6 hx4 hx4s
    obtain ⟨s0, s1, s2, s3, s4, s5, s6⟩ := set7' r4
    go_wp2_with fail
    refine (HDC.out _ _ z4 hbz4 hfz4 hvz4).mono ?_
    rintro e w6 ⟨⟨v6, rfl, hf6⟩, hx6⟩
    have hb6 := hbz4.trans (hx6.mono hbz4.size)
    obtain ⟨ca, cc, hce, hy9⟩ := id hf6
    clear hy9
    subst hce
    replace r4 := blk_stay r4 hx6
    have hfw6 := hfz4.later hx6
    have hvw6 := hvz4.later hx6
    clear s0 s1 s2 s3 s4 s5 s6 hx6 hfz4 hvz4 hbz4 hWz4 hf4 hv4 hbw4 hWw4 hbw3 hWw3 HM HDC
    go_upto_region 5 with fail
    have hx7 : Below w6.heap.size w6 (w6.alloc (.cells #[.string ⟨#[71, 69, 84]⟩, .string ⟨#[47]⟩, .int .i64 0, .string ⟨#[]⟩, .int .i64 1, .slice ca C.length cc, .slice none 0 0] 27)) := (Below.refl _ _).alloc (Nat.le_refl _) _
    have r5 := heap_alloc_new w6 (.cells #[.string ⟨#[71, 69, 84]⟩, .string ⟨#[47]⟩, .int .i64 0, .string ⟨#[]⟩, .int .i64 1, .slice ca C.length cc, .slice none 0 0] 27)
    go_upto_region 6 with fail
    change Code.wp _ _ _ _ (w6.alloc (.cells #[.string ⟨#[71, 69, 84]⟩, .string ⟨#[47]⟩, .int .i64 0, .string ⟨#[]⟩, .int .i64 1, .slice ca C.length cc, .slice none 0 0] 27))
    generalize w6.alloc (.cells #[.string ⟨#[71, 69, 84]⟩, .string ⟨#[47]⟩, .int .i64 0, .string ⟨#[]⟩, .int .i64 1, .slice ca C.length cc, .slice none 0 0] 27) = w7 at *
    generalize w6.heap.size = g5 at r5 ⊢
    replace r4 := blk_stay r4 hx7
    have hb7 := hb6.trans (hx7.mono hb6.size)
    have HC7 := Lib.hid (hf6.later hx7)
    have HK7 := Lib.hid (hfw6.later hx7)
    have HV7 := Lib.hid (hvw6.later hx7)
    clear hx7 hf6 hfw6 hvw6 hb6
    obtain ⟨s0, s1, s2, s3, s4, s5, s6⟩ := set7' r4
    go_wp2_with fail
    refine (HDO.out _ _ w7 HK7.out).mono ?_
    rintro e w8 ⟨rfl, hx8⟩
    replace r4 := blk_stay r4 hx8
    replace r5 := blk_stay r5 hx8
    have hb8 := hb7.trans (hx8.mono hb7.size)
    have HC8 := Lib.hid (HC7.out.later hx8)
    have HK8 := Lib.hid (HK7.out.later hx8)
    have HV8 := Lib.hid (HV7.out.later hx8)
    clear hx8 HC7 HK7 HV7 hb7 s0 s1 s2 s3 s4 s5 s6 HDO
    go_upto_region 7 with fail
    have HR4 := Lib.hid r4
    have HR5 := Lib.hid r5
    have HB8 := Lib.hid hb8
    clear r4 r5 hb8
    go_cut [8] (fun u8 wx => ∃ pl w9, w9 = wx ∧ u8 = .bool pl ∧ Below w8.heap.size w8 w9 ∧ (pl = true → Oct.splitAll [tg] = [tg]))
    case first =>
      have hL := SBuf.lits_ w8 [tg] #[.string (str tg)] rfl (by simp)
      have cS1 := HDS.out _ _ hL.sin
      change Calls _ _ #[.slice (some ⟨w8.heap.size, 0, none⟩) 1 1] _ _ at cS1
      have hb9 := hL.2
      clear hL
      go_wp2_with fail
      refine cS1.mono ?_
      rintro e w9 ⟨v9, rfl, hB9⟩
      clear cS1
      have hb10 := hb9.trans (hB9.2.mono hb9.size)
      obtain ⟨ao9, cp9, rfl, hy9⟩ := hB9.sin
      clear hy9 hB9 hb9
      by_cases hl : (Oct.splitAll [tg]).length = 1
      case neg =>
        have e1 : (((Oct.splitAll [tg]).length : Int) == 1) = false := beq_eq_false_iff_ne.2 (by omega)
        generalize (Oct.splitAll [tg]).length = sl at *
        clear hl
        go_wp2_with fail
        go_meet
        case rel => exact ⟨_, _, rfl, rfl, hb10, fun h => by cases h⟩
      case pos =>
        rw [hl]
        have hL := SBuf.lits_ w9 [tg] #[.string (str tg)] rfl (by simp)
        have cS1 := HDS.out _ _ hL.sin
        change Calls _ _ #[.slice (some ⟨w9.heap.size, 0, none⟩) 1 1] _ _ at cS1
        have hb11 := hb10.trans (hL.2.mono hb10.size)
        clear hL hb10
        have HLL := Lib.hid hl
        clear hl
        go_wp2_with fail
        refine cS1.mono ?_
        rintro e w10 ⟨v10, rfl, hB10⟩
        clear cS1
        have hb12 := hb11.trans (hB10.2.mono hb11.size)
        obtain ⟨sa, hsa⟩ : ∃ sa, Oct.splitAll [tg] = [sa] := by
          have := HLL.out
          match h : Oct.splitAll [tg], this with
          | [x], _ => exact ⟨x, rfl⟩
        have hB11 := hB10.sin
        rw [hsa] at hB11
        obtain ⟨ao9, cp9, hve, hy9⟩ := hB11
        replace hve : v10 = .slice ao9 1 cp9 := hve
        subst hve
        obtain ⟨b9, o9, rfl, hcell⟩ : ∃ b o, ao9 = some ⟨b, o, none⟩ ∧ w10.cell? ⟨b, o, none⟩ = some (.string (str sa)) := by
          rcases hy9 with h | ⟨b, o, h1, h2, h3⟩
          · cases h
          · exact ⟨b, o, h1, by have := h3 0 (by simp); simpa using this⟩
        have HSA := Lib.hid hsa
        clear hy9 hB10 hb11 hsa HLL
        by_cases he : sa = tg
        · subst he
          have e1 : ((str sa).toList == (str sa).toList) = true := by simp
          generalize str sa = ss at *
          go_wp2_with fail
          go_meet
          case rel => exact ⟨_, _, rfl, rfl, hb12, fun _ => HSA.out⟩
        · have e1 : ((str sa).toList == (str tg).toList) = false := str_ne he
          generalize str sa = ss at *
          generalize str tg = st9 at *
          clear he
          go_wp2_with fail
          go_meet
          case rel => exact ⟨_, _, rfl, rfl, hb12, fun h => by cases h⟩
    case rest =>
    obtain ⟨pl, w9, rfl, rfl, hx9, hpl⟩ := hcut
    have HPL := Lib.hid hpl
    clear hpl HDS
    have hb9 := HB8.out.trans (hx9.mono HB8.out.size)
    have r4 := blk_stay HR4.out hx9
    have r5 := blk_stay HR5.out hx9
    have HC9 := Lib.hid (HC8.out.later hx9)
    have HK9 := Lib.hid (HK8.out.later hx9)
    have HV9 := Lib.hid (HV8.out.later hx9)
    clear hx9 HC8 HK8 HV8 HR4 HR5 HB8
    go_upto_region 8 with fail
    have HR4 := Lib.hid r4
    have HR5 := Lib.hid r5
    have HB9 := Lib.hid hb9
    clear r4 r5 hb9
    go_cut [69] (fun u69 wx => ∃ wa, wa = wx ∧ u69 = .bool false ∧ Below w9.heap.size w9 wa)
    case first =>
      obtain ⟨s0, s1, s2, s3, s4, s5, s6⟩ := set7' HR4.out
      by_cases h200 : st = 200
      case neg =>
        have e1 : (st == 200) = false := beq_eq_false_iff_ne.2 h200
        clear h200 HDU HUN
        go_wp2_with fail
        go_meet
        case rel => exact ⟨_, rfl, rfl, Below.refl _ _⟩
      subst h200
      by_cases hc0 : C.length = 0
      case pos =>
        have e1 : ¬ ((C.length : Int) > 0) := by omega
        clear hc0 HDU HUN
        go_wp2_with fail
        go_meet
        case rel => exact ⟨_, rfl, rfl, Below.refl _ _⟩
      have hun : (ok = true → Oct.splitAll [tg] = [tg]) → Rl.unchanged D0 Rl.mGet C 200 K = true := HUN.out hc0
      have HUN2 := Lib.hid hun
      have hcu := HDU.out _ (.slice va4 x1.length vc4) _ w9 HB9.out HC9.out HK9.out ⟨_, _, _, rfl⟩
      have e1 : ((C.length : Int) > 0) := by omega
      obtain ⟨t0, t1, t2, t3, t4, t5, t6⟩ := set7' HR5.out
      change Calls _ _ _ _ fun e w' => e = .returned (.bool (Rl.unchanged D0 Rl.mGet C 200 K)) ∧ _ at hcu
      clear HDU HUN HR4 HR5 HB9 HC9 HK9 HV9 hun
      have HPL2 := Lib.hid HPL.out
      generalize C.length = cl at *
      cases ok with
      | false =>
        rw [HUN2.out (fun h => by cases h)] at hcu
        clear HUN2
        go_wp2_with fail
        refine hcu.mono ?_
        rintro e w10 ⟨rfl, hx10⟩
        go_wp2_with fail
        go_meet
        case rel => exact ⟨_, rfl, rfl, hx10⟩
      | true =>
        cases pl with
        | false =>
          go_wp2_with fail
          go_meet
          case rel => exact ⟨_, rfl, rfl, Below.refl _ _⟩
        | true =>
          rw [HUN2.out (fun _ => HPL.out rfl)] at hcu
          clear HUN2
          go_wp2_with fail
          refine hcu.mono ?_
          rintro e w10 ⟨rfl, hx10⟩
          go_wp2_with fail
          go_meet
          case rel => exact ⟨_, rfl, rfl, hx10⟩
    case rest =>
    obtain ⟨wa, rfl, rfl, hxa⟩ := hcut
    clear HUN HPL HDU
    have hba := HB9.out.trans (hxa.mono HB9.out.size)
    have r4 := blk_stay HR4.out hxa
    have HKa := Lib.hid (HK9.out.later hxa)
    have HVa := Lib.hid (HV9.out.later hxa)
    clear hxa HK9 HV9 HC9 HR4 HR5 HB9
    obtain ⟨s0, s1, s2, s3, s4, s5, s6⟩ := set7' r4
    go_upto_region 12 with fail
    have hxb : Below wa.heap.size wa (wa.alloc (.cells #[.string a, .string b, .int .i64 304, .string c, .int .i64 mi, .slice ka4 K.length kc4, .slice va4 x1.length vc4] 27)) := (Below.refl _ _).alloc (Nat.le_refl _) _
    have r9 := heap_alloc_new wa (.cells #[.string a, .string b, .int .i64 304, .string c, .int .i64 mi, .slice ka4 K.length kc4, .slice va4 x1.length vc4] 27)
    change Code.wp _ _ _ _ (wa.alloc (.cells #[.string a, .string b, .int .i64 304, .string c, .int .i64 mi, .slice ka4 K.length kc4, .slice va4 x1.length vc4] 27))
    generalize wa.alloc (.cells #[.string a, .string b, .int .i64 304, .string c, .int .i64 mi, .slice ka4 K.length kc4, .slice va4 x1.length vc4] 27) = wb at *
    generalize wa.heap.size = g9 at r9 ⊢
    replace r4 := blk_stay r4 hxb
    have hbb := hba.trans (hxb.mono hba.size)
    have HKb := Lib.hid (HKa.out.later hxb)
    have HVb := Lib.hid (HVa.out.later hxb)
    clear hxb HKa HVa hba s0 s1 s2 s3 s4 s5 s6
    obtain ⟨s0, s1, s2, s3, s4, s5, s6⟩ := set7' r4
    obtain ⟨t0, t1, t2, t3, t4, t5, t6⟩ := set7' r9
    go_wp2_with fail
    refine (HDF.out _ _ wb hbb HKb.out ⟨_, _, _, rfl⟩).mono ?_
    rintro e we ⟨rfl, hxe⟩
    replace r4 := blk_stay r4 hxe
    replace r9 := blk_stay r9 hxe
    have hbe := hbb.trans (hxe.mono hbb.size)
    have HKe := Lib.hid (HKb.out.later hxe)
    have HVe := Lib.hid (HVb.out.later hxe)
    clear hxe HKb HVb hbb s0 s1 s2 s3 s4 s5 s6 t0 t1 t2 t3 t4 t5 t6 HDF
    obtain ⟨s0, s1, s2, s3, s4, s5, s6⟩ := set7' r4
    obtain ⟨t0, t1, t2, t3, t4, t5, t6⟩ := set7' r9
    go_wp2_with fail
    refine (HDP.out _ _ we hbe HKe.out HVe.out).mono ?_
    rintro e wf ⟨⟨ff, vf, rfl, hff, hvf⟩, hxf⟩
    replace r4 := blk_stay r4 hxf
    have hbf := hbe.trans (hxf.mono hbe.size)
    obtain ⟨ka10, kc10, hke, hy9⟩ := id hff
    rw [HUL.out] at hke
    obtain ⟨va10, vc10, hve, hy8, hy7, hy6⟩ := id hvf.1
    clear hy9 hy8 hy7 hy6
    subst hke hve
    have HKf := Lib.hid (HKe.out.later hxf)
    clear hxf HKe HVe hbe s0 s1 s2 s3 s4 s5 s6 t0 t1 t2 t3 t4 t5 t6 HDP r9 hvf
    have hxg : Below wf.heap.size wf (wf.alloc (.cells #[.string a, .string b, .int .i64 st, .string c, .int .i64 mi, .slice ka10 K.length kc10, .slice va10 x1.length vc10] 27)) := (Below.refl _ _).alloc (Nat.le_refl _) _
    have r10 := heap_alloc_new wf (.cells #[.string a, .string b, .int .i64 st, .string c, .int .i64 mi, .slice ka10 K.length kc10, .slice va10 x1.length vc10] 27)
    go_upto_region 15 with fail
    change Code.wp _ _ _ _ (wf.alloc (.cells #[.string a, .string b, .int .i64 st, .string c, .int .i64 mi, .slice ka10 K.length kc10, .slice va10 x1.length vc10] 27))
    generalize wf.alloc (.cells #[.string a, .string b, .int .i64 st, .string c, .int .i64 mi, .slice ka10 K.length kc10, .slice va10 x1.length vc10] 27) = wg at *
    generalize wf.heap.size = g10 at r10 ⊢
    replace r4 := blk_stay r4 hxg
    have hbg := hbf.trans (hxg.mono hbf.size)
    have HKg := Lib.hid (HKf.out.later hxg)
    have HUg := Lib.hid (hff.later hxg)
    have HKR := Lib.hid HKg.out
    have hcells := HKg.out
    clear hxg HKf hff hbf HUL
    obtain ⟨s0, s1, s2, s3, s4, s5, s6⟩ := set7' r4
    obtain ⟨t0, t1, t2, t3, t4, t5, t6⟩ := set7' r10
    obtain ⟨kao, kco, hkv, hkc⟩ := hcells
    obtain ⟨n, hn⟩ : ∃ n, n = K.length := ⟨_, rfl⟩
    have HNN := Lib.hid hn
    injection hkv with hk1 hk2 hk3
    subst hk1 hk3
    have HKC := Lib.hid hkc
    rw [← hn] at s5 t5 r4 r10 HKR HUg ⊢
    have HR4 := Lib.hid r4
    have HR10 := Lib.hid r10
    have HBG := Lib.hid hbg
    have HKG := Lib.hid HKR.out
    clear hn hk2 hkc r4 r10 hbg HKR HKg
    have hn9 : n ≤ 100 := by have := HNN.out; omega
    go_wp2_with fail
    go_loopw [11] (fun i wr => ∃ k : Nat, k ≤ n ∧ i = .int .i64 k ∧ Below wg.heap.size wg wr) (fun i _ => n - (intOf i).toNat)
    case atStart => exact ⟨0, by omega, rfl, Below.refl _ _⟩
    case round =>
      obtain ⟨k, hk9, rfl, hbr⟩ := hrel
      clear s0 s1 s2 s3 s4 s5 s6 t0 t1 t2 t3 t4 t5 t6
      obtain ⟨s0, s1, s2, s3, s4, s5, s6⟩ := set7' (blk_stay HR4.out hbr)
      by_cases hlt : k < n
      · have hkl : k < K.length := by have := HNN.out; omega
        obtain ⟨b', o', rfl, hcell⟩ : ∃ b o, ka4 = some ⟨b, o, none⟩ ∧ wr.cell? ⟨b, o + k * 2, none⟩ = some (.string (str K[k].1)) := by
          rcases HKC.out with h | ⟨b, o, h4, h5, h6⟩
          · exfalso; rw [h] at hkl; cases hkl
          · exact ⟨b, o, h4, (hbr.cell (p := ⟨b, o + k * 2, none⟩) h5).trans (h6 k hkl).1⟩
        have hnl : K[k].1.length ≤ 1000000 := by have := (HKM.out.2 _ (List.getElem_mem hkl)).1; omega
        have cG1 := Lib.hid (fun W' (hb : Below wr.heap.size wr W') => HDH.out _ K[k].1 W' ((HUg.out.later hbr).later hb) hnl)
        have cG2 := Lib.hid (fun W' (hb : Below wr.heap.size wr W') => HDG.out _ K[k].1 W' ((HKG.out.later hbr).later hb) hnl)
        have hgl : (Fld.get K K[k].1).length ≤ 100000000000 := by have := (HKM.out.got K[k].1).1; omega
        generalize str K[k].1 = sk at *
        generalize Fld.get K K[k].1 = X at *
        have cE := Lib.hid (fun v1 v2 W' (h1 : SIn W' v1 X) (h2 : SIn W' v2 X) => (Same_w v1 v2 X X W' h1 h2 hgl hgl))
        rw [sameL_self] at cE
        have HSr : Hid (∀ w', Below wr.heap.size wr w' → (w'.cell? ⟨g4, 0, none⟩ = some (.string a) ∧ w'.cell? ⟨g4, 1, none⟩ = some (.string b) ∧ w'.cell? ⟨g4, 2, none⟩ = some (.int .i64 st) ∧ w'.cell? ⟨g4, 3, none⟩ = some (.string c) ∧ w'.cell? ⟨g4, 4, none⟩ = some (.int .i64 mi) ∧ w'.cell? ⟨g4, 5, none⟩ = some (.slice (some ⟨b', o', none⟩) n kc4) ∧ w'.cell? ⟨g4, 6, none⟩ = some (.slice va4 x1.length vc4) ∧ w'.cell? ⟨g10, 0, none⟩ = some (.string a) ∧ w'.cell? ⟨g10, 1, none⟩ = some (.string b) ∧ w'.cell? ⟨g10, 2, none⟩ = some (.int .i64 st) ∧ w'.cell? ⟨g10, 3, none⟩ = some (.string c) ∧ w'.cell? ⟨g10, 4, none⟩ = some (.int .i64 mi) ∧ w'.cell? ⟨g10, 5, none⟩ = some (.slice ka10 n kc10) ∧ w'.cell? ⟨g10, 6, none⟩ = some (.slice va10 x1.length vc10))) := Lib.hid fun w' hb => by
          obtain ⟨s0, s1, s2, s3, s4, s5, s6⟩ := set7' (blk_stay HR4.out (hbr.trans (hb.mono hbr.size)))
          obtain ⟨t0, t1, t2, t3, t4, t5, t6⟩ := set7' (blk_stay HR10.out (hbr.trans (hb.mono hbr.size)))
          exact ⟨s0, s1, s2, s3, s4, s5, s6, t0, t1, t2, t3, t4, t5, t6⟩
        have K0 : Hid (Below wr.heap.size wr wr.drew) := Lib.hid (Below.refl _ _).drew
        have HBR := Lib.hid hbr
        clear hbr hnl hgl HKC HDG HDH
        go_upto_region 21 with fail
        clear hcell s0 s1 s2 s3 s4 s5 s6 hkl
        go_region_held3 (fun w' => w'.cell? ⟨g4, 0, none⟩ = some (.string a) ∧ w'.cell? ⟨g4, 1, none⟩ = some (.string b) ∧ w'.cell? ⟨g4, 2, none⟩ = some (.int .i64 st) ∧ w'.cell? ⟨g4, 3, none⟩ = some (.string c) ∧ w'.cell? ⟨g4, 4, none⟩ = some (.int .i64 mi) ∧ w'.cell? ⟨g4, 5, none⟩ = some (.slice (some ⟨b', o', none⟩) n kc4) ∧ w'.cell? ⟨g4, 6, none⟩ = some (.slice va4 x1.length vc4) ∧ w'.cell? ⟨g10, 0, none⟩ = some (.string a) ∧ w'.cell? ⟨g10, 1, none⟩ = some (.string b) ∧ w'.cell? ⟨g10, 2, none⟩ = some (.int .i64 st) ∧ w'.cell? ⟨g10, 3, none⟩ = some (.string c) ∧ w'.cell? ⟨g10, 4, none⟩ = some (.int .i64 mi) ∧ w'.cell? ⟨g10, 5, none⟩ = some (.slice ka10 n kc10) ∧ w'.cell? ⟨g10, 6, none⟩ = some (.slice va10 x1.length vc10))
          (first | with_reducible exact HSr.out _ K0.out | with_reducible exact HSr.out _ K3.out | with_reducible exact HSr.out _ K2.out | with_reducible exact HSr.out _ K1.out)
          (first
            | (go_at_call 37; (with_reducible refine (cE.out v1 v2 y2 F1.out F2.out).mono ?_); rintro e y3 ⟨rfl, nq, rfl⟩; have K3 := Lib.hid (Go.below_drewN K2.out nq))
            | (go_at_call 24; (with_reducible refine (cG2.out y1 K1.out).mono ?_); rintro e y2 ⟨v2, rfl, hB⟩; have K2 := Lib.hid (K1.out.trans (hB.2.mono K1.out.size)); have F2 := Lib.hid hB.sin; replace F1 := Lib.hid (F1.out.later hB.2); clear hB)
            | (go_at_call 24; (with_reducible refine (cG1.out _ K0.out).mono ?_); rintro e y1 ⟨v1, rfl, hB⟩; have K1 := Lib.hid (K0.out.trans (hB.2.mono K0.out.size)); have F1 := Lib.hid hB.sin; clear hB))
        all_goals
          go_wp2_with fail
          go_roundw
          case rel => exact ⟨k + 1, by omega, by go_num, HBR.out.trans (K3.out.mono HBR.out.size)⟩
          case measure => simp [intOf]; omega
      · have hb9 := HBG.out.trans (hbr.mono HBG.out.size)
        go_wp2_with fail
        go_ret
        exact ⟨rfl, hb9⟩
end Go.Proofs.YtoanelobggledaaGreatDoor

