/- The statements of layer 11: RulesKeeps. -/
import Derived.Test.YtoanelobggledaaGreatDoorProg
import Derived.Test.YtoanelobggledaaGreatDoorZM1
import Derived.Test.YtoanelobggledaaGreatDoorZM2
import Derived.Test.YtoanelobggledaaGreatDoorZOctBase
import Derived.Test.YtoanelobggledaaGreatDoorZFd
import Derived.Test.YtoanelobggledaaGreatDoorZCt
import Derived.Test.YtoanelobggledaaGreatDoorZR1
import Derived.Test.YtoanelobggledaaGreatDoorZRl5
import Derived.Test.YtoanelobggledaaGreatDoorZRlB
import Derived.Test.YtoanelobggledaaGreatDoorZRlH
import Derived.BigQuiet
import Derived.Deep.CutBlock
import Derived.Deep.DeepCutAuto
import Derived.Deep.LoopGhost
import Derived.Deep.QuietTactic
import Derived.Deep.RegionHeld3
import Derived.Deep.RegionWith
import Derived.Ground.SlbCloneProg
import Derived.IntWalk
import Derived.Laws.AppendOwnNone
import Derived.Laws.Externs
import Derived.Laws.OwnMore
import Derived.Laws.RangeString
import Derived.Lib.AppendStr
import Derived.Lib.AppendZerosOnto
import Derived.Lib.BufferRead
import Derived.Lib.Bytealg
import Derived.Lib.ConvBytes
import Derived.Lib.FieldsP
import Derived.Lib.Hide
import Derived.Lib.IndexBytes
import Derived.Lib.IndexMore
import Derived.Lib.ItoaNum
import Derived.Lib.Join
import Derived.Lib.SlTrimSet
import Derived.Lib.SlicesCompact
import Derived.Lib.UnsafeStr
import Derived.LoopTactic
import Derived.Maps.AppendAt
import Derived.Maps.OwnSet
import Derived.Shelf.Bytes.SlClone
import Derived.Shelf.LaysM
import Derived.Shelf.Slices.CompactS
import Derived.Shelf.Slices.In.SortNone
import Derived.Shelf.Small.Bits
import Derived.Shelf.Small.Strs
import Derived.Shelf.Small.Utf8
import Derived.Shelf.Small.Wraps
import Derived.Shelf.Sort.Plain
import Derived.Shelf.Spec.TrailingZeros
import Derived.Shelf.Strconv.Clone
import Derived.Shelf.Strconv.Itoa0
import Derived.Shelf.Strconv.Itoa1
import Derived.Shelf.Strconv.Itoa2
import Derived.Shelf.Strconv.Itoa3
import Derived.Shelf.Strconv.Itoa4
import Derived.Shelf.Strings.AsciiSet
import Derived.Shelf.Strings.Builder1
import Derived.Shelf.Strings.Builder2
import Derived.Shelf.Strings.Count
import Derived.Shelf.Strings.Cut
import Derived.Shelf.Strings.FieldsFuncAny
import Derived.Shelf.Strings.FieldsFuncGrows
import Derived.Shelf.Strings.IndexAny
import Derived.Shelf.Strings.IndexAnyAll
import Derived.Shelf.Strings.LastIndex
import Derived.Shelf.Strings.OnBuilder
import Derived.Shelf.Strings.Prefix
import Derived.Shelf.Strings.Runes
import Derived.Shelf.Strings.Search1
import Derived.Shelf.Strings.Search2
import Derived.Shelf.Strings.Search3
import Derived.Shelf.Strings.Shaped
import Derived.Shelf.Strings.SlTrimAscii
import Derived.Shelf.Strings.Split
import Derived.Shelf.Strings.SplitShaped
import Derived.Shelf.Strings.Trim
import Derived.Shelf.Unicode.CaseConvert
import Derived.Shelf.Unicode.CaseLaid
import Derived.Shelf.Unicode.CaseLookup
import Derived.Shelf.Unicode.CaseTo
import Derived.Shelf.Unicode.DecodeAny
import Derived.Shelf.Unicode.DecodeLast
import Derived.Shelf.Unicode.DecodeSlow
import Derived.Shelf.Unicode.Latin
import Derived.SliceStrings
import Derived.StillTailTactics
import Derived.StringKeys
import Derived.WalkKit
import Derived.WalkLawsBesides
import Derived.WalkSpells
namespace Go.Proofs.YtoanelobggledaaGreatDoor
open Go.RowKit

theorem neq_start (a b c : ByteArray) (st mi : Int) (w : World) : (binOp .neq 23 (.agg #[.string a, .string b, .int .i64 st, .string c, .int .i64 mi]) (.agg #[.string a, .string b, .int .i64 st, .string c, .int .i64 mi])).run Tryz.prog w = .ok (.bool false) w := by
  go_simp
theorem guard_startn (x y : Nat) (a b c : ByteArray) (st mi : Int) (w : World) : (eqGuard .neq 23 (.tmp x) (.tmp y) (.agg #[.string a, .string b, .int .i64 st, .string c, .int .i64 mi]) (.agg #[.string a, .string b, .int .i64 st, .string c, .int .i64 mi])).run Tryz.prog w = .ok () w := by
  kernel_rfl
theorem gone_said {fs : List Fld.F} {q : List UInt8} (h : q ∈ Oct.splitAll (Fld.get fs Rl.kConn)) : Rl.goneB fs (Oct.lower q) = true := by
  unfold Rl.goneB Rl.gone
  rw [Bool.or_eq_true]; left
  rw [List.contains_iff_mem, List.map_append, List.mem_append]
  exact .inr (List.mem_map_of_mem h)
set_option maxHeartbeats 6400000 in
set_option maxRecDepth 100000 in
theorem keeps_w {Env : World → Prop} (R : Prog11 D0 Env) (m : Msg) (w : World) (he : Env w) (hm : MOk w m) :
    Calls Tryz.prog 4 #[m.val] w fun e w' => e = .returned (.bool true) ∧ Below w.heap.size w w' := by
  have cA : Hid (∀ W', Below w.heap.size w W' → Calls Tryz.prog 10 #[] W' fun e w' => e = .returned (.bool true) ∧ Below W'.heap.size W' w') := Lib.hid fun W' hb => awake_w R W' (R.later he hb)
  have HE := Lib.hid (fun (W' : World) (hb : Below w.heap.size w W') => R.later he hb)
  obtain ⟨a, b, c, st, mi, fv, bv, fs, bl⟩ := m
  obtain ⟨fa, fc, hfv, hx8⟩ := hm.fin
  obtain ⟨ba, bc, hbv⟩ := hm.body
  clear hx8
  dsimp only at hfv hbv
  subst hfv hbv
  unfold Msg.val
  dsimp only
  have cS : Hid (∀ (g : Nat) W', Below w.heap.size w W' → W'.heap[g]? = some (.cells #[.string a, .string b, .int .i64 st, .string c, .int .i64 mi, .slice fa fs.length fc, .slice ba bl bc] 27 (0, 0)) → Calls Tryz.prog 11 #[.slice (some ⟨g, 0, none⟩) 1 1] W' fun e w' => e = .returned (.bool ([(⟨a, b, c, st, mi, .slice fa fs.length fc, .slice ba bl bc, fs, bl⟩ : Msg)].all shortB)) ∧ Below W'.heap.size W' w') := Lib.hid fun g W' hb h =>
    short_w g 1 [⟨a, b, c, st, mi, .slice fa fs.length fc, .slice ba bl bc, fs, bl⟩] W' rfl (by decide) (MRow.one (m := ⟨a, b, c, st, mi, .slice fa fs.length fc, .slice ba bl bc, fs, bl⟩) h) (fun q hq => by
      obtain rfl := List.mem_singleton.1 hq; exact hm.later hb)
  have HSH : Hid ([(⟨a, b, c, st, mi, .slice fa fs.length fc, .slice ba bl bc, fs, bl⟩ : Msg)].all shortB = true → (Mid fs ∧ bl ≤ 1000 ∧ a.size ≤ 100) ∧ True) := Lib.hid fun h => by
    have h2 : shortB ⟨a, b, c, st, mi, .slice fa fs.length fc, .slice ba bl bc, fs, bl⟩ = true := by simpa using h
    have h5 : fs.length ≤ 30 := shortB_few h2
    exact ⟨shortB_spec h2, trivial⟩
  generalize [(⟨a, b, c, st, mi, .slice fa fs.length fc, .slice ba bl bc, fs, bl⟩ : Msg)].all shortB = sh at *
  have HF1 := Lib.hid hm.fin
  obtain ⟨x1, hx1, hxl1⟩ := hm.bin
  have HN1 := Lib.hid hm.nil
  have HS1 := Lib.hid hm.blim
  change Hid (b.size ≤ 281474976710656 ∧ c.size ≤ 281474976710656) at HS1
  dsimp only at hx1 hxl1
  have HX1 := Lib.hid hx1
  have HL1 := Lib.hid hxl1
  change Hid (FIn w (.slice fa fs.length fc) fs) at HF1
  change Hid (NilOk (.slice fa fs.length fc)) at HN1
  clear hm hx1 hxl1 he
  generalize fs.length = fl at *
  obtain ⟨W, hW⟩ : ∃ W, W = w.alloc (.cells #[.string a, .string b, .int .i64 st, .string c, .int .i64 mi, .slice fa fl fc, .slice ba bl bc] 27) := ⟨_, rfl⟩
  have hbw : Below w.heap.size w W := by rw [hW]; exact (Below.refl _ w).alloc (Nat.le_refl _) _
  have q0 : W.heap[w.heap.size]? = some (.cells #[.string a, .string b, .int .i64 st, .string c, .int .i64 mi, .slice fa fl fc, .slice ba bl bc] 27 (0, 0)) := by rw [hW]; exact heap_alloc_new w _
  have HM := Lib.hid (fun (W' : World) (hb : Below W.heap.size W W') => set7' (blk_stay q0 hb))
  have hWW := Below.refl W.heap.size W
  clear q0
  unfold mv mcell at *
  obtain ⟨m0, m1, m2, m3, m4, m5, m6⟩ := HM.out W hWW
  go_enter Tryz.func4, Tryz.ntmps4
  go_upto_region 1 with fail
  rw [← hW]
  clear hW
  go_wp2_with fail
  refine (cA.out W hbw).mono ?_
  rintro e w1 ⟨rfl, hx1⟩
  have hbw1 := hbw.trans (hx1.mono hbw.size)
  have hWw1 := hWW.trans (hx1.mono hWW.size)
  clear hx1 m0 m1 m2 m3 m4 m5 m6
  obtain ⟨m0, m1, m2, m3, m4, m5, m6⟩ := HM.out w1 hWw1
  have hr2 := heap_alloc_new w1 (.cells #[.string a, .string b, .int .i64 st, .string c, .int .i64 mi, .slice fa fl fc, .slice ba bl bc] 27)
  have hx2 : Below w1.heap.size w1 (w1.alloc (.cells #[.string a, .string b, .int .i64 st, .string c, .int .i64 mi, .slice fa fl fc, .slice ba bl bc] 27)) := (Below.refl _ _).alloc (Nat.le_refl _) _
  have hbw2 := hbw1.trans (hx2.mono hbw1.size)
  have hWw2 := hWw1.trans (hx2.mono hWw1.size)
  have cS2 := cS.out w1.heap.size _ hbw2 hr2
  clear hx2 hr2
  go_wp2_with fail
  refine cS2.mono ?_
  rintro e w3 ⟨rfl, hx3⟩
  have hbw3 := hbw2.trans (hx3.mono hbw2.size)
  have hWw3 := hWw2.trans (hx3.mono hWw2.size)
  clear hx3 cS2 cS hbw2 hWw2 hbw1 hWw1 m0 m1 m2 m3 m4 m5 m6
  cases sh with
  | false =>
    go_wp2_with fail
    refine (cA.out w3 hbw3).mono ?_
    rintro e w4 ⟨rfl, hx4⟩
    go_wp2_with fail
    go_ret
    exact ⟨rfl, hbw3.trans (hx4.mono hbw3.size)⟩
  | true =>
    obtain ⟨⟨p1, p2, p3⟩, p4⟩ := HSH.out rfl
    clear HSH cA
    rw [← HL1.out] at p2
    obtain ⟨K, hK⟩ : ∃ K, K = Rl.kept fs := ⟨_, rfl⟩
    have hKm : Mid K := by rw [hK]; exact p1.kept
    have hK2 : Rl.kept K = K := by rw [hK]; exact Rl.kept_twice fs
    have hKl : K.length ≤ 1000000000 := by have := hKm.1; omega
    obtain ⟨P, hP⟩ : ∃ P, P = Rl.pass fs := ⟨_, rfl⟩
    have hPl : P.length ≤ 1000000000 := by rw [hP]; have := p1.pass.1; omega
    have hFl : fs.length ≤ 1000000000 := by have := p1.1; omega
    have hT0 : ∀ q ∈ Oct.splitAll (Fld.get fs Rl.kConn), Rl.has K q = false := fun q hq => by rw [hK]; exact Rl.kept_has fs (gone_said hq)
    have hT1 : Rl.has K Rl.kTE = false := by rw [hK]; exact Rl.kept_has fs (Rl.gone_hop (by decide))
    have hT2 : Rl.has K Rl.kCL = false := by rw [hK]; exact Rl.kept_has fs (by rw [show Oct.lower Rl.kCL = Rl.kCL by decide]; exact Rl.gone_cl fs)
    have hT3 : Rl.has K Rl.kConn = false := by rw [hK]; exact Rl.kept_has fs (Rl.gone_hop (by decide))
    have DK1 := fun W' (hb : Below w.heap.size w W') => R.kept a b c st mi (.slice fa fl fc) (.slice ba bl bc) fs x1 W' (HE.out W' hb) (HF1.out.later hb) (HX1.out.later hb) p1 p2 (by omega) HS1.out.1 HS1.out.2
    have DK2 := fun f v W' (hb : Below w.heap.size w W') (hf : FIn W' f K) (hv : BOk W' v x1) => R.kept a b c st mi f v K x1 W' (HE.out W' hb) hf hv hKm p2 (by omega) HS1.out.1 HS1.out.2
    have DP := fun W' (hb : Below w.heap.size w W') => R.pass (.slice fa fl fc) fs W' (HE.out W' hb) (HF1.out.later hb) p1
    have ERK := Lib.hid (fun W' (hb : Below w.heap.size w W') => rKept_w (.slice fa fl fc) fs W' (HF1.out.later hb) p1)
    have ERP := Lib.hid (fun W' (hb : Below w.heap.size w W') => rPass_w (.slice fa fl fc) fs W' (HF1.out.later hb) p1)
    have DE1 := Lib.hid (fun f f' W' (hf : FIn W' f K) (hf' : FIn W' f' K) => SameF_w f f' K K W' hf hf' hKl)
    have DE2 := Lib.hid (fun f f' W' (hf : FIn W' f P) (hf' : FIn W' f' P) => SameF_w f f' P P W' hf hf' hPl)
    have DE3 := Lib.hid (fun f W' (hb : Below w.heap.size w W') (hf : FIn W' f fs) => SameF_w f (.slice fa fl fc) fs fs W' hf (HF1.out.later hb) hFl)
    have HB := Lib.hid (fun W' (hb : Below w.heap.size w W') => (HX1.out.later hb).conv)
    rw [← hK] at DK1 ERK
    rw [hK2] at DK2
    rw [← hP] at DP ERP
    rw [sameF_self] at DE1 DE2 DE3
    have cG := fun W' (hb : Below w.heap.size w W') => rGet_w (.slice fa fl fc) fs Rl.kConn W' (HF1.out.later hb) p1.small (by decide)
    rw [show str Rl.kConn = ⟨#[99, 111, 110, 110, 101, 99, 116, 105, 111, 110]⟩ from rfl] at cG
    have hgk := p1.got Rl.kConn
    have cSp := fun v W' (hv : SIn W' v (Fld.get fs Rl.kConn)) => rSplit_s v (Fld.get fs Rl.kConn) W' hv (by omega) (fun l hl => by have := hgk.2 l hl; omega)
    have HLN := Lib.hid (Vr.piece_len (ls := Fld.get fs Rl.kConn) (m := 500) hgk.2)
    have HNN := Lib.hid (Oct.splitAll_len (Fld.get fs Rl.kConn) (fun l hl => by have := hgk.2 l hl; omega))
    have hnn2 : (Oct.splitAll (Fld.get fs Rl.kConn)).length ≤ 900000000 := by have := HNN.out; omega
    clear HNN hgk
    generalize Fld.get fs Rl.kConn = gs at *
    have HT0 := Lib.hid hT0
    have cH := Lib.hid (fun nm f v W' (hf : FIn W' f K) (hl : nm.length ≤ 1000) => rHas_w a b c st mi f v K nm W' hf hKm hl)
    have cH1 := fun f v W' (hf : FIn W' f K) => rHas_w a b c st mi f v K Rl.kTE W' hf hKm (by decide)
    have cH2 := fun f v W' (hf : FIn W' f K) => rHas_w a b c st mi f v K Rl.kCL W' hf hKm (by decide)
    have cH3 := fun f v W' (hf : FIn W' f K) => rHas_w a b c st mi f v K Rl.kConn W' hf hKm (by decide)
    rw [hT1, show str Rl.kTE = ⟨#[116, 114, 97, 110, 115, 102, 101, 114, 45, 101, 110, 99, 111, 100, 105, 110, 103]⟩ from rfl] at cH1
    rw [hT2, show str Rl.kCL = ⟨#[99, 111, 110, 116, 101, 110, 116, 45, 108, 101, 110, 103, 116, 104]⟩ from rfl] at cH2
    rw [hT3, show str Rl.kConn = ⟨#[99, 111, 110, 110, 101, 99, 116, 105, 111, 110]⟩ from rfl] at cH3
    have na := HN1.out
    have ka : ([] : List Fld.F).length + fs.length ≤ 1000000000 := by rw [List.length_nil]; omega
    clear hT0 hT1 hT2 hT3 hK2 hK hP HX1 HL1 HN1 R p2 p3 p4 hKm HE hKl hPl hFl
    have hE := FBuf.none_ w3 w3 (Below.refl _ _)
    have hal := (Below.refl w3.heap.size w3).alloc (Nat.le_refl _) (.cells #[] 53)
    have hA1 := HF1.out.later (hbw3.trans (hal.mono hbw3.size))
    obtain ⟨q0, q1, q2, q3, q4, q5, q6⟩ := HM.out _ (hWw3.trans (hal.mono hWw3.size))
    clear hal q0 q1 q2 q3 q4 q6
    unfold mv mcell at *
    obtain ⟨m0, m1, m2, m3, m4, m5, m6⟩ := HM.out w3 hWw3
    go_wp2_with (at_builtin; refine appFs hE hA1 na ka rfl _ _ rfl rfl rfl ?_; intro v4 w4 hB4; rw [List.nil_append] at hB4; have hbw4 := hbw3.trans (hB4.2.mono hbw3.size); have hWw4 := hWw3.trans (hB4.2.mono hWw3.size); obtain ⟨k0, k1, k2, k3, k4, k5, k6⟩ := HM.out w4 hWw4)
    clear hE hA1 na ka q5
    have hI4 := hB4.fin
    have DK1' := DK1 w4 hbw4
    clear DK1 hB4 m0 m1 m2 m3 m4 m5 m6
    refine (DK1').mono ?_
    rintro e w5 ⟨⟨f5, v5, rfl, hf5, hv5⟩, hx5⟩
    have hbw5 := hbw4.trans (hx5.mono hbw4.size)
    have hWw5 := hWw4.trans (hx5.mono hWw4.size)
    obtain ⟨ka5, kc5, hke5, hy9⟩ := id hf5
    obtain ⟨va5, vc5, hve5, hy8, hy7, hy6⟩ := id hv5.1
    clear hy9 hy8 hy7 hy6
    subst hke5 hve5
    have hx5s : Below w5.heap.size w5 (w5.alloc (.cells #[.string a, .string b, .int .i64 st, .string c, .int .i64 mi, .slice ka5 K.length kc5, .slice va5 x1.length vc5] 27)) := (Below.refl _ _).alloc (Nat.le_refl _) _
    have r5 := heap_alloc_new w5 (.cells #[.string a, .string b, .int .i64 st, .string c, .int .i64 mi, .slice ka5 K.length kc5, .slice va5 x1.length vc5] 27)
    go_upto_region 5 with fail
    change Code.wp _ _ _ _ (w5.alloc (.cells #[.string a, .string b, .int .i64 st, .string c, .int .i64 mi, .slice ka5 K.length kc5, .slice va5 x1.length vc5] 27))
    generalize w5.alloc (.cells #[.string a, .string b, .int .i64 st, .string c, .int .i64 mi, .slice ka5 K.length kc5, .slice va5 x1.length vc5] 27) = z5 at *
    generalize w5.heap.size = g5 at r5 ⊢
    have hbz5 := hbw5.trans (hx5s.mono hbw5.size)
    have hWz5 := hWw5.trans (hx5s.mono hWw5.size)
    have hfz5 := hf5.later hx5s
    have hvz5 := hv5.later hx5s
    clear DK1' k0 k1 k2 k3 k4 k5 k6
    have HI5 := Lib.hid ((hI4.later hx5).later hx5s)
    clear hI4
    obtain ⟨m0, m1, m2, m3, m4, m5, m6⟩ := HM.out z5 hWz5
    go_wp2_with fail
    refine (DP z5 hbz5).mono ?_
    rintro e w6 ⟨⟨v6, rfl, hf6⟩, hx6⟩
    have hbw6 := hbz5.trans (hx6.mono hbz5.size)
    have hWw6 := hWz5.trans (hx6.mono hWz5.size)
    replace r5 := blk_stay r5 hx6
    have HI6 := Lib.hid (HI5.out.later hx6)
    have hfw6 := hfz5.later hx6
    have hvw6 := hvz5.later hx6
    clear HI5 DP m0 m1 m2 m3 m4 m5 m6
    have HF6 := Lib.hid hf6
    obtain ⟨m0, m1, m2, m3, m4, m5, m6⟩ := HM.out w6 hWw6
    obtain ⟨s0, s1, s2, s3, s4, s5, s6⟩ := set7' r5
    go_upto_region 6 with fail
    have HS : Hid (∀ w', Below w6.heap.size w6 w' → (w'.cell? ⟨w.heap.size, 0, none⟩ = some (.string a) ∧ w'.cell? ⟨w.heap.size, 1, none⟩ = some (.string b) ∧ w'.cell? ⟨w.heap.size, 2, none⟩ = some (.int .i64 st) ∧ w'.cell? ⟨w.heap.size, 3, none⟩ = some (.string c) ∧ w'.cell? ⟨w.heap.size, 4, none⟩ = some (.int .i64 mi) ∧ w'.cell? ⟨w.heap.size, 5, none⟩ = some (.slice fa fl fc) ∧ w'.cell? ⟨w.heap.size, 6, none⟩ = some (.slice ba bl bc) ∧ w'.cell? ⟨g5, 0, none⟩ = some (.string a) ∧ w'.cell? ⟨g5, 1, none⟩ = some (.string b) ∧ w'.cell? ⟨g5, 2, none⟩ = some (.int .i64 st) ∧ w'.cell? ⟨g5, 3, none⟩ = some (.string c) ∧ w'.cell? ⟨g5, 4, none⟩ = some (.int .i64 mi) ∧ w'.cell? ⟨g5, 5, none⟩ = some (.slice ka5 K.length kc5) ∧ w'.cell? ⟨g5, 6, none⟩ = some (.slice va5 x1.length vc5) ∧ (convert 25 9 (.slice va5 x1.length vc5)).run Tryz.prog w' = .ok (.string (str x1)) w' ∧ (convert 25 9 (.slice ba bl bc)).run Tryz.prog w' = .ok (.string (str x1)) w' ∧ (binOp .neq 23 (.agg #[.string a, .string b, .int .i64 st, .string c, .int .i64 mi]) (.agg #[.string a, .string b, .int .i64 st, .string c, .int .i64 mi])).run Tryz.prog w' = .ok (.bool false) w' ∧ (eqGuard .neq 23 (.tmp 51) (.tmp 53) (.agg #[.string a, .string b, .int .i64 st, .string c, .int .i64 mi]) (.agg #[.string a, .string b, .int .i64 st, .string c, .int .i64 mi])).run Tryz.prog w' = .ok () w')) := Lib.hid fun w' hb => by
      obtain ⟨i0, i1, i2, i3, i4, i5, i6⟩ := HM.out w' (hWw6.trans (hb.mono hWw6.size))
      obtain ⟨s0, s1, s2, s3, s4, s5, s6⟩ := set7' (blk_stay r5 hb)
      exact ⟨i0, i1, i2, i3, i4, i5, i6, s0, s1, s2, s3, s4, s5, s6, (hvw6.later hb).conv, HB.out w' (hbw6.trans (hb.mono hbw6.size)), neq_start a b c st mi w', guard_startn 51 53 a b c st mi w'⟩
    have cRK := Lib.hid (fun W' (hb : Below w6.heap.size w6 W') => ERK.out W' (hbw6.trans (hb.mono hbw6.size)))
    have cRP := Lib.hid (fun W' (hb : Below w6.heap.size w6 W') => ERP.out W' (hbw6.trans (hb.mono hbw6.size)))
    have cE1 := Lib.hid (fun f' W' (hb : Below w6.heap.size w6 W') (hf' : FIn W' f' K) => DE1.out (.slice ka5 K.length kc5) f' W' (hfw6.later hb) hf')
    have cE2 := Lib.hid (fun f' W' (hb : Below w6.heap.size w6 W') (hf' : FIn W' f' P) => DE2.out v6 f' W' (HF6.out.later hb) hf')
    have cE3 := Lib.hid (fun W' (hb : Below w6.heap.size w6 W') => DE3.out v4 W' (hbw6.trans (hb.mono hbw6.size)) (HI6.out.later hb))
    have HVT := Lib.hid hvw6
    generalize hsx : str x1 = sx at *
    clear hsx
    have K0 : Hid (Below w6.heap.size w6 w6.drew) := Lib.hid (Below.refl _ _).drew
    have HR5 := Lib.hid r5
    have HZ := Lib.hid (And.intro hbw6 hWw6)
    have HFW := Lib.hid hfw6
    clear ERK ERP HB r5 hfw6 hvw6 hbw6 hWw6 m0 m1 m2 m3 m4 m5 m6 s0 s1 s2 s3 s4 s5 s6 hx6 hf6 hfz5 hvz5 hbz5 hWz5 hx5s hx5 hf5 hv5 hbw5 hWw5 hbw4 hWw4 hbw3 hWw3
    have HDK2 := Lib.hid DK2
    have HcG := Lib.hid cG
    have HcSp := Lib.hid cSp
    have HcH1 := Lib.hid cH1
    have HcH2 := Lib.hid cH2
    have HcH3 := Lib.hid cH3
    clear DK2 cG cSp cH1 cH2 cH3
    go_region_held3 (fun w' => w'.cell? ⟨w.heap.size, 0, none⟩ = some (.string a) ∧ w'.cell? ⟨w.heap.size, 1, none⟩ = some (.string b) ∧ w'.cell? ⟨w.heap.size, 2, none⟩ = some (.int .i64 st) ∧ w'.cell? ⟨w.heap.size, 3, none⟩ = some (.string c) ∧ w'.cell? ⟨w.heap.size, 4, none⟩ = some (.int .i64 mi) ∧ w'.cell? ⟨w.heap.size, 5, none⟩ = some (.slice fa fl fc) ∧ w'.cell? ⟨w.heap.size, 6, none⟩ = some (.slice ba bl bc) ∧ w'.cell? ⟨g5, 0, none⟩ = some (.string a) ∧ w'.cell? ⟨g5, 1, none⟩ = some (.string b) ∧ w'.cell? ⟨g5, 2, none⟩ = some (.int .i64 st) ∧ w'.cell? ⟨g5, 3, none⟩ = some (.string c) ∧ w'.cell? ⟨g5, 4, none⟩ = some (.int .i64 mi) ∧ w'.cell? ⟨g5, 5, none⟩ = some (.slice ka5 K.length kc5) ∧ w'.cell? ⟨g5, 6, none⟩ = some (.slice va5 x1.length vc5) ∧ (convert 25 9 (.slice va5 x1.length vc5)).run Tryz.prog w' = .ok (.string sx) w' ∧ (convert 25 9 (.slice ba bl bc)).run Tryz.prog w' = .ok (.string sx) w' ∧ (binOp .neq 23 (.agg #[.string a, .string b, .int .i64 st, .string c, .int .i64 mi]) (.agg #[.string a, .string b, .int .i64 st, .string c, .int .i64 mi])).run Tryz.prog w' = .ok (.bool false) w' ∧ (eqGuard .neq 23 (.tmp 51) (.tmp 53) (.agg #[.string a, .string b, .int .i64 st, .string c, .int .i64 mi]) (.agg #[.string a, .string b, .int .i64 st, .string c, .int .i64 mi])).run Tryz.prog w' = .ok () w')
      (first
        | with_reducible exact HS.out _ K0.out | with_reducible exact HS.out _ K5.out | with_reducible exact HS.out _ K4.out
        | with_reducible exact HS.out _ K3.out | with_reducible exact HS.out _ K2.out | with_reducible exact HS.out _ K1.out)
      (first
        | (go_at_call 20; (with_reducible refine (cE3.out y4 K4.out).mono ?_); rintro e y5 ⟨rfl, hb⟩; have K5 := Lib.hid (K4.out.trans (hb.mono K4.out.size)); clear hb)
        | (go_at_call 20; (with_reducible refine (cE2.out v3 y3 K3.out F3.out).mono ?_); rintro e y4 ⟨rfl, hb⟩; have K4 := Lib.hid (K3.out.trans (hb.mono K3.out.size)); clear hb)
        | (go_at_call 22; (with_reducible refine (cRP.out _ K2.out).mono ?_); rintro e y3 ⟨⟨v3, rfl, hf⟩, hb⟩; have K3 := Lib.hid (K2.out.trans (hb.mono K2.out.size)); have F3 := Lib.hid hf; clear hf hb)
        | (go_at_call 20; (with_reducible refine (cE1.out v1 y1 K1.out F1.out).mono ?_); rintro e y2 ⟨rfl, hb⟩; have K2 := Lib.hid (K1.out.trans (hb.mono K1.out.size)); clear hb)
        | (go_at_call 21; (with_reducible refine (cRK.out _ K0.out).mono ?_); rintro e y1 ⟨⟨v1, rfl, hf⟩, hb⟩; have K1 := Lib.hid (K0.out.trans (hb.mono K0.out.size)); have F1 := Lib.hid hf.fin; clear hf hb))
    have hx6 := K5.out
    obtain ⟨hb6, hW6⟩ := HZ.out
    have hbwy5 := hb6.trans (hx6.mono hb6.size)
    have hWwy5 := hW6.trans (hx6.mono hW6.size)
    have r5 := blk_stay HR5.out hx6
    have hfw := HFW.out.later hx6
    have hvw := HVT.out.later hx6
    clear HS cRK cRP cE1 cE2 cE3 HVT K0 K1 K2 K3 K4 K5 HR5 HZ HFW hx6 hb6 hW6 HI6 HF6 F1 F3
    obtain ⟨s0, s1, s2, s3, s4, s5, s6⟩ := set7' r5
    have DK := HDK2.out _ _ y5 hbwy5 hfw hvw
    clear HDK2
    go_wp2_with fail
    refine (DK).mono ?_
    rintro e w7 ⟨⟨f7, v7, rfl, hf7, hv7⟩, hx7⟩
    have hbw7 := hbwy5.trans (hx7.mono hbwy5.size)
    have hWw7 := hWwy5.trans (hx7.mono hWwy5.size)
    obtain ⟨ka7, kc7, hke7, hy9⟩ := id hf7
    obtain ⟨va7, vc7, hve7, hy8, hy7, hy6⟩ := id hv7.1
    clear hy9 hy8 hy7 hy6
    subst hke7 hve7
    replace r5 := blk_stay r5 hx7
    have hx7s : Below w7.heap.size w7 (w7.alloc (.cells #[.string a, .string b, .int .i64 st, .string c, .int .i64 mi, .slice ka7 K.length kc7, .slice va7 x1.length vc7] 27)) := (Below.refl _ _).alloc (Nat.le_refl _) _
    have r7 := heap_alloc_new w7 (.cells #[.string a, .string b, .int .i64 st, .string c, .int .i64 mi, .slice ka7 K.length kc7, .slice va7 x1.length vc7] 27)
    go_upto_region 9 with fail
    change Code.wp _ _ _ _ (w7.alloc (.cells #[.string a, .string b, .int .i64 st, .string c, .int .i64 mi, .slice ka7 K.length kc7, .slice va7 x1.length vc7] 27))
    generalize w7.alloc (.cells #[.string a, .string b, .int .i64 st, .string c, .int .i64 mi, .slice ka7 K.length kc7, .slice va7 x1.length vc7] 27) = z7 at *
    generalize w7.heap.size = g7 at r7 ⊢
    replace r5 := blk_stay r5 hx7s
    have hbz7 := hbw7.trans (hx7s.mono hbw7.size)
    have hWz7 := hWw7.trans (hx7s.mono hWw7.size)
    have hfz7 := hf7.later hx7s
    have hvz7 := hv7.later hx7s
    have hfw7 := (hfw.later hx7).later hx7s
    clear DK s0 s1 s2 s3 s4 s5 s6 hfw hvw hx7 hx7s hf7 hv7 hvz7 hbw7 hWw7 hbwy5 hWwy5
    obtain ⟨m0, m1, m2, m3, m4, m5, m6⟩ := HM.out z7 hWz7
    go_wp2_with fail
    refine (HcG.out z7 hbz7).mono ?_
    rintro e w8 ⟨v8, rfl, hB8⟩
    clear m0 m1 m2 m3 m4 m5 m6
    have cSp1 := HcSp.out v8 w8 hB8.sin
    go_wp2_with fail
    refine cSp1.mono ?_
    rintro e w9 ⟨v9, rfl, hB9⟩
    have hx9 := hB8.2.trans (hB9.2.mono hB8.2.size)
    replace r5 := blk_stay r5 hx9
    replace r7 := blk_stay r7 hx9
    have hf5 := hfw7.later hx9
    have hf7 := hfz7.later hx9
    have hb9 := hbz7.trans (hx9.mono hbz7.size)
    generalize Oct.splitAll gs = NS at *
    obtain ⟨n, hn⟩ : ∃ n, n = NS.length := ⟨_, rfl⟩
    have HNN := Lib.hid hn
    obtain ⟨ao, cp, rfl, hx8⟩ := hB9.sin
    clear hx8
    have HS9 := Lib.hid hB9.sin
    rw [← hn] at hnn2 ⊢
    have R5 := Lib.hid r5
    have R7 := Lib.hid r7
    have H5 := Lib.hid hf5
    have H7 := Lib.hid hf7
    have HB9 := Lib.hid hb9
    clear hn hB8 hB9 cSp1 HcG HcSp r5 r7 hf5 hf7 hb9 hx9 hfw7 hfz7 hbz7 hWz7 HM
    go_wp2_with fail
    go_loopw [8] (fun i wr => ∃ k : Nat, k ≤ n ∧ i = .int .i64 k ∧ Below w9.heap.size w9 wr) (fun i _ => n - (intOf i).toNat)
    case atStart => exact ⟨0, by omega, rfl, Below.refl _ _⟩
    case round =>
      obtain ⟨k, hk9, rfl, hbr⟩ := hrel
      obtain ⟨s0, s1, s2, s3, s4, s5, s6⟩ := set7' (blk_stay R5.out hbr)
      by_cases hlt : k < n
      · have hkl : k < NS.length := by have := HNN.out; omega
        obtain ⟨b', o', rfl, hbl, hcell⟩ : ∃ b o, ao = some ⟨b, o, none⟩ ∧ b < w9.heap.size ∧ w9.cell? ⟨b, o + k, none⟩ = some (.string (str NS[k])) := by
          obtain ⟨a', c', hv, h⟩ := HS9.out
          injection hv with h1 h2 h3
          subst h1
          rcases h with h | ⟨b, o, h4, h5, h6⟩
          · exfalso; rw [h] at hkl; cases hkl
          · exact ⟨b, o, h4, h5, h6 k hkl⟩
        have cN := Lib.hid (fun W' (hb : Below wr.heap.size wr W') => cH.out NS[k] (.slice ka5 K.length kc5) (.slice va5 x1.length vc5) W' ((H5.out.later hbr).later hb) (by have := HLN.out _ (List.getElem_mem hkl); omega))
        rw [HT0.out _ (List.getElem_mem hkl)] at cN
        generalize str NS[k] = sk at *
        have HSr : Hid (∀ w', Below wr.heap.size wr w' → (w'.cell? ⟨g5, 0, none⟩ = some (.string a) ∧ w'.cell? ⟨g5, 1, none⟩ = some (.string b) ∧ w'.cell? ⟨g5, 2, none⟩ = some (.int .i64 st) ∧ w'.cell? ⟨g5, 3, none⟩ = some (.string c) ∧ w'.cell? ⟨g5, 4, none⟩ = some (.int .i64 mi) ∧ w'.cell? ⟨g5, 5, none⟩ = some (.slice ka5 K.length kc5) ∧ w'.cell? ⟨g5, 6, none⟩ = some (.slice va5 x1.length vc5) ∧ w'.cell? ⟨b', o' + k, none⟩ = some (.string sk))) := Lib.hid fun w' hb => by
          obtain ⟨s0, s1, s2, s3, s4, s5, s6⟩ := set7' (blk_stay R5.out (hbr.trans (hb.mono hbr.size)))
          exact ⟨s0, s1, s2, s3, s4, s5, s6, ((hbr.trans (hb.mono hbr.size)).cell (p := ⟨b', o' + k, none⟩) hbl).trans hcell⟩
        have K0 : Hid (Below wr.heap.size wr wr.drew) := Lib.hid (Below.refl _ _).drew
        have HBR := Lib.hid hbr
        clear hcell hbr hbl hkl s0 s1 s2 s3 s4 s5 s6
        go_upto_region 13 with fail
        go_region_held3 (fun w' => w'.cell? ⟨g5, 0, none⟩ = some (.string a) ∧ w'.cell? ⟨g5, 1, none⟩ = some (.string b) ∧ w'.cell? ⟨g5, 2, none⟩ = some (.int .i64 st) ∧ w'.cell? ⟨g5, 3, none⟩ = some (.string c) ∧ w'.cell? ⟨g5, 4, none⟩ = some (.int .i64 mi) ∧ w'.cell? ⟨g5, 5, none⟩ = some (.slice ka5 K.length kc5) ∧ w'.cell? ⟨g5, 6, none⟩ = some (.slice va5 x1.length vc5) ∧ w'.cell? ⟨b', o' + k, none⟩ = some (.string sk))
          (first | with_reducible exact HSr.out _ K0.out | with_reducible exact HSr.out _ K1.out)
          (first | (go_at_call 25; (with_reducible refine (cN.out _ K0.out).mono ?_); rintro e y1 ⟨rfl, hb⟩; have K1 := Lib.hid (K0.out.trans (hb.mono K0.out.size)); clear hb))
        all_goals
          go_wp2_with fail
          go_roundw
          case rel => exact ⟨k + 1, by omega, by go_num, HBR.out.trans (K1.out.mono HBR.out.size)⟩
          case measure => simp [intOf]; omega
      · obtain ⟨t0, t1, t2, t3, t4, t5, t6⟩ := set7' (blk_stay R7.out hbr)
        have cE := DE1.out _ _ wr (H7.out.later hbr) (H5.out.later hbr)
        have hb10 := HB9.out.trans (hbr.mono HB9.out.size)
        have r5 := blk_stay R5.out hbr
        have hf10 := H5.out.later hbr
        clear cH HT0 HLN DE1 DE2 DE3 R5 R7 HS9
        go_wp2_with fail
        refine cE.mono ?_
        rintro e w11 ⟨rfl, hx10⟩
        replace hb10 := hb10.trans (hx10.mono hb10.size)
        replace r5 := blk_stay r5 hx10
        replace hf10 := hf10.later hx10
        clear s0 s1 s2 s3 s4 s5 s6 t0 t1 t2 t3 t4 t5 t6 cE hx10
        obtain ⟨s0, s1, s2, s3, s4, s5, s6⟩ := set7' r5
        have k1 := HcH3.out _ (.slice va5 x1.length vc5) w11 hf10
        go_wp2_with fail
        refine k1.mono ?_
        rintro e w12 ⟨rfl, hx11⟩
        replace hb10 := hb10.trans (hx11.mono hb10.size)
        replace r5 := blk_stay r5 hx11
        replace hf10 := hf10.later hx11
        clear s0 s1 s2 s3 s4 s5 s6 hx11 k1
        obtain ⟨s0, s1, s2, s3, s4, s5, s6⟩ := set7' r5
        have k2 := HcH1.out _ (.slice va5 x1.length vc5) w12 hf10
        go_wp2_with fail
        refine k2.mono ?_
        rintro e w13 ⟨rfl, hx12⟩
        replace hb10 := hb10.trans (hx12.mono hb10.size)
        replace r5 := blk_stay r5 hx12
        replace hf10 := hf10.later hx12
        clear s0 s1 s2 s3 s4 s5 s6 hx12 k2
        obtain ⟨s0, s1, s2, s3, s4, s5, s6⟩ := set7' r5
        have k3 := HcH2.out _ (.slice va5 x1.length vc5) w13 hf10
        go_wp2_with fail
        refine k3.mono ?_
        rintro e w14 ⟨rfl, hx13⟩
        go_wp2_with fail
        go_ret
        exact ⟨rfl, hb10.trans (hx13.mono hb10.size)⟩
end Go.Proofs.YtoanelobggledaaGreatDoor

