/- Package rules, the document's side: by which fields is asked; what is kept, what is updated. -/
import Derived.Test.YtoanelobggledaaGreatDoorProg
import Derived.Test.YtoanelobggledaaGreatDoorZM1
import Derived.Test.YtoanelobggledaaGreatDoorZM2
import Derived.Test.YtoanelobggledaaGreatDoorZOctBase
import Derived.Test.YtoanelobggledaaGreatDoorZFd
import Derived.Test.YtoanelobggledaaGreatDoorZCt
import Derived.Test.YtoanelobggledaaGreatDoorZR1
import Derived.Test.YtoanelobggledaaGreatDoorZRlB
import Derived.Test.YtoanelobggledaaGreatDoorZRlH
import Derived.Test.YtoanelobggledaaGreatDoorZRl2
import Derived.BigQuiet
import Derived.Deep.CutBlock
import Derived.Deep.DeepCutAuto
import Derived.Deep.LoopGhost
import Derived.Deep.QuietTactic
import Derived.Deep.RegionHeld3
import Derived.Deep.RegionWith
import Derived.Ground.SlbCloneProg
import Derived.IntWalk
import Derived.Laws.AppendOwnNone
import Derived.Laws.Externs
import Derived.Laws.OwnMore
import Derived.Laws.RangeString
import Derived.Lib.AppendStr
import Derived.Lib.AppendZerosOnto
import Derived.Lib.BufferRead
import Derived.Lib.Bytealg
import Derived.Lib.ConvBytes
import Derived.Lib.FieldsP
import Derived.Lib.Hide
import Derived.Lib.IndexBytes
import Derived.Lib.IndexMore
import Derived.Lib.ItoaNum
import Derived.Lib.Join
import Derived.Lib.SlTrimSet
import Derived.Lib.SlicesCompact
import Derived.Lib.UnsafeStr
import Derived.LoopTactic
import Derived.Maps.AppendAt
import Derived.Maps.OwnSet
import Derived.Shelf.Bytes.SlClone
import Derived.Shelf.LaysM
import Derived.Shelf.Slices.CompactS
import Derived.Shelf.Slices.In.SortNone
import Derived.Shelf.Small.Bits
import Derived.Shelf.Small.Strs
import Derived.Shelf.Small.Utf8
import Derived.Shelf.Small.Wraps
import Derived.Shelf.Sort.Plain
import Derived.Shelf.Spec.TrailingZeros
import Derived.Shelf.Strconv.Clone
import Derived.Shelf.Strconv.Itoa0
import Derived.Shelf.Strconv.Itoa1
import Derived.Shelf.Strconv.Itoa2
import Derived.Shelf.Strconv.Itoa3
import Derived.Shelf.Strconv.Itoa4
import Derived.Shelf.Strings.AsciiSet
import Derived.Shelf.Strings.Builder1
import Derived.Shelf.Strings.Builder2
import Derived.Shelf.Strings.Count
import Derived.Shelf.Strings.Cut
import Derived.Shelf.Strings.FieldsFuncAny
import Derived.Shelf.Strings.FieldsFuncGrows
import Derived.Shelf.Strings.IndexAny
import Derived.Shelf.Strings.IndexAnyAll
import Derived.Shelf.Strings.LastIndex
import Derived.Shelf.Strings.OnBuilder
import Derived.Shelf.Strings.Prefix
import Derived.Shelf.Strings.Runes
import Derived.Shelf.Strings.Search1
import Derived.Shelf.Strings.Search2
import Derived.Shelf.Strings.Search3
import Derived.Shelf.Strings.Shaped
import Derived.Shelf.Strings.SlTrimAscii
import Derived.Shelf.Strings.Split
import Derived.Shelf.Strings.SplitShaped
import Derived.Shelf.Strings.Trim
import Derived.Shelf.Unicode.CaseConvert
import Derived.Shelf.Unicode.CaseLaid
import Derived.Shelf.Unicode.CaseLookup
import Derived.Shelf.Unicode.CaseTo
import Derived.Shelf.Unicode.DecodeAny
import Derived.Shelf.Unicode.DecodeLast
import Derived.Shelf.Unicode.DecodeSlow
import Derived.Shelf.Unicode.Latin
import Derived.SliceStrings
import Derived.StillTailTactics
import Derived.StringKeys
import Derived.WalkKit
import Derived.WalkLawsBesides
import Derived.WalkSpells
namespace Go.Proofs.YtoanelobggledaaGreatDoor
open Go.RowKit

theorem mov_none : mov none = .tuple #[.int .i64 0, .bool false] := rfl
theorem mov_some (a : Int) : mov (some a) = .tuple #[.int .i64 a, .bool true] := rfl
set_option maxHeartbeats 6400000 in
set_option maxRecDepth 100000 in
theorem rCondition_w (a b c : ByteArray) (st mi : Int) (fv bv : Value) (fs : List Fld.F) (w : World) (hf : FIn w fv fs) (hs : Mid fs) :
    Calls Tryz.prog 28 #[mv a b st c mi fv bv] w fun e w' => (∃ v, e = .returned v ∧ FIn w' v (Rl.condition D0 fs)) ∧ Below w.heap.size w w' := by
  obtain ⟨fa, fc, hfv, hx9⟩ := id hf
  clear hx9
  subst hfv
  have cT := fun W' (hb : Below w.heap.size w W') => rOne_w a b c st mi (.slice fa fs.length fc) bv fs Rl.kETag W' (hf.later hb) hs (by decide)
  have cV := fun W' (hb : Below w.heap.size w W') => rOne_w a b c st mi (.slice fa fs.length fc) bv fs Fr.kMod W' (hf.later hb) hs (by decide)
  have cD := fun W' (hb : Below w.heap.size w W') => rMoment_w a b c st mi (.slice fa fs.length fc) bv fs Fr.kMod W' (hf.later hb) hs (by decide)
  rw [show str Rl.kETag = ⟨#[101, 116, 97, 103]⟩ from rfl] at cT
  rw [show str Fr.kMod = ⟨#[108, 97, 115, 116, 45, 109, 111, 100, 105, 102, 105, 101, 100]⟩ from rfl] at cV cD
  have HR : Hid (Rl.condition D0 fs = (match Rl.one fs Rl.kETag with | some t => [(Rl.nINM, t)] | none => []) ++ (if (Fr.moment D0 fs Fr.kMod).isSome then [(Rl.nIMS, (Rl.one fs Fr.kMod).getD [])] else [])) := Lib.hid rfl
  have hM : (Fr.moment D0 fs Fr.kMod).isSome = true → ∃ v, Rl.one fs Fr.kMod = some v := fun h => by
    obtain ⟨v, _, _, ho, _⟩ := Rl.moment_of h
    exact ⟨v, ho⟩
  generalize Rl.condition D0 fs = R at *
  generalize Rl.one fs Rl.kETag = A at *
  generalize Rl.one fs Fr.kMod = V at *
  generalize Fr.moment D0 fs Fr.kMod = M at *
  clear hf hs
  generalize fs.length = fl at *
  obtain ⟨W, hW⟩ : ∃ W, W = w.alloc (.cells #[.string a, .string b, .int .i64 st, .string c, .int .i64 mi, .slice fa fl fc, bv] 27) := ⟨_, rfl⟩
  have hbw : Below w.heap.size w W := by rw [hW]; exact (Below.refl _ w).alloc (Nat.le_refl _) _
  have q0 : W.heap[w.heap.size]? = some (.cells #[.string a, .string b, .int .i64 st, .string c, .int .i64 mi, .slice fa fl fc, bv] 27 (0, 0)) := by rw [hW]; exact heap_alloc_new w _
  have HM := Lib.hid (fun (W' : World) (hb : Below W.heap.size W W') => set7' (blk_stay q0 hb))
  have hWW := Below.refl W.heap.size W
  clear q0
  unfold mv mcell at *
  cases A with
  | none =>
    rw [onv_none] at cT
    simp only [List.nil_append] at HR
    cases M with
    | none =>
      rw [mov_none] at cD
      simp only [Option.isSome_none, Bool.false_eq_true, if_false] at HR
      cases V with
      | none =>
        rw [onv_none] at cV
        obtain ⟨m0, m1, m2, m3, m4, m5, m6⟩ := HM.out W hWW
        go_enter Tryz.func28, Tryz.ntmps28
        go_upto_region 1 with fail
        rw [← hW]
        clear hW
        go_wp2_with fail
        refine (cT W hbw).mono ?_
        rintro e w1 ⟨rfl, hxw1⟩
        have hbw1 := hbw.trans (hxw1.mono hbw.size)
        have hWw1 := hWW.trans (hxw1.mono hWW.size)
        clear hxw1 m0 m1 m2 m3 m4 m5 m6
        obtain ⟨m0, m1, m2, m3, m4, m5, m6⟩ := HM.out w1 hWw1
        go_wp2_with fail
        refine (cV w1 hbw1).mono ?_
        rintro e w3 ⟨rfl, hxw3⟩
        have hbw3 := hbw1.trans (hxw3.mono hbw1.size)
        have hWw3 := hWw1.trans (hxw3.mono hWw1.size)
        clear hxw3 m0 m1 m2 m3 m4 m5 m6
        obtain ⟨m0, m1, m2, m3, m4, m5, m6⟩ := HM.out w3 hWw3
        go_wp2_with fail
        refine (cD w3 hbw3).mono ?_
        rintro e w4 ⟨rfl, hxw4⟩
        have hbw4 := hbw3.trans (hxw4.mono hbw3.size)
        have hWw4 := hWw3.trans (hxw4.mono hWw3.size)
        clear hxw4 m0 m1 m2 m3 m4 m5 m6
        obtain ⟨m0, m1, m2, m3, m4, m5, m6⟩ := HM.out w4 hWw4
        have hB4 := FBuf.nil w4
        go_wp2_with fail
        go_ret
        exact ⟨⟨_, rfl, by rw [HR.out]; exact hB4.fin⟩, hbw4⟩
      | some v =>
        rw [onv_some] at cV
        generalize str v = sv at *
        obtain ⟨m0, m1, m2, m3, m4, m5, m6⟩ := HM.out W hWW
        go_enter Tryz.func28, Tryz.ntmps28
        go_upto_region 1 with fail
        rw [← hW]
        clear hW
        go_wp2_with fail
        refine (cT W hbw).mono ?_
        rintro e w1 ⟨rfl, hxw1⟩
        have hbw1 := hbw.trans (hxw1.mono hbw.size)
        have hWw1 := hWW.trans (hxw1.mono hWW.size)
        clear hxw1 m0 m1 m2 m3 m4 m5 m6
        obtain ⟨m0, m1, m2, m3, m4, m5, m6⟩ := HM.out w1 hWw1
        go_wp2_with fail
        refine (cV w1 hbw1).mono ?_
        rintro e w3 ⟨rfl, hxw3⟩
        have hbw3 := hbw1.trans (hxw3.mono hbw1.size)
        have hWw3 := hWw1.trans (hxw3.mono hWw1.size)
        clear hxw3 m0 m1 m2 m3 m4 m5 m6
        obtain ⟨m0, m1, m2, m3, m4, m5, m6⟩ := HM.out w3 hWw3
        go_wp2_with fail
        refine (cD w3 hbw3).mono ?_
        rintro e w4 ⟨rfl, hxw4⟩
        have hbw4 := hbw3.trans (hxw4.mono hbw3.size)
        have hWw4 := hWw3.trans (hxw4.mono hWw3.size)
        clear hxw4 m0 m1 m2 m3 m4 m5 m6
        obtain ⟨m0, m1, m2, m3, m4, m5, m6⟩ := HM.out w4 hWw4
        have hB4 := FBuf.nil w4
        go_wp2_with fail
        go_ret
        exact ⟨⟨_, rfl, by rw [HR.out]; exact hB4.fin⟩, hbw4⟩
    | some at_ =>
      rw [mov_some] at cD
      obtain ⟨v, rfl⟩ := hM rfl
      simp only [Option.isSome_some, if_true, Option.getD_some] at HR
      rw [onv_some] at cV
      obtain ⟨m0, m1, m2, m3, m4, m5, m6⟩ := HM.out W hWW
      go_enter Tryz.func28, Tryz.ntmps28
      go_upto_region 1 with fail
      rw [← hW]
      clear hW
      go_wp2_with fail
      refine (cT W hbw).mono ?_
      rintro e w1 ⟨rfl, hxw1⟩
      have hbw1 := hbw.trans (hxw1.mono hbw.size)
      have hWw1 := hWW.trans (hxw1.mono hWW.size)
      clear hxw1 m0 m1 m2 m3 m4 m5 m6
      obtain ⟨m0, m1, m2, m3, m4, m5, m6⟩ := HM.out w1 hWw1
      go_wp2_with fail
      refine (cV w1 hbw1).mono ?_
      rintro e w3 ⟨rfl, hxw3⟩
      have hbw3 := hbw1.trans (hxw3.mono hbw1.size)
      have hWw3 := hWw1.trans (hxw3.mono hWw1.size)
      clear hxw3 m0 m1 m2 m3 m4 m5 m6
      obtain ⟨m0, m1, m2, m3, m4, m5, m6⟩ := HM.out w3 hWw3
      go_wp2_with fail
      refine (cD w3 hbw3).mono ?_
      rintro e w4 ⟨rfl, hxw4⟩
      have hbw4 := hbw3.trans (hxw4.mono hbw3.size)
      have hWw4 := hWw3.trans (hxw4.mono hWw3.size)
      clear hxw4 m0 m1 m2 m3 m4 m5 m6
      obtain ⟨m0, m1, m2, m3, m4, m5, m6⟩ := HM.out w4 hWw4
      have hB4 := FBuf.nil w4
      have l4 : ([] : List Fld.F).length ≤ 1000000000 := by simp
      go_wp2_with (at_builtin; refine appF2 hB4 (Rl.nIMS, v) l4 rfl _ _ rfl _ _ rfl rfl rfl rfl ?_; intro v5 w5 hAv5 hKv5)
      go_ret
      rw [List.nil_append] at hAv5
      exact ⟨⟨_, rfl, by rw [HR.out]; exact hAv5.fin⟩, hbw4.trans (hAv5.2.mono hbw4.size)⟩
  | some t =>
    rw [onv_some] at cT
    cases M with
    | none =>
      rw [mov_none] at cD
      simp only [Option.isSome_none, Bool.false_eq_true, if_false, List.append_nil] at HR
      cases V with
      | none =>
        rw [onv_none] at cV
        obtain ⟨m0, m1, m2, m3, m4, m5, m6⟩ := HM.out W hWW
        go_enter Tryz.func28, Tryz.ntmps28
        go_upto_region 1 with fail
        rw [← hW]
        clear hW
        go_wp2_with fail
        refine (cT W hbw).mono ?_
        rintro e w1 ⟨rfl, hxw1⟩
        have hbw1 := hbw.trans (hxw1.mono hbw.size)
        have hWw1 := hWW.trans (hxw1.mono hWW.size)
        clear hxw1 m0 m1 m2 m3 m4 m5 m6
        have hE := FBuf.nil w1
        have l0 : ([] : List Fld.F).length ≤ 1000000000 := by decide
        go_wp2_with (at_builtin; refine appF2 hE (Rl.nINM, t) l0 rfl _ _ rfl _ _ rfl rfl rfl rfl ?_; intro v2 w2 hAv2 hKv2; have hbw2 := hbw1.trans (hAv2.2.mono hbw1.size); have hWw2 := hWw1.trans (hAv2.2.mono hWw1.size); obtain ⟨m0, m1, m2, m3, m4, m5, m6⟩ := HM.out w2 hWw2; rw [List.nil_append] at hAv2; clear hKv2)
        clear hE
        refine (cV w2 hbw2).mono ?_
        rintro e w3 ⟨rfl, hxw3⟩
        have hbw3 := hbw2.trans (hxw3.mono hbw2.size)
        have hWw3 := hWw2.trans (hxw3.mono hWw2.size)
        have hx3x := hxw3
        clear hxw3 m0 m1 m2 m3 m4 m5 m6
        obtain ⟨m0, m1, m2, m3, m4, m5, m6⟩ := HM.out w3 hWw3
        go_wp2_with fail
        refine (cD w3 hbw3).mono ?_
        rintro e w4 ⟨rfl, hxw4⟩
        have hbw4 := hbw3.trans (hxw4.mono hbw3.size)
        have hWw4 := hWw3.trans (hxw4.mono hWw3.size)
        have hx4x := hxw4
        clear hxw4 m0 m1 m2 m3 m4 m5 m6
        obtain ⟨m0, m1, m2, m3, m4, m5, m6⟩ := HM.out w4 hWw4
        have hB4 := (hAv2.after hx3x).after hx4x
        go_wp2_with fail
        go_ret
        exact ⟨⟨_, rfl, by rw [HR.out]; exact hB4.fin⟩, hbw4⟩
      | some v =>
        rw [onv_some] at cV
        generalize str v = sv at *
        obtain ⟨m0, m1, m2, m3, m4, m5, m6⟩ := HM.out W hWW
        go_enter Tryz.func28, Tryz.ntmps28
        go_upto_region 1 with fail
        rw [← hW]
        clear hW
        go_wp2_with fail
        refine (cT W hbw).mono ?_
        rintro e w1 ⟨rfl, hxw1⟩
        have hbw1 := hbw.trans (hxw1.mono hbw.size)
        have hWw1 := hWW.trans (hxw1.mono hWW.size)
        clear hxw1 m0 m1 m2 m3 m4 m5 m6
        have hE := FBuf.nil w1
        have l0 : ([] : List Fld.F).length ≤ 1000000000 := by decide
        go_wp2_with (at_builtin; refine appF2 hE (Rl.nINM, t) l0 rfl _ _ rfl _ _ rfl rfl rfl rfl ?_; intro v2 w2 hAv2 hKv2; have hbw2 := hbw1.trans (hAv2.2.mono hbw1.size); have hWw2 := hWw1.trans (hAv2.2.mono hWw1.size); obtain ⟨m0, m1, m2, m3, m4, m5, m6⟩ := HM.out w2 hWw2; rw [List.nil_append] at hAv2; clear hKv2)
        clear hE
        refine (cV w2 hbw2).mono ?_
        rintro e w3 ⟨rfl, hxw3⟩
        have hbw3 := hbw2.trans (hxw3.mono hbw2.size)
        have hWw3 := hWw2.trans (hxw3.mono hWw2.size)
        have hx3x := hxw3
        clear hxw3 m0 m1 m2 m3 m4 m5 m6
        obtain ⟨m0, m1, m2, m3, m4, m5, m6⟩ := HM.out w3 hWw3
        go_wp2_with fail
        refine (cD w3 hbw3).mono ?_
        rintro e w4 ⟨rfl, hxw4⟩
        have hbw4 := hbw3.trans (hxw4.mono hbw3.size)
        have hWw4 := hWw3.trans (hxw4.mono hWw3.size)
        have hx4x := hxw4
        clear hxw4 m0 m1 m2 m3 m4 m5 m6
        obtain ⟨m0, m1, m2, m3, m4, m5, m6⟩ := HM.out w4 hWw4
        have hB4 := (hAv2.after hx3x).after hx4x
        go_wp2_with fail
        go_ret
        exact ⟨⟨_, rfl, by rw [HR.out]; exact hB4.fin⟩, hbw4⟩
    | some at_ =>
      rw [mov_some] at cD
      obtain ⟨v, rfl⟩ := hM rfl
      simp only [Option.isSome_some, if_true, Option.getD_some] at HR
      rw [onv_some] at cV
      obtain ⟨m0, m1, m2, m3, m4, m5, m6⟩ := HM.out W hWW
      go_enter Tryz.func28, Tryz.ntmps28
      go_upto_region 1 with fail
      rw [← hW]
      clear hW
      go_wp2_with fail
      refine (cT W hbw).mono ?_
      rintro e w1 ⟨rfl, hxw1⟩
      have hbw1 := hbw.trans (hxw1.mono hbw.size)
      have hWw1 := hWW.trans (hxw1.mono hWW.size)
      clear hxw1 m0 m1 m2 m3 m4 m5 m6
      have hE := FBuf.nil w1
      have l0 : ([] : List Fld.F).length ≤ 1000000000 := by decide
      go_wp2_with (at_builtin; refine appF2 hE (Rl.nINM, t) l0 rfl _ _ rfl _ _ rfl rfl rfl rfl ?_; intro v2 w2 hAv2 hKv2; have hbw2 := hbw1.trans (hAv2.2.mono hbw1.size); have hWw2 := hWw1.trans (hAv2.2.mono hWw1.size); obtain ⟨m0, m1, m2, m3, m4, m5, m6⟩ := HM.out w2 hWw2; rw [List.nil_append] at hAv2; clear hKv2)
      clear hE
      refine (cV w2 hbw2).mono ?_
      rintro e w3 ⟨rfl, hxw3⟩
      have hbw3 := hbw2.trans (hxw3.mono hbw2.size)
      have hWw3 := hWw2.trans (hxw3.mono hWw2.size)
      have hx3x := hxw3
      clear hxw3 m0 m1 m2 m3 m4 m5 m6
      obtain ⟨m0, m1, m2, m3, m4, m5, m6⟩ := HM.out w3 hWw3
      go_wp2_with fail
      refine (cD w3 hbw3).mono ?_
      rintro e w4 ⟨rfl, hxw4⟩
      have hbw4 := hbw3.trans (hxw4.mono hbw3.size)
      have hWw4 := hWw3.trans (hxw4.mono hWw3.size)
      have hx4x := hxw4
      clear hxw4 m0 m1 m2 m3 m4 m5 m6
      obtain ⟨m0, m1, m2, m3, m4, m5, m6⟩ := HM.out w4 hWw4
      have hB4 := (hAv2.after hx3x).after hx4x
      have l4 : ([(Rl.nINM, t)] : List Fld.F).length ≤ 1000000000 := by simp
      go_wp2_with (at_builtin; refine appF2 hB4 (Rl.nIMS, v) l4 rfl _ _ rfl _ _ rfl rfl rfl rfl ?_; intro v5 w5 hAv5 hKv5)
      go_ret
      exact ⟨⟨_, rfl, by rw [HR.out]; exact hAv5.fin⟩, hbw1.trans (hAv5.2.mono hbw1.size)⟩
end Go.Proofs.YtoanelobggledaaGreatDoor

namespace Go.Proofs.YtoanelobggledaaGreatDoor
open Go.RowKit

theorem cond_len (D : List UInt8 → Option Int) (fs : List Fld.F) : (Rl.condition D fs).length ≤ 1000000000 := by
  unfold Rl.condition
  split <;> split <;> simp
end Go.Proofs.YtoanelobggledaaGreatDoor

