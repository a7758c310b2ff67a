/- Package rules, the document's side: tags, own conditions, what confirms, by which fields is asked. -/
import Derived.Test.YtoanelobggledaaGreatDoorProg
import Derived.Test.YtoanelobggledaaGreatDoorZM1
import Derived.Test.YtoanelobggledaaGreatDoorZM2
import Derived.Test.YtoanelobggledaaGreatDoorZOctBase
import Derived.Test.YtoanelobggledaaGreatDoorZFd
import Derived.Test.YtoanelobggledaaGreatDoorZCt
import Derived.Test.YtoanelobggledaaGreatDoorZR1
import Derived.Test.YtoanelobggledaaGreatDoorZRlB
import Derived.Test.YtoanelobggledaaGreatDoorZRlH
import Derived.BigQuiet
import Derived.Deep.CutBlock
import Derived.Deep.DeepCutAuto
import Derived.Deep.LoopGhost
import Derived.Deep.QuietTactic
import Derived.Deep.RegionWith
import Derived.Ground.SlbCloneProg
import Derived.IntWalk
import Derived.Laws.AppendOwnNone
import Derived.Laws.Externs
import Derived.Laws.RangeString
import Derived.Lib.AppendStr
import Derived.Lib.AppendZerosOnto
import Derived.Lib.BufferRead
import Derived.Lib.Bytealg
import Derived.Lib.FieldsP
import Derived.Lib.Hide
import Derived.Lib.IndexBytes
import Derived.Lib.IndexMore
import Derived.Lib.ItoaNum
import Derived.Lib.Join
import Derived.Lib.SlTrimSet
import Derived.Lib.SlicesCompact
import Derived.Lib.UnsafeStr
import Derived.LoopTactic
import Derived.Maps.AppendAt
import Derived.Maps.OwnSet
import Derived.Shelf.Bytes.SlClone
import Derived.Shelf.LaysM
import Derived.Shelf.Slices.CompactS
import Derived.Shelf.Slices.In.SortNone
import Derived.Shelf.Small.Bits
import Derived.Shelf.Small.Strs
import Derived.Shelf.Small.Utf8
import Derived.Shelf.Small.Wraps
import Derived.Shelf.Sort.Plain
import Derived.Shelf.Spec.TrailingZeros
import Derived.Shelf.Strconv.Clone
import Derived.Shelf.Strconv.Itoa0
import Derived.Shelf.Strconv.Itoa1
import Derived.Shelf.Strconv.Itoa2
import Derived.Shelf.Strconv.Itoa3
import Derived.Shelf.Strconv.Itoa4
import Derived.Shelf.Strings.AsciiSet
import Derived.Shelf.Strings.Builder1
import Derived.Shelf.Strings.Builder2
import Derived.Shelf.Strings.Count
import Derived.Shelf.Strings.Cut
import Derived.Shelf.Strings.FieldsFuncAny
import Derived.Shelf.Strings.FieldsFuncGrows
import Derived.Shelf.Strings.IndexAny
import Derived.Shelf.Strings.IndexAnyAll
import Derived.Shelf.Strings.LastIndex
import Derived.Shelf.Strings.OnBuilder
import Derived.Shelf.Strings.Prefix
import Derived.Shelf.Strings.Runes
import Derived.Shelf.Strings.Search1
import Derived.Shelf.Strings.Search2
import Derived.Shelf.Strings.Search3
import Derived.Shelf.Strings.Shaped
import Derived.Shelf.Strings.SlTrimAscii
import Derived.Shelf.Strings.Split
import Derived.Shelf.Strings.SplitShaped
import Derived.Shelf.Strings.Trim
import Derived.Shelf.Unicode.CaseConvert
import Derived.Shelf.Unicode.CaseLaid
import Derived.Shelf.Unicode.CaseLookup
import Derived.Shelf.Unicode.CaseTo
import Derived.Shelf.Unicode.DecodeAny
import Derived.Shelf.Unicode.DecodeLast
import Derived.Shelf.Unicode.DecodeSlow
import Derived.Shelf.Unicode.Latin
import Derived.SliceStrings
import Derived.StillTailTactics
import Derived.StringKeys
import Derived.WalkKit
import Derived.WalkLawsBesides
import Derived.WalkSpells
namespace Go.Proofs.YtoanelobggledaaGreatDoor
open Go.RowKit

theorem str_ne {x y : List UInt8} (h : x ≠ y) : ((str x).toList == (str y).toList) = false := by rw [str_toList, str_toList]; exact beq_eq_false_iff_ne.2 h
theorem str_nel {x l : List UInt8} (h : x ≠ l) : ((str x).toList == l) = false := by rw [str_toList]; exact beq_eq_false_iff_ne.2 h
theorem arr_nef {a : ByteArray} {l : List UInt8} (h : a ≠ str l) : (a.toList == l) = false := beq_eq_false_iff_ne.2 (fun e => h (by rw [← str_of a, ← e, Lib.toList_data]))
theorem rbare_w (t : List UInt8) (ht : t.length ≤ 1000000) (w : World) : Calls Tryz.prog 59 #[.string (str t)] w fun e w' => e = .returned (.string (str (Rl.bare t))) ∧ w = w' := by
  have hz : (str t).size = t.length := str_size t
  have h0 := ext_head (str t) t 2 (str_list t)
  have h2 : (str t).extract 2 (str t).size = str (t.drop 2) := by rw [← str_of ((str t).extract 2 (str t).size), ext_tail (str t) t 2 (str_list t)]
  by_cases hl : t.length < 2
  · have HR : Hid (Rl.bare t = t) := Lib.hid (by
      unfold Rl.bare; rw [if_neg]
      intro e
      have := congrArg List.length e
      rw [List.length_take] at this; simp at this; omega)
    rw [HR.out]
    generalize str t = s at *
    have h1 : ¬ (2 : Int) ≤ (s.size : Int) := by omega
    clear h0 h2 HR ht
    go_enter Tryz.func59, Tryz.ntmps59
    go_wp2_with fail
    go_ret
    exact ⟨rfl, rfl⟩
  · have h1 : (2 : Int) ≤ ((str t).size : Int) := by omega
    have h9 : (str t).size ≤ 1000000 := by omega
    by_cases he : t.take 2 = [87, 47]
    · have HR : Hid (Rl.bare t = t.drop 2) := Lib.hid (by unfold Rl.bare; rw [if_pos he])
      rw [HR.out]
      rw [he, show str [87, 47] = ⟨#[87, 47]⟩ from rfl] at h0
      generalize str (t.drop 2) = r at *
      generalize str t = s at *
      clear HR ht hl hz he
      go_enter Tryz.func59, Tryz.ntmps59
      go_wp2_with fail
      go_ret
      exact ⟨rfl, rfl⟩
    · have HR : Hid (Rl.bare t = t) := Lib.hid (by unfold Rl.bare; rw [if_neg he])
      rw [HR.out]
      have hx : ((str (t.take 2)).toList == [87, 47]) = false := str_nel he
      generalize str (t.take 2) = q at *
      generalize str t = s at *
      clear HR ht hl hz he h2
      go_enter Tryz.func59, Tryz.ntmps59
      go_wp2_with fail
      go_ret
      exact ⟨rfl, rfl⟩
theorem one_small {fs : List Fld.F} (h : Mid fs) {n v : List UInt8} (ho : Rl.one fs n = some v) : v.length ≤ 500 := by
  unfold Rl.one at ho
  split at ho
  · rename_i x hx
    obtain rfl := Option.some.inj ho
    exact (h.got n).2 _ (by rw [hx]; simp)
  · cases ho
set_option maxHeartbeats 12800000 in
set_option maxRecDepth 100000 in
theorem rConfirms_w (a b c a' b' c' : ByteArray) (st mi st' mi' : Int) (fv bv fv' bv' : Value) (fs fs' : List Fld.F) (w : World) (hf : FIn w fv fs) (hs : Mid fs) (hf' : FIn w fv' fs') (hs' : Mid fs') :
    Calls Tryz.prog 30 #[mv a b st c mi fv bv, mv a' b' st' c' mi' fv' bv'] w fun e w' => e = .returned (.bool (Rl.confirms fs st' fs')) ∧ Below w.heap.size w w' := by
  obtain ⟨fa, fc, hfv, hx9⟩ := id hf
  clear hx9
  subst hfv
  obtain ⟨fa', fc', hfv', hx9⟩ := id hf'
  clear hx9
  subst hfv'
  have cA := fun W' (hb : Below w.heap.size w W') => rOne_w a b c st mi (.slice fa fs.length fc) bv fs Rl.kETag W' (hf.later hb) hs (by decide)
  have cB := fun W' (hb : Below w.heap.size w W') => rOne_w a' b' c' st' mi' (.slice fa' fs'.length fc') bv' fs' Rl.kETag W' (hf'.later hb) hs' (by decide)
  have cC := fun W' (hb : Below w.heap.size w W') => rOne_w a b c st mi (.slice fa fs.length fc) bv fs Fr.kMod W' (hf.later hb) hs (by decide)
  have cE := fun W' (hb : Below w.heap.size w W') => rOne_w a' b' c' st' mi' (.slice fa' fs'.length fc') bv' fs' Fr.kMod W' (hf'.later hb) hs' (by decide)
  rw [show str Rl.kETag = ⟨#[101, 116, 97, 103]⟩ from rfl] at cA cB
  rw [show str Fr.kMod = ⟨#[108, 97, 115, 116, 45, 109, 111, 100, 105, 102, 105, 101, 100]⟩ from rfl] at cC cE
  have zA := fun v h => one_small hs (n := Rl.kETag) (v := v) h
  have zB := fun v h => one_small hs' (n := Rl.kETag) (v := v) h
  have HR : Hid (Rl.confirms fs st' fs' = if st' ≠ 304 then false else match Rl.one fs' Rl.kETag with
    | some b => (match Rl.one fs Rl.kETag with | some a => Rl.bare a == Rl.bare b | none => false)
    | none => match Rl.one fs' Fr.kMod with
      | none => true
      | some b => decide (Rl.one fs Fr.kMod = some b)) := Lib.hid rfl
  generalize Rl.confirms fs st' fs' = R at *
  generalize Rl.one fs Rl.kETag = A at *
  generalize Rl.one fs' Rl.kETag = B at *
  generalize Rl.one fs Fr.kMod = C at *
  generalize Rl.one fs' Fr.kMod = E at *
  clear hf hs hf' hs'
  generalize fs.length = fl at *
  generalize fs'.length = fl' at *
  obtain ⟨W, hW⟩ : ∃ W, W = (w.alloc (.cells #[.string a, .string b, .int .i64 st, .string c, .int .i64 mi, .slice fa fl fc, bv] 27)).alloc (.cells #[.string a', .string b', .int .i64 st', .string c', .int .i64 mi', .slice fa' fl' fc', bv'] 27) := ⟨_, rfl⟩
  have hbw : Below w.heap.size w W := by rw [hW]; exact ((Below.refl _ w).alloc (Nat.le_refl _) _).alloc (by simp) _
  have q0 : W.heap[w.heap.size]? = some (.cells #[.string a, .string b, .int .i64 st, .string c, .int .i64 mi, .slice fa fl fc, bv] 27 (0, 0)) := by rw [hW]; exact blk_stay (heap_alloc_new w _) ((Below.refl _ _).alloc (Nat.le_refl _) _)
  have q1 : W.heap[w.heap.size + 1]? = some (.cells #[.string a', .string b', .int .i64 st', .string c', .int .i64 mi', .slice fa' fl' fc', bv'] 27 (0, 0)) := by rw [hW]; exact heap_alloc2_new w _ _
  have HM := Lib.hid (fun (W' : World) (hb : Below W.heap.size W W') => set7' (blk_stay q0 hb))
  have HN := Lib.hid (fun (W' : World) (hb : Below W.heap.size W W') => set7' (blk_stay q1 hb))
  have hWW := Below.refl W.heap.size W
  clear q0 q1
  unfold mv mcell at *
  by_cases h304 : st' = 304
  case neg =>
    rw [if_pos h304] at HR
    have hne : (st' != 304) = true := by rw [bne, beq_eq_false_iff_ne.2 h304]; rfl
    obtain ⟨m0, m1, m2, m3, m4, m5, m6⟩ := HM.out W hWW
    obtain ⟨n0, n1, n2, n3, n4, n5, n6⟩ := HN.out W hWW
    go_enter Tryz.func30, Tryz.ntmps30
    go_upto_region 1 with fail
    rw [← hW]
    clear hW
    go_wp2_with fail
    go_ret
    exact ⟨by rw [HR.out]; rfl, hbw⟩
  subst h304
  rw [if_neg (by decide)] at HR
  cases B with
  | some tb =>
    cases A with
    | none =>
      rw [onv_none] at cA
      rw [onv_some] at cB
      obtain ⟨m0, m1, m2, m3, m4, m5, m6⟩ := HM.out W hWW
      obtain ⟨n0, n1, n2, n3, n4, n5, n6⟩ := HN.out W hWW
      go_enter Tryz.func30, Tryz.ntmps30
      go_upto_region 1 with fail
      rw [← hW]
      clear hW
      go_wp2_with fail
      refine (cA W hbw).mono ?_
      rintro e w1 ⟨rfl, hxw1⟩
      have hbw1 := hbw.trans (hxw1.mono hbw.size)
      have hWw1 := hWW.trans (hxw1.mono hWW.size)
      clear hxw1 m0 m1 m2 m3 m4 m5 m6 n0 n1 n2 n3 n4 n5 n6
      obtain ⟨m0, m1, m2, m3, m4, m5, m6⟩ := HM.out w1 hWw1
      obtain ⟨n0, n1, n2, n3, n4, n5, n6⟩ := HN.out w1 hWw1
      go_wp2_with fail
      refine (cB w1 hbw1).mono ?_
      rintro e w2 ⟨rfl, hxw2⟩
      have hbw2 := hbw1.trans (hxw2.mono hbw1.size)
      have hWw2 := hWw1.trans (hxw2.mono hWw1.size)
      clear hxw2 m0 m1 m2 m3 m4 m5 m6 n0 n1 n2 n3 n4 n5 n6
      obtain ⟨m0, m1, m2, m3, m4, m5, m6⟩ := HM.out w2 hWw2
      obtain ⟨n0, n1, n2, n3, n4, n5, n6⟩ := HN.out w2 hWw2
      go_wp2_with fail
      go_ret
      exact ⟨by rw [HR.out]; rfl, hbw2⟩
    | some ta =>
      rw [onv_some] at cA cB
      have kA := fun W' => rbare_w ta (by have := zA ta rfl; omega) W'
      have kB := fun W' => rbare_w tb (by have := zB tb rfl; omega) W'
      by_cases he : Rl.bare ta = Rl.bare tb
      · have HR2 : Hid (R = true) := Lib.hid (by rw [HR.out]; show (Rl.bare ta == Rl.bare tb) = true; rw [he]; exact beq_self_eq_true _)
        rw [he] at kA
        generalize str (Rl.bare tb) = x at *
        clear he
        obtain ⟨m0, m1, m2, m3, m4, m5, m6⟩ := HM.out W hWW
        obtain ⟨n0, n1, n2, n3, n4, n5, n6⟩ := HN.out W hWW
        go_enter Tryz.func30, Tryz.ntmps30
        go_upto_region 1 with fail
        rw [← hW]
        clear hW
        go_wp2_with fail
        refine (cA W hbw).mono ?_
        rintro e w1 ⟨rfl, hxw1⟩
        have hbw1 := hbw.trans (hxw1.mono hbw.size)
        have hWw1 := hWW.trans (hxw1.mono hWW.size)
        clear hxw1 m0 m1 m2 m3 m4 m5 m6 n0 n1 n2 n3 n4 n5 n6
        obtain ⟨m0, m1, m2, m3, m4, m5, m6⟩ := HM.out w1 hWw1
        obtain ⟨n0, n1, n2, n3, n4, n5, n6⟩ := HN.out w1 hWw1
        go_wp2_with fail
        refine (cB w1 hbw1).mono ?_
        rintro e w2 ⟨rfl, hxw2⟩
        have hbw2 := hbw1.trans (hxw2.mono hbw1.size)
        have hWw2 := hWw1.trans (hxw2.mono hWw1.size)
        clear hxw2 m0 m1 m2 m3 m4 m5 m6 n0 n1 n2 n3 n4 n5 n6
        obtain ⟨m0, m1, m2, m3, m4, m5, m6⟩ := HM.out w2 hWw2
        obtain ⟨n0, n1, n2, n3, n4, n5, n6⟩ := HN.out w2 hWw2
        go_wp2_with fail
        refine (kA w2).mono ?_
        rintro e w9 ⟨rfl, rfl⟩
        go_wp2_with fail
        refine (kB w2).mono ?_
        rintro e w9 ⟨rfl, rfl⟩
        go_wp2_with fail
        go_ret
        exact ⟨by rw [HR2.out]; rfl, hbw2⟩
      · have HR2 : Hid (R = false) := Lib.hid (by rw [HR.out]; exact beq_eq_false_iff_ne.2 he)
        have hx := str_ne he
        generalize str (Rl.bare tb) = x at *
        generalize str (Rl.bare ta) = y at *
        clear he
        obtain ⟨m0, m1, m2, m3, m4, m5, m6⟩ := HM.out W hWW
        obtain ⟨n0, n1, n2, n3, n4, n5, n6⟩ := HN.out W hWW
        go_enter Tryz.func30, Tryz.ntmps30
        go_upto_region 1 with fail
        rw [← hW]
        clear hW
        go_wp2_with fail
        refine (cA W hbw).mono ?_
        rintro e w1 ⟨rfl, hxw1⟩
        have hbw1 := hbw.trans (hxw1.mono hbw.size)
        have hWw1 := hWW.trans (hxw1.mono hWW.size)
        clear hxw1 m0 m1 m2 m3 m4 m5 m6 n0 n1 n2 n3 n4 n5 n6
        obtain ⟨m0, m1, m2, m3, m4, m5, m6⟩ := HM.out w1 hWw1
        obtain ⟨n0, n1, n2, n3, n4, n5, n6⟩ := HN.out w1 hWw1
        go_wp2_with fail
        refine (cB w1 hbw1).mono ?_
        rintro e w2 ⟨rfl, hxw2⟩
        have hbw2 := hbw1.trans (hxw2.mono hbw1.size)
        have hWw2 := hWw1.trans (hxw2.mono hWw1.size)
        clear hxw2 m0 m1 m2 m3 m4 m5 m6 n0 n1 n2 n3 n4 n5 n6
        obtain ⟨m0, m1, m2, m3, m4, m5, m6⟩ := HM.out w2 hWw2
        obtain ⟨n0, n1, n2, n3, n4, n5, n6⟩ := HN.out w2 hWw2
        go_wp2_with fail
        refine (kA w2).mono ?_
        rintro e w9 ⟨rfl, rfl⟩
        go_wp2_with fail
        refine (kB w2).mono ?_
        rintro e w9 ⟨rfl, rfl⟩
        go_wp2_with fail
        go_ret
        exact ⟨by rw [HR2.out]; rfl, hbw2⟩
  | none =>
    cases A with
    | none =>
      rw [onv_none] at cA cB
      cases E with
      | none =>
        have HR2 : Hid (R = true) := Lib.hid (by rw [HR.out])
        rw [onv_none] at cE
        cases C with
        | none =>
          rw [onv_none] at cC
          obtain ⟨m0, m1, m2, m3, m4, m5, m6⟩ := HM.out W hWW
          obtain ⟨n0, n1, n2, n3, n4, n5, n6⟩ := HN.out W hWW
          go_enter Tryz.func30, Tryz.ntmps30
          go_upto_region 1 with fail
          rw [← hW]
          clear hW
          go_wp2_with fail
          refine (cA W hbw).mono ?_
          rintro e w1 ⟨rfl, hxw1⟩
          have hbw1 := hbw.trans (hxw1.mono hbw.size)
          have hWw1 := hWW.trans (hxw1.mono hWW.size)
          clear hxw1 m0 m1 m2 m3 m4 m5 m6 n0 n1 n2 n3 n4 n5 n6
          obtain ⟨m0, m1, m2, m3, m4, m5, m6⟩ := HM.out w1 hWw1
          obtain ⟨n0, n1, n2, n3, n4, n5, n6⟩ := HN.out w1 hWw1
          go_wp2_with fail
          refine (cB w1 hbw1).mono ?_
          rintro e w2 ⟨rfl, hxw2⟩
          have hbw2 := hbw1.trans (hxw2.mono hbw1.size)
          have hWw2 := hWw1.trans (hxw2.mono hWw1.size)
          clear hxw2 m0 m1 m2 m3 m4 m5 m6 n0 n1 n2 n3 n4 n5 n6
          obtain ⟨m0, m1, m2, m3, m4, m5, m6⟩ := HM.out w2 hWw2
          obtain ⟨n0, n1, n2, n3, n4, n5, n6⟩ := HN.out w2 hWw2
          go_wp2_with fail
          refine (cC w2 hbw2).mono ?_
          rintro e w3 ⟨rfl, hxw3⟩
          have hbw3 := hbw2.trans (hxw3.mono hbw2.size)
          have hWw3 := hWw2.trans (hxw3.mono hWw2.size)
          clear hxw3 m0 m1 m2 m3 m4 m5 m6 n0 n1 n2 n3 n4 n5 n6
          obtain ⟨m0, m1, m2, m3, m4, m5, m6⟩ := HM.out w3 hWw3
          obtain ⟨n0, n1, n2, n3, n4, n5, n6⟩ := HN.out w3 hWw3
          go_wp2_with fail
          refine (cE w3 hbw3).mono ?_
          rintro e w4 ⟨rfl, hxw4⟩
          have hbw4 := hbw3.trans (hxw4.mono hbw3.size)
          have hWw4 := hWw3.trans (hxw4.mono hWw3.size)
          clear hxw4 m0 m1 m2 m3 m4 m5 m6 n0 n1 n2 n3 n4 n5 n6
          obtain ⟨m0, m1, m2, m3, m4, m5, m6⟩ := HM.out w4 hWw4
          obtain ⟨n0, n1, n2, n3, n4, n5, n6⟩ := HN.out w4 hWw4
          go_wp2_with fail
          go_ret
          exact ⟨by rw [HR2.out]; rfl, hbw4⟩
        | some tc =>
          rw [onv_some] at cC
          generalize str tc = sc at *
          obtain ⟨m0, m1, m2, m3, m4, m5, m6⟩ := HM.out W hWW
          obtain ⟨n0, n1, n2, n3, n4, n5, n6⟩ := HN.out W hWW
          go_enter Tryz.func30, Tryz.ntmps30
          go_upto_region 1 with fail
          rw [← hW]
          clear hW
          go_wp2_with fail
          refine (cA W hbw).mono ?_
          rintro e w1 ⟨rfl, hxw1⟩
          have hbw1 := hbw.trans (hxw1.mono hbw.size)
          have hWw1 := hWW.trans (hxw1.mono hWW.size)
          clear hxw1 m0 m1 m2 m3 m4 m5 m6 n0 n1 n2 n3 n4 n5 n6
          obtain ⟨m0, m1, m2, m3, m4, m5, m6⟩ := HM.out w1 hWw1
          obtain ⟨n0, n1, n2, n3, n4, n5, n6⟩ := HN.out w1 hWw1
          go_wp2_with fail
          refine (cB w1 hbw1).mono ?_
          rintro e w2 ⟨rfl, hxw2⟩
          have hbw2 := hbw1.trans (hxw2.mono hbw1.size)
          have hWw2 := hWw1.trans (hxw2.mono hWw1.size)
          clear hxw2 m0 m1 m2 m3 m4 m5 m6 n0 n1 n2 n3 n4 n5 n6
          obtain ⟨m0, m1, m2, m3, m4, m5, m6⟩ := HM.out w2 hWw2
          obtain ⟨n0, n1, n2, n3, n4, n5, n6⟩ := HN.out w2 hWw2
          go_wp2_with fail
          refine (cC w2 hbw2).mono ?_
          rintro e w3 ⟨rfl, hxw3⟩
          have hbw3 := hbw2.trans (hxw3.mono hbw2.size)
          have hWw3 := hWw2.trans (hxw3.mono hWw2.size)
          clear hxw3 m0 m1 m2 m3 m4 m5 m6 n0 n1 n2 n3 n4 n5 n6
          obtain ⟨m0, m1, m2, m3, m4, m5, m6⟩ := HM.out w3 hWw3
          obtain ⟨n0, n1, n2, n3, n4, n5, n6⟩ := HN.out w3 hWw3
          go_wp2_with fail
          refine (cE w3 hbw3).mono ?_
          rintro e w4 ⟨rfl, hxw4⟩
          have hbw4 := hbw3.trans (hxw4.mono hbw3.size)
          have hWw4 := hWw3.trans (hxw4.mono hWw3.size)
          clear hxw4 m0 m1 m2 m3 m4 m5 m6 n0 n1 n2 n3 n4 n5 n6
          obtain ⟨m0, m1, m2, m3, m4, m5, m6⟩ := HM.out w4 hWw4
          obtain ⟨n0, n1, n2, n3, n4, n5, n6⟩ := HN.out w4 hWw4
          go_wp2_with fail
          go_ret
          exact ⟨by rw [HR2.out]; rfl, hbw4⟩
      | some te =>
        rw [onv_some] at cE
        cases C with
        | none =>
          have HR2 : Hid (R = false) := Lib.hid (by rw [HR.out]; exact decide_eq_false (by simp))
          rw [onv_none] at cC
          generalize str te = se at *
          obtain ⟨m0, m1, m2, m3, m4, m5, m6⟩ := HM.out W hWW
          obtain ⟨n0, n1, n2, n3, n4, n5, n6⟩ := HN.out W hWW
          go_enter Tryz.func30, Tryz.ntmps30
          go_upto_region 1 with fail
          rw [← hW]
          clear hW
          go_wp2_with fail
          refine (cA W hbw).mono ?_
          rintro e w1 ⟨rfl, hxw1⟩
          have hbw1 := hbw.trans (hxw1.mono hbw.size)
          have hWw1 := hWW.trans (hxw1.mono hWW.size)
          clear hxw1 m0 m1 m2 m3 m4 m5 m6 n0 n1 n2 n3 n4 n5 n6
          obtain ⟨m0, m1, m2, m3, m4, m5, m6⟩ := HM.out w1 hWw1
          obtain ⟨n0, n1, n2, n3, n4, n5, n6⟩ := HN.out w1 hWw1
          go_wp2_with fail
          refine (cB w1 hbw1).mono ?_
          rintro e w2 ⟨rfl, hxw2⟩
          have hbw2 := hbw1.trans (hxw2.mono hbw1.size)
          have hWw2 := hWw1.trans (hxw2.mono hWw1.size)
          clear hxw2 m0 m1 m2 m3 m4 m5 m6 n0 n1 n2 n3 n4 n5 n6
          obtain ⟨m0, m1, m2, m3, m4, m5, m6⟩ := HM.out w2 hWw2
          obtain ⟨n0, n1, n2, n3, n4, n5, n6⟩ := HN.out w2 hWw2
          go_wp2_with fail
          refine (cC w2 hbw2).mono ?_
          rintro e w3 ⟨rfl, hxw3⟩
          have hbw3 := hbw2.trans (hxw3.mono hbw2.size)
          have hWw3 := hWw2.trans (hxw3.mono hWw2.size)
          clear hxw3 m0 m1 m2 m3 m4 m5 m6 n0 n1 n2 n3 n4 n5 n6
          obtain ⟨m0, m1, m2, m3, m4, m5, m6⟩ := HM.out w3 hWw3
          obtain ⟨n0, n1, n2, n3, n4, n5, n6⟩ := HN.out w3 hWw3
          go_wp2_with fail
          refine (cE w3 hbw3).mono ?_
          rintro e w4 ⟨rfl, hxw4⟩
          have hbw4 := hbw3.trans (hxw4.mono hbw3.size)
          have hWw4 := hWw3.trans (hxw4.mono hWw3.size)
          clear hxw4 m0 m1 m2 m3 m4 m5 m6 n0 n1 n2 n3 n4 n5 n6
          obtain ⟨m0, m1, m2, m3, m4, m5, m6⟩ := HM.out w4 hWw4
          obtain ⟨n0, n1, n2, n3, n4, n5, n6⟩ := HN.out w4 hWw4
          go_wp2_with fail
          go_ret
          exact ⟨by rw [HR2.out]; rfl, hbw4⟩
        | some tc =>
          rw [onv_some] at cC
          by_cases he : tc = te
          · have HR2 : Hid (R = true) := Lib.hid (by rw [HR.out]; exact decide_eq_true (by rw [he]))
            rw [he] at cC
            generalize str te = se at *
            clear he
            obtain ⟨m0, m1, m2, m3, m4, m5, m6⟩ := HM.out W hWW
            obtain ⟨n0, n1, n2, n3, n4, n5, n6⟩ := HN.out W hWW
            go_enter Tryz.func30, Tryz.ntmps30
            go_upto_region 1 with fail
            rw [← hW]
            clear hW
            go_wp2_with fail
            refine (cA W hbw).mono ?_
            rintro e w1 ⟨rfl, hxw1⟩
            have hbw1 := hbw.trans (hxw1.mono hbw.size)
            have hWw1 := hWW.trans (hxw1.mono hWW.size)
            clear hxw1 m0 m1 m2 m3 m4 m5 m6 n0 n1 n2 n3 n4 n5 n6
            obtain ⟨m0, m1, m2, m3, m4, m5, m6⟩ := HM.out w1 hWw1
            obtain ⟨n0, n1, n2, n3, n4, n5, n6⟩ := HN.out w1 hWw1
            go_wp2_with fail
            refine (cB w1 hbw1).mono ?_
            rintro e w2 ⟨rfl, hxw2⟩
            have hbw2 := hbw1.trans (hxw2.mono hbw1.size)
            have hWw2 := hWw1.trans (hxw2.mono hWw1.size)
            clear hxw2 m0 m1 m2 m3 m4 m5 m6 n0 n1 n2 n3 n4 n5 n6
            obtain ⟨m0, m1, m2, m3, m4, m5, m6⟩ := HM.out w2 hWw2
            obtain ⟨n0, n1, n2, n3, n4, n5, n6⟩ := HN.out w2 hWw2
            go_wp2_with fail
            refine (cC w2 hbw2).mono ?_
            rintro e w3 ⟨rfl, hxw3⟩
            have hbw3 := hbw2.trans (hxw3.mono hbw2.size)
            have hWw3 := hWw2.trans (hxw3.mono hWw2.size)
            clear hxw3 m0 m1 m2 m3 m4 m5 m6 n0 n1 n2 n3 n4 n5 n6
            obtain ⟨m0, m1, m2, m3, m4, m5, m6⟩ := HM.out w3 hWw3
            obtain ⟨n0, n1, n2, n3, n4, n5, n6⟩ := HN.out w3 hWw3
            go_wp2_with fail
            refine (cE w3 hbw3).mono ?_
            rintro e w4 ⟨rfl, hxw4⟩
            have hbw4 := hbw3.trans (hxw4.mono hbw3.size)
            have hWw4 := hWw3.trans (hxw4.mono hWw3.size)
            clear hxw4 m0 m1 m2 m3 m4 m5 m6 n0 n1 n2 n3 n4 n5 n6
            obtain ⟨m0, m1, m2, m3, m4, m5, m6⟩ := HM.out w4 hWw4
            obtain ⟨n0, n1, n2, n3, n4, n5, n6⟩ := HN.out w4 hWw4
            go_wp2_with fail
            go_ret
            exact ⟨by rw [HR2.out]; rfl, hbw4⟩
          · have HR2 : Hid (R = false) := Lib.hid (by rw [HR.out]; exact decide_eq_false (fun h => he (Option.some.inj h)))
            have hx := str_ne he
            generalize str te = se at *
            generalize str tc = sc at *
            clear he
            obtain ⟨m0, m1, m2, m3, m4, m5, m6⟩ := HM.out W hWW
            obtain ⟨n0, n1, n2, n3, n4, n5, n6⟩ := HN.out W hWW
            go_enter Tryz.func30, Tryz.ntmps30
            go_upto_region 1 with fail
            rw [← hW]
            clear hW
            go_wp2_with fail
            refine (cA W hbw).mono ?_
            rintro e w1 ⟨rfl, hxw1⟩
            have hbw1 := hbw.trans (hxw1.mono hbw.size)
            have hWw1 := hWW.trans (hxw1.mono hWW.size)
            clear hxw1 m0 m1 m2 m3 m4 m5 m6 n0 n1 n2 n3 n4 n5 n6
            obtain ⟨m0, m1, m2, m3, m4, m5, m6⟩ := HM.out w1 hWw1
            obtain ⟨n0, n1, n2, n3, n4, n5, n6⟩ := HN.out w1 hWw1
            go_wp2_with fail
            refine (cB w1 hbw1).mono ?_
            rintro e w2 ⟨rfl, hxw2⟩
            have hbw2 := hbw1.trans (hxw2.mono hbw1.size)
            have hWw2 := hWw1.trans (hxw2.mono hWw1.size)
            clear hxw2 m0 m1 m2 m3 m4 m5 m6 n0 n1 n2 n3 n4 n5 n6
            obtain ⟨m0, m1, m2, m3, m4, m5, m6⟩ := HM.out w2 hWw2
            obtain ⟨n0, n1, n2, n3, n4, n5, n6⟩ := HN.out w2 hWw2
            go_wp2_with fail
            refine (cC w2 hbw2).mono ?_
            rintro e w3 ⟨rfl, hxw3⟩
            have hbw3 := hbw2.trans (hxw3.mono hbw2.size)
            have hWw3 := hWw2.trans (hxw3.mono hWw2.size)
            clear hxw3 m0 m1 m2 m3 m4 m5 m6 n0 n1 n2 n3 n4 n5 n6
            obtain ⟨m0, m1, m2, m3, m4, m5, m6⟩ := HM.out w3 hWw3
            obtain ⟨n0, n1, n2, n3, n4, n5, n6⟩ := HN.out w3 hWw3
            go_wp2_with fail
            refine (cE w3 hbw3).mono ?_
            rintro e w4 ⟨rfl, hxw4⟩
            have hbw4 := hbw3.trans (hxw4.mono hbw3.size)
            have hWw4 := hWw3.trans (hxw4.mono hWw3.size)
            clear hxw4 m0 m1 m2 m3 m4 m5 m6 n0 n1 n2 n3 n4 n5 n6
            obtain ⟨m0, m1, m2, m3, m4, m5, m6⟩ := HM.out w4 hWw4
            obtain ⟨n0, n1, n2, n3, n4, n5, n6⟩ := HN.out w4 hWw4
            go_wp2_with fail
            go_ret
            exact ⟨by rw [HR2.out]; rfl, hbw4⟩
    | some ta =>
      rw [onv_some] at cA
      rw [onv_none] at cB
      generalize str ta = sa at *
      cases E with
      | none =>
        have HR2 : Hid (R = true) := Lib.hid (by rw [HR.out])
        rw [onv_none] at cE
        cases C with
        | none =>
          rw [onv_none] at cC
          obtain ⟨m0, m1, m2, m3, m4, m5, m6⟩ := HM.out W hWW
          obtain ⟨n0, n1, n2, n3, n4, n5, n6⟩ := HN.out W hWW
          go_enter Tryz.func30, Tryz.ntmps30
          go_upto_region 1 with fail
          rw [← hW]
          clear hW
          go_wp2_with fail
          refine (cA W hbw).mono ?_
          rintro e w1 ⟨rfl, hxw1⟩
          have hbw1 := hbw.trans (hxw1.mono hbw.size)
          have hWw1 := hWW.trans (hxw1.mono hWW.size)
          clear hxw1 m0 m1 m2 m3 m4 m5 m6 n0 n1 n2 n3 n4 n5 n6
          obtain ⟨m0, m1, m2, m3, m4, m5, m6⟩ := HM.out w1 hWw1
          obtain ⟨n0, n1, n2, n3, n4, n5, n6⟩ := HN.out w1 hWw1
          go_wp2_with fail
          refine (cB w1 hbw1).mono ?_
          rintro e w2 ⟨rfl, hxw2⟩
          have hbw2 := hbw1.trans (hxw2.mono hbw1.size)
          have hWw2 := hWw1.trans (hxw2.mono hWw1.size)
          clear hxw2 m0 m1 m2 m3 m4 m5 m6 n0 n1 n2 n3 n4 n5 n6
          obtain ⟨m0, m1, m2, m3, m4, m5, m6⟩ := HM.out w2 hWw2
          obtain ⟨n0, n1, n2, n3, n4, n5, n6⟩ := HN.out w2 hWw2
          go_wp2_with fail
          refine (cC w2 hbw2).mono ?_
          rintro e w3 ⟨rfl, hxw3⟩
          have hbw3 := hbw2.trans (hxw3.mono hbw2.size)
          have hWw3 := hWw2.trans (hxw3.mono hWw2.size)
          clear hxw3 m0 m1 m2 m3 m4 m5 m6 n0 n1 n2 n3 n4 n5 n6
          obtain ⟨m0, m1, m2, m3, m4, m5, m6⟩ := HM.out w3 hWw3
          obtain ⟨n0, n1, n2, n3, n4, n5, n6⟩ := HN.out w3 hWw3
          go_wp2_with fail
          refine (cE w3 hbw3).mono ?_
          rintro e w4 ⟨rfl, hxw4⟩
          have hbw4 := hbw3.trans (hxw4.mono hbw3.size)
          have hWw4 := hWw3.trans (hxw4.mono hWw3.size)
          clear hxw4 m0 m1 m2 m3 m4 m5 m6 n0 n1 n2 n3 n4 n5 n6
          obtain ⟨m0, m1, m2, m3, m4, m5, m6⟩ := HM.out w4 hWw4
          obtain ⟨n0, n1, n2, n3, n4, n5, n6⟩ := HN.out w4 hWw4
          go_wp2_with fail
          go_ret
          exact ⟨by rw [HR2.out]; rfl, hbw4⟩
        | some tc =>
          rw [onv_some] at cC
          generalize str tc = sc at *
          obtain ⟨m0, m1, m2, m3, m4, m5, m6⟩ := HM.out W hWW
          obtain ⟨n0, n1, n2, n3, n4, n5, n6⟩ := HN.out W hWW
          go_enter Tryz.func30, Tryz.ntmps30
          go_upto_region 1 with fail
          rw [← hW]
          clear hW
          go_wp2_with fail
          refine (cA W hbw).mono ?_
          rintro e w1 ⟨rfl, hxw1⟩
          have hbw1 := hbw.trans (hxw1.mono hbw.size)
          have hWw1 := hWW.trans (hxw1.mono hWW.size)
          clear hxw1 m0 m1 m2 m3 m4 m5 m6 n0 n1 n2 n3 n4 n5 n6
          obtain ⟨m0, m1, m2, m3, m4, m5, m6⟩ := HM.out w1 hWw1
          obtain ⟨n0, n1, n2, n3, n4, n5, n6⟩ := HN.out w1 hWw1
          go_wp2_with fail
          refine (cB w1 hbw1).mono ?_
          rintro e w2 ⟨rfl, hxw2⟩
          have hbw2 := hbw1.trans (hxw2.mono hbw1.size)
          have hWw2 := hWw1.trans (hxw2.mono hWw1.size)
          clear hxw2 m0 m1 m2 m3 m4 m5 m6 n0 n1 n2 n3 n4 n5 n6
          obtain ⟨m0, m1, m2, m3, m4, m5, m6⟩ := HM.out w2 hWw2
          obtain ⟨n0, n1, n2, n3, n4, n5, n6⟩ := HN.out w2 hWw2
          go_wp2_with fail
          refine (cC w2 hbw2).mono ?_
          rintro e w3 ⟨rfl, hxw3⟩
          have hbw3 := hbw2.trans (hxw3.mono hbw2.size)
          have hWw3 := hWw2.trans (hxw3.mono hWw2.size)
          clear hxw3 m0 m1 m2 m3 m4 m5 m6 n0 n1 n2 n3 n4 n5 n6
          obtain ⟨m0, m1, m2, m3, m4, m5, m6⟩ := HM.out w3 hWw3
          obtain ⟨n0, n1, n2, n3, n4, n5, n6⟩ := HN.out w3 hWw3
          go_wp2_with fail
          refine (cE w3 hbw3).mono ?_
          rintro e w4 ⟨rfl, hxw4⟩
          have hbw4 := hbw3.trans (hxw4.mono hbw3.size)
          have hWw4 := hWw3.trans (hxw4.mono hWw3.size)
          clear hxw4 m0 m1 m2 m3 m4 m5 m6 n0 n1 n2 n3 n4 n5 n6
          obtain ⟨m0, m1, m2, m3, m4, m5, m6⟩ := HM.out w4 hWw4
          obtain ⟨n0, n1, n2, n3, n4, n5, n6⟩ := HN.out w4 hWw4
          go_wp2_with fail
          go_ret
          exact ⟨by rw [HR2.out]; rfl, hbw4⟩
      | some te =>
        rw [onv_some] at cE
        cases C with
        | none =>
          have HR2 : Hid (R = false) := Lib.hid (by rw [HR.out]; exact decide_eq_false (by simp))
          rw [onv_none] at cC
          generalize str te = se at *
          obtain ⟨m0, m1, m2, m3, m4, m5, m6⟩ := HM.out W hWW
          obtain ⟨n0, n1, n2, n3, n4, n5, n6⟩ := HN.out W hWW
          go_enter Tryz.func30, Tryz.ntmps30
          go_upto_region 1 with fail
          rw [← hW]
          clear hW
          go_wp2_with fail
          refine (cA W hbw).mono ?_
          rintro e w1 ⟨rfl, hxw1⟩
          have hbw1 := hbw.trans (hxw1.mono hbw.size)
          have hWw1 := hWW.trans (hxw1.mono hWW.size)
          clear hxw1 m0 m1 m2 m3 m4 m5 m6 n0 n1 n2 n3 n4 n5 n6
          obtain ⟨m0, m1, m2, m3, m4, m5, m6⟩ := HM.out w1 hWw1
          obtain ⟨n0, n1, n2, n3, n4, n5, n6⟩ := HN.out w1 hWw1
          go_wp2_with fail
          refine (cB w1 hbw1).mono ?_
          rintro e w2 ⟨rfl, hxw2⟩
          have hbw2 := hbw1.trans (hxw2.mono hbw1.size)
          have hWw2 := hWw1.trans (hxw2.mono hWw1.size)
          clear hxw2 m0 m1 m2 m3 m4 m5 m6 n0 n1 n2 n3 n4 n5 n6
          obtain ⟨m0, m1, m2, m3, m4, m5, m6⟩ := HM.out w2 hWw2
          obtain ⟨n0, n1, n2, n3, n4, n5, n6⟩ := HN.out w2 hWw2
          go_wp2_with fail
          refine (cC w2 hbw2).mono ?_
          rintro e w3 ⟨rfl, hxw3⟩
          have hbw3 := hbw2.trans (hxw3.mono hbw2.size)
          have hWw3 := hWw2.trans (hxw3.mono hWw2.size)
          clear hxw3 m0 m1 m2 m3 m4 m5 m6 n0 n1 n2 n3 n4 n5 n6
          obtain ⟨m0, m1, m2, m3, m4, m5, m6⟩ := HM.out w3 hWw3
          obtain ⟨n0, n1, n2, n3, n4, n5, n6⟩ := HN.out w3 hWw3
          go_wp2_with fail
          refine (cE w3 hbw3).mono ?_
          rintro e w4 ⟨rfl, hxw4⟩
          have hbw4 := hbw3.trans (hxw4.mono hbw3.size)
          have hWw4 := hWw3.trans (hxw4.mono hWw3.size)
          clear hxw4 m0 m1 m2 m3 m4 m5 m6 n0 n1 n2 n3 n4 n5 n6
          obtain ⟨m0, m1, m2, m3, m4, m5, m6⟩ := HM.out w4 hWw4
          obtain ⟨n0, n1, n2, n3, n4, n5, n6⟩ := HN.out w4 hWw4
          go_wp2_with fail
          go_ret
          exact ⟨by rw [HR2.out]; rfl, hbw4⟩
        | some tc =>
          rw [onv_some] at cC
          by_cases he : tc = te
          · have HR2 : Hid (R = true) := Lib.hid (by rw [HR.out]; exact decide_eq_true (by rw [he]))
            rw [he] at cC
            generalize str te = se at *
            clear he
            obtain ⟨m0, m1, m2, m3, m4, m5, m6⟩ := HM.out W hWW
            obtain ⟨n0, n1, n2, n3, n4, n5, n6⟩ := HN.out W hWW
            go_enter Tryz.func30, Tryz.ntmps30
            go_upto_region 1 with fail
            rw [← hW]
            clear hW
            go_wp2_with fail
            refine (cA W hbw).mono ?_
            rintro e w1 ⟨rfl, hxw1⟩
            have hbw1 := hbw.trans (hxw1.mono hbw.size)
            have hWw1 := hWW.trans (hxw1.mono hWW.size)
            clear hxw1 m0 m1 m2 m3 m4 m5 m6 n0 n1 n2 n3 n4 n5 n6
            obtain ⟨m0, m1, m2, m3, m4, m5, m6⟩ := HM.out w1 hWw1
            obtain ⟨n0, n1, n2, n3, n4, n5, n6⟩ := HN.out w1 hWw1
            go_wp2_with fail
            refine (cB w1 hbw1).mono ?_
            rintro e w2 ⟨rfl, hxw2⟩
            have hbw2 := hbw1.trans (hxw2.mono hbw1.size)
            have hWw2 := hWw1.trans (hxw2.mono hWw1.size)
            clear hxw2 m0 m1 m2 m3 m4 m5 m6 n0 n1 n2 n3 n4 n5 n6
            obtain ⟨m0, m1, m2, m3, m4, m5, m6⟩ := HM.out w2 hWw2
            obtain ⟨n0, n1, n2, n3, n4, n5, n6⟩ := HN.out w2 hWw2
            go_wp2_with fail
            refine (cC w2 hbw2).mono ?_
            rintro e w3 ⟨rfl, hxw3⟩
            have hbw3 := hbw2.trans (hxw3.mono hbw2.size)
            have hWw3 := hWw2.trans (hxw3.mono hWw2.size)
            clear hxw3 m0 m1 m2 m3 m4 m5 m6 n0 n1 n2 n3 n4 n5 n6
            obtain ⟨m0, m1, m2, m3, m4, m5, m6⟩ := HM.out w3 hWw3
            obtain ⟨n0, n1, n2, n3, n4, n5, n6⟩ := HN.out w3 hWw3
            go_wp2_with fail
            refine (cE w3 hbw3).mono ?_
            rintro e w4 ⟨rfl, hxw4⟩
            have hbw4 := hbw3.trans (hxw4.mono hbw3.size)
            have hWw4 := hWw3.trans (hxw4.mono hWw3.size)
            clear hxw4 m0 m1 m2 m3 m4 m5 m6 n0 n1 n2 n3 n4 n5 n6
            obtain ⟨m0, m1, m2, m3, m4, m5, m6⟩ := HM.out w4 hWw4
            obtain ⟨n0, n1, n2, n3, n4, n5, n6⟩ := HN.out w4 hWw4
            go_wp2_with fail
            go_ret
            exact ⟨by rw [HR2.out]; rfl, hbw4⟩
          · have HR2 : Hid (R = false) := Lib.hid (by rw [HR.out]; exact decide_eq_false (fun h => he (Option.some.inj h)))
            have hx := str_ne he
            generalize str te = se at *
            generalize str tc = sc at *
            clear he
            obtain ⟨m0, m1, m2, m3, m4, m5, m6⟩ := HM.out W hWW
            obtain ⟨n0, n1, n2, n3, n4, n5, n6⟩ := HN.out W hWW
            go_enter Tryz.func30, Tryz.ntmps30
            go_upto_region 1 with fail
            rw [← hW]
            clear hW
            go_wp2_with fail
            refine (cA W hbw).mono ?_
            rintro e w1 ⟨rfl, hxw1⟩
            have hbw1 := hbw.trans (hxw1.mono hbw.size)
            have hWw1 := hWW.trans (hxw1.mono hWW.size)
            clear hxw1 m0 m1 m2 m3 m4 m5 m6 n0 n1 n2 n3 n4 n5 n6
            obtain ⟨m0, m1, m2, m3, m4, m5, m6⟩ := HM.out w1 hWw1
            obtain ⟨n0, n1, n2, n3, n4, n5, n6⟩ := HN.out w1 hWw1
            go_wp2_with fail
            refine (cB w1 hbw1).mono ?_
            rintro e w2 ⟨rfl, hxw2⟩
            have hbw2 := hbw1.trans (hxw2.mono hbw1.size)
            have hWw2 := hWw1.trans (hxw2.mono hWw1.size)
            clear hxw2 m0 m1 m2 m3 m4 m5 m6 n0 n1 n2 n3 n4 n5 n6
            obtain ⟨m0, m1, m2, m3, m4, m5, m6⟩ := HM.out w2 hWw2
            obtain ⟨n0, n1, n2, n3, n4, n5, n6⟩ := HN.out w2 hWw2
            go_wp2_with fail
            refine (cC w2 hbw2).mono ?_
            rintro e w3 ⟨rfl, hxw3⟩
            have hbw3 := hbw2.trans (hxw3.mono hbw2.size)
            have hWw3 := hWw2.trans (hxw3.mono hWw2.size)
            clear hxw3 m0 m1 m2 m3 m4 m5 m6 n0 n1 n2 n3 n4 n5 n6
            obtain ⟨m0, m1, m2, m3, m4, m5, m6⟩ := HM.out w3 hWw3
            obtain ⟨n0, n1, n2, n3, n4, n5, n6⟩ := HN.out w3 hWw3
            go_wp2_with fail
            refine (cE w3 hbw3).mono ?_
            rintro e w4 ⟨rfl, hxw4⟩
            have hbw4 := hbw3.trans (hxw4.mono hbw3.size)
            have hWw4 := hWw3.trans (hxw4.mono hWw3.size)
            clear hxw4 m0 m1 m2 m3 m4 m5 m6 n0 n1 n2 n3 n4 n5 n6
            obtain ⟨m0, m1, m2, m3, m4, m5, m6⟩ := HM.out w4 hWw4
            obtain ⟨n0, n1, n2, n3, n4, n5, n6⟩ := HN.out w4 hWw4
            go_wp2_with fail
            go_ret
            exact ⟨by rw [HR2.out]; rfl, hbw4⟩
end Go.Proofs.YtoanelobggledaaGreatDoor

