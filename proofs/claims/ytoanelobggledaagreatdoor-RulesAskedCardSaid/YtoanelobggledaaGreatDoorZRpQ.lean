/- Package rules, the program's side: by which fields is asked; which answers confirm. -/
import Derived.Test.YtoanelobggledaaGreatDoorProg
import Derived.Test.YtoanelobggledaaGreatDoorZLi
import Derived.Test.YtoanelobggledaaGreatDoorZM1
import Derived.Test.YtoanelobggledaaGreatDoorZM2
import Derived.Test.YtoanelobggledaaGreatDoorZOctBase
import Derived.Test.YtoanelobggledaaGreatDoorZFd
import Derived.Test.YtoanelobggledaaGreatDoorZCt
import Derived.Test.YtoanelobggledaaGreatDoorZR1
import Derived.Test.YtoanelobggledaaGreatDoorZRpA
import Derived.Test.YtoanelobggledaaGreatDoorZRpB
import Derived.Test.YtoanelobggledaaGreatDoorZRpP
import Derived.BigQuiet
import Derived.Deep.CutBlock
import Derived.Deep.DeepCutAuto
import Derived.Deep.LoopGhost
import Derived.Deep.QuietTactic
import Derived.Deep.RegionHeld3
import Derived.Deep.RegionWith
import Derived.Ground.SlbCloneProg
import Derived.Laws.AppendOwnNone
import Derived.Laws.Externs
import Derived.Laws.RangeString
import Derived.Lib.AppendStr
import Derived.Lib.AppendZerosOnto
import Derived.Lib.BufferRead
import Derived.Lib.Bytealg
import Derived.Lib.FieldsP
import Derived.Lib.Hide
import Derived.Lib.IndexBytes
import Derived.Lib.IndexMore
import Derived.Lib.ItoaNum
import Derived.Lib.Join
import Derived.Lib.OwnBridge
import Derived.Lib.SlTrimSet
import Derived.Lib.SlicesCompact
import Derived.Lib.UnsafeStr
import Derived.LoopTactic
import Derived.Maps.AppendAt
import Derived.Maps.OwnSet
import Derived.OrdersHeld
import Derived.Shelf.Bytes.SlClone
import Derived.Shelf.LaysM
import Derived.Shelf.Slices.CompactS
import Derived.Shelf.Slices.In.SortNone
import Derived.Shelf.Small.Bits
import Derived.Shelf.Small.Strs
import Derived.Shelf.Small.Utf8
import Derived.Shelf.Small.Wraps
import Derived.Shelf.Sort.Plain
import Derived.Shelf.Spec.TrailingZeros
import Derived.Shelf.Strconv.Clone
import Derived.Shelf.Strconv.Itoa0
import Derived.Shelf.Strconv.Itoa1
import Derived.Shelf.Strconv.Itoa2
import Derived.Shelf.Strconv.Itoa3
import Derived.Shelf.Strconv.Itoa4
import Derived.Shelf.Strings.AsciiSet
import Derived.Shelf.Strings.Builder1
import Derived.Shelf.Strings.Builder2
import Derived.Shelf.Strings.Count
import Derived.Shelf.Strings.Cut
import Derived.Shelf.Strings.FieldsFuncAny
import Derived.Shelf.Strings.FieldsFuncGrows
import Derived.Shelf.Strings.IndexAny
import Derived.Shelf.Strings.IndexAnyAll
import Derived.Shelf.Strings.LastIndex
import Derived.Shelf.Strings.OnBuilder
import Derived.Shelf.Strings.Prefix
import Derived.Shelf.Strings.Runes
import Derived.Shelf.Strings.Search1
import Derived.Shelf.Strings.Search2
import Derived.Shelf.Strings.Search3
import Derived.Shelf.Strings.Shaped
import Derived.Shelf.Strings.SlTrimAscii
import Derived.Shelf.Strings.Split
import Derived.Shelf.Strings.SplitShaped
import Derived.Shelf.Strings.Trim
import Derived.Shelf.Unicode.CaseConvert
import Derived.Shelf.Unicode.CaseLaid
import Derived.Shelf.Unicode.CaseLookup
import Derived.Shelf.Unicode.CaseTo
import Derived.Shelf.Unicode.DecodeAny
import Derived.Shelf.Unicode.DecodeLast
import Derived.Shelf.Unicode.DecodeSlow
import Derived.Shelf.Unicode.Latin
import Derived.SliceStrings
import Derived.Sort.OwnSorted
import Derived.StillTailTactics
import Derived.StringKeys
import Derived.WalkKit
import Derived.WalkLawsBesides
import Derived.WalkSpells
namespace Rl
section
variable {D : T → Option Int} {kf rf qf : List Fld.F} {st : Int} {m : T}
theorem cf1 (h : ¬ st = 304) : confirms kf st rf = false := by unfold confirms; rw [if_pos h]
theorem cf2 (t : T) (h : st = 304) (h2 : one rf kETag = some t) : confirms kf st rf = like kf t := by unfold confirms; rw [if_neg (by simp [h]), h2]
theorem cf3 (h : st = 304) (h2 : one rf kETag = none) (h3 : one rf Fr.kMod = none) : confirms kf st rf = true := by unfold confirms; rw [if_neg (by simp [h]), h2, h3]
theorem cf4 (v : T) (h : st = 304) (h2 : one rf kETag = none) (h3 : one rf Fr.kMod = some v) (h4 : one kf Fr.kMod = none) : confirms kf st rf = false := by
  unfold confirms; rw [if_neg (by simp [h]), h2, h3]; simp [h4]
theorem cf5 (v d : T) (h : st = 304) (h2 : one rf kETag = none) (h3 : one rf Fr.kMod = some v) (h4 : one kf Fr.kMod = some d) : confirms kf st rf = (d == v) := by
  unfold confirms; rw [if_neg (by simp [h]), h2, h3, h4]
  by_cases e : d = v
  · simp [e]
  · simp [e]
theorem uc1 (h : ¬ st = 200) : unchanged D m qf st kf = false := by unfold unchanged; rw [if_pos (.inl h)]
theorem uc2 (h : m ≠ mGet) (h2 : m ≠ mHead) : unchanged D m qf st kf = false := by unfold unchanged; rw [if_pos (.inr (fun e => e.elim h h2))]
theorem uc3 (h : st = 200) (h2 : m = mGet ∨ m = mHead) (h3 : has qf kINM = true) : unchanged D m qf st kf = (Oct.splitAll (Fld.get qf kINM)).any fun p => p == [42] || like kf p := by
  unfold unchanged; rw [if_neg (fun e => e.elim (fun e => e h) (fun e => e h2)), if_pos h3]
theorem uc4 (h : st = 200) (h2 : m = mGet ∨ m = mHead) (h3 : has qf kINM = false) (h4 : Fr.moment D qf kIMS = none) : unchanged D m qf st kf = false := by
  unfold unchanged; rw [if_neg (fun e => e.elim (fun e => e h) (fun e => e h2)), if_neg (by rw [h3]; decide), h4]
theorem uc5 (h : st = 200) (h2 : m = mGet ∨ m = mHead) (h3 : has qf kINM = false) (h5 : Fr.moment D kf Fr.kMod = none) : unchanged D m qf st kf = false := by
  unfold unchanged; rw [if_neg (fun e => e.elim (fun e => e h) (fun e => e h2)), if_neg (by rw [h3]; decide), h5]
  cases Fr.moment D qf kIMS <;> rfl
theorem uc6 (x y : Int) (h : st = 200) (h2 : m = mGet ∨ m = mHead) (h3 : has qf kINM = false) (h4 : Fr.moment D qf kIMS = some x) (h5 : Fr.moment D kf Fr.kMod = some y) : unchanged D m qf st kf = decide (y ≤ x) := by
  unfold unchanged; rw [if_neg (fun e => e.elim (fun e => e h) (fun e => e h2)), if_neg (by rw [h3]; decide), h4, h5]
end
end Rl
namespace Go.Proofs.YtoanelobggledaaGreatDoor
open Go.RowKit

set_option maxHeartbeats 3200000 in
set_option maxRecDepth 100000 in
theorem Condition_w (a b c : ByteArray) (st mi : Int) (fv bv : Value) (fs : List Fld.F) (w : World) (hE : Env10 w) (hf : FIn w fv fs) (sb : Sl bv) (hs : Mid fs) :
    Calls Tryz.prog 27 #[mv a b st c mi fv bv] w fun e w' => (∃ v, e = .returned v ∧ FIn w' v (Rl.condition D0 fs)) ∧ Below w.heap.size w w' := by
  cases ho : Rl.one fs Rl.kETag with
  | none =>
    cases hm : Fr.moment D0 fs Fr.kMod with
    | none =>
      obtain ⟨fa, fc, hfv, hx9⟩ := id hf
      obtain ⟨ba, bl, bc, rfl⟩ := sb
      clear hx9
      rw [hfv] at hf ⊢
      clear hfv
      have cM0 := Lib.hid (fun W' (hb : Below w.heap.size w W') => messageOf_w a b c st mi (.slice fa fs.length fc) (.slice ba bl bc) fs W' (hE.later hb) (hf.later hb) ⟨_, _, _, rfl⟩ hs)
      obtain ⟨q, hq⟩ : ∃ q : Mx, q = ⟨a, b, c, st, mi, .slice fa fs.length fc, .slice ba bl bc, mq st fs⟩ := ⟨_, rfl⟩
      have cM := Lib.hid (fun W' (hb : Below w.heap.size w W') => hq ▸ cM0.out W' hb)
      clear cM0
      unfold mv mcell at cM
      have h1 : (xcells q).all (·.oneCell') = true := xcells_one (by rw [hq]; exact ⟨_, _, _, rfl⟩) (by rw [hq]; exact ⟨_, _, _, rfl⟩)
      have hsz : (xcells noX).size = (xcells q).size := rfl
      have hi := x_info q
      have hfq : FIn w q.fv fs := by rw [hq]; exact hf
      have cT := fun W' (hb : Below w.heap.size w W') => tag_w q fs W' (hfq.later hb) hs
      have cm := fun W' (hb : Below w.heap.size w W') => moment2_w q fs Fr.kMod (by decide) W' (hfq.later hb) hs (hE.later hb)
      have cC := fun W' (hb : Below w.heap.size w W') => changed_w q fs W' (hfq.later hb) hs
      rw [ho] at cT
      rw [hm, show str Fr.kMod = ⟨#[108, 97, 115, 116, 45, 109, 111, 100, 105, 102, 105, 101, 100]⟩ from rfl] at cm
      rw [show onp none = .tuple #[.string ⟨#[]⟩, .bool false] from rfl] at cT
      clear cC
      rw [show mo none = .tuple #[.int .i64 0, .bool false] from rfl] at cm
      have HR : Hid (Rl.condition D0 fs = []) := Lib.hid (by unfold Rl.condition; rw [ho, hm]; rfl)
      rw [HR.out]
      clear HR hm ho
      clear hq hf hfq hE
      generalize hfl : fs.length = fl at *
      clear hfl
      unfold xv at *
      generalize xcells q = cq at *
      obtain ⟨W, hW⟩ : ∃ W, W = w.alloc (.cells #[.string a, .string b, .int .i64 st, .string c, .int .i64 mi, .slice fa fl fc, .slice ba bl bc] 27) := ⟨_, rfl⟩
      have hbw : Below w.heap.size w W := by rw [hW]; exact (Below.refl _ w).alloc (Nat.le_refl _) _
      obtain ⟨m0, m1, m2, m3, m4, m5, m6⟩ := cells7_at (show W.heap[w.heap.size]? = some (.cells #[.string a, .string b, .int .i64 st, .string c, .int .i64 mi, .slice fa fl fc, .slice ba bl bc] 27 (0, 0)) by rw [hW]; exact heap_alloc_new w _)
      have cM1 := cM.out W hbw
      unfold mv mcell
      go_enter Tryz.func27, Tryz.ntmps27
      go_upto_region 1 with fail
      rw [← hW]
      clear hW
      go_wp2_with fail
      refine cM1.mono ?_
      rintro e w2 ⟨rfl, hb2⟩
      have hbw2 := hbw.trans (hb2.mono hbw.size)
      clear hb2 cM cM1 m0 m1 m2 m3 m4 m5 m6
      have hz := heap_alloc_new w2 (.cells (xcells noX) 58)
      have hbz := hbw2.alloc (o := (.cells (xcells noX) 58)) hbw2.size
      have hq3 := setRow_heap _ _ _ cq _ _ hz
      have hb3 := Below.row hbz hbw2.size cq
      go_upto_region 2 with (refine wpList_store_row rfl 58 _ _ rfl w2.heap.size cq rfl rfl 58 (xcells noX) hz hi hsz h1 ?_)
      change Code.wp _ _ _ _ ((w2.alloc (.cells (xcells noX) 58)).setRow w2.heap.size cq)
      generalize (w2.alloc (.cells (xcells noX) 58)).setRow w2.heap.size cq = w3 at *
      generalize w2.heap.size = g at *
      clear hz hbz hbw2 w2 hbw W h1 hsz
      go_wp2_with (refine wpList_load_row rfl 58 _ rfl g rfl 58 cq (0, 0) _ hq3 Tryz.underlying58 rfl hi ?_)
      refine (cT w3 hb3).mono ?_
      rintro e w4 ⟨rfl, hx4⟩
      have hb4 := hb3.trans (hx4.mono hb3.size)
      have hq4 := blk_keep hq3 hx4
      clear hx4 hq3
      clear cT
      go_wp2_with (refine wpList_load_row rfl 58 _ rfl g rfl 58 cq (0, 0) _ hq4 Tryz.underlying58 rfl hi ?_)
      refine (cm w4 hb4).mono ?_
      rintro e w6 ⟨rfl, hx6⟩
      have hb6 := hb4.trans (hx6.mono hb4.size)
      have hq6 := blk_keep hq4 hx6
      clear hx6 hq4
      clear cm
      go_wp2_with fail
      go_ret
      exact ⟨⟨_, rfl, ⟨none, 0, rfl, .inl rfl⟩⟩, hb6⟩
    | some x =>
      obtain ⟨fa, fc, hfv, hx9⟩ := id hf
      obtain ⟨ba, bl, bc, rfl⟩ := sb
      clear hx9
      rw [hfv] at hf ⊢
      clear hfv
      have cM0 := Lib.hid (fun W' (hb : Below w.heap.size w W') => messageOf_w a b c st mi (.slice fa fs.length fc) (.slice ba bl bc) fs W' (hE.later hb) (hf.later hb) ⟨_, _, _, rfl⟩ hs)
      obtain ⟨q, hq⟩ : ∃ q : Mx, q = ⟨a, b, c, st, mi, .slice fa fs.length fc, .slice ba bl bc, mq st fs⟩ := ⟨_, rfl⟩
      have cM := Lib.hid (fun W' (hb : Below w.heap.size w W') => hq ▸ cM0.out W' hb)
      clear cM0
      unfold mv mcell at cM
      have h1 : (xcells q).all (·.oneCell') = true := xcells_one (by rw [hq]; exact ⟨_, _, _, rfl⟩) (by rw [hq]; exact ⟨_, _, _, rfl⟩)
      have hsz : (xcells noX).size = (xcells q).size := rfl
      have hi := x_info q
      have hfq : FIn w q.fv fs := by rw [hq]; exact hf
      have cT := fun W' (hb : Below w.heap.size w W') => tag_w q fs W' (hfq.later hb) hs
      have cm := fun W' (hb : Below w.heap.size w W') => moment2_w q fs Fr.kMod (by decide) W' (hfq.later hb) hs (hE.later hb)
      have cC := fun W' (hb : Below w.heap.size w W') => changed_w q fs W' (hfq.later hb) hs
      rw [ho] at cT
      rw [hm, show str Fr.kMod = ⟨#[108, 97, 115, 116, 45, 109, 111, 100, 105, 102, 105, 101, 100]⟩ from rfl] at cm
      rw [show onp none = .tuple #[.string ⟨#[]⟩, .bool false] from rfl] at cT
      obtain ⟨v, x', hgv, hov, hDv, hMv⟩ := Rl.moment_of (D := D0) (fs := fs) (n := Fr.kMod) (by rw [hm]; rfl)
      rw [hov, show onp (some v) = .tuple #[.string (str v), .bool true] from rfl] at cC
      rw [show mo (some x) = .tuple #[.int .i64 x, .bool true] from rfl] at cm
      have HR : Hid (Rl.condition D0 fs = [(Rl.nIMS, v)]) := Lib.hid (by unfold Rl.condition; rw [ho, hm]; simp [hov])
      rw [HR.out]
      clear HR hgv hov hDv hMv hm ho
      clear hq hf hfq hE
      generalize hfl : fs.length = fl at *
      clear hfl
      unfold xv at *
      generalize xcells q = cq at *
      obtain ⟨W, hW⟩ : ∃ W, W = w.alloc (.cells #[.string a, .string b, .int .i64 st, .string c, .int .i64 mi, .slice fa fl fc, .slice ba bl bc] 27) := ⟨_, rfl⟩
      have hbw : Below w.heap.size w W := by rw [hW]; exact (Below.refl _ w).alloc (Nat.le_refl _) _
      obtain ⟨m0, m1, m2, m3, m4, m5, m6⟩ := cells7_at (show W.heap[w.heap.size]? = some (.cells #[.string a, .string b, .int .i64 st, .string c, .int .i64 mi, .slice fa fl fc, .slice ba bl bc] 27 (0, 0)) by rw [hW]; exact heap_alloc_new w _)
      have cM1 := cM.out W hbw
      unfold mv mcell
      go_enter Tryz.func27, Tryz.ntmps27
      go_upto_region 1 with fail
      rw [← hW]
      clear hW
      go_wp2_with fail
      refine cM1.mono ?_
      rintro e w2 ⟨rfl, hb2⟩
      have hbw2 := hbw.trans (hb2.mono hbw.size)
      clear hb2 cM cM1 m0 m1 m2 m3 m4 m5 m6
      have hz := heap_alloc_new w2 (.cells (xcells noX) 58)
      have hbz := hbw2.alloc (o := (.cells (xcells noX) 58)) hbw2.size
      have hq3 := setRow_heap _ _ _ cq _ _ hz
      have hb3 := Below.row hbz hbw2.size cq
      go_upto_region 2 with (refine wpList_store_row rfl 58 _ _ rfl w2.heap.size cq rfl rfl 58 (xcells noX) hz hi hsz h1 ?_)
      change Code.wp _ _ _ _ ((w2.alloc (.cells (xcells noX) 58)).setRow w2.heap.size cq)
      generalize (w2.alloc (.cells (xcells noX) 58)).setRow w2.heap.size cq = w3 at *
      generalize w2.heap.size = g at *
      clear hz hbz hbw2 w2 hbw W h1 hsz
      go_wp2_with (refine wpList_load_row rfl 58 _ rfl g rfl 58 cq (0, 0) _ hq3 Tryz.underlying58 rfl hi ?_)
      refine (cT w3 hb3).mono ?_
      rintro e w4 ⟨rfl, hx4⟩
      have hb4 := hb3.trans (hx4.mono hb3.size)
      have hq4 := blk_keep hq3 hx4
      clear hx4 hq3
      clear cT
      go_wp2_with (refine wpList_load_row rfl 58 _ rfl g rfl 58 cq (0, 0) _ hq4 Tryz.underlying58 rfl hi ?_)
      refine (cm w4 hb4).mono ?_
      rintro e w6 ⟨rfl, hx6⟩
      have hb6 := hb4.trans (hx6.mono hb4.size)
      have hq6 := blk_keep hq4 hx6
      clear hx6 hq4
      clear cm
      go_wp2_with (refine wpList_load_row rfl 58 _ rfl g rfl 58 cq (0, 0) _ hq6 Tryz.underlying58 rfl hi ?_)
      refine (cC w6 hb6).mono ?_
      rintro e w7 ⟨rfl, hx7⟩
      have hb7 := hb6.trans (hx7.mono hb6.size)
      have hq7 := blk_keep hq6 hx7
      clear hx7 hq6
      clear cC
      have hF7 := FBuf.nil w7
      go_wp2_with (at_builtin; refine appF2 hF7 (Rl.nIMS, v) (by simp) rfl _ _ rfl _ _ rfl rfl rfl rfl ?_; intro v8 w8 hB8 hK8; have hb8 := hb7.trans (hB8.2.mono hb7.size); have hq8 := blk_keep hq7 hB8.2; obtain ⟨va8, vc8, hve8, hy8⟩ := id hB8.fin; have HB8 := Lib.hid hB8; clear hy8 hB8 hK8; subst hve8)
      go_ret
      exact ⟨⟨_, rfl, HB8.out.fin⟩, hb8⟩
  | some t =>
    cases hm : Fr.moment D0 fs Fr.kMod with
    | none =>
      obtain ⟨fa, fc, hfv, hx9⟩ := id hf
      obtain ⟨ba, bl, bc, rfl⟩ := sb
      clear hx9
      rw [hfv] at hf ⊢
      clear hfv
      have cM0 := Lib.hid (fun W' (hb : Below w.heap.size w W') => messageOf_w a b c st mi (.slice fa fs.length fc) (.slice ba bl bc) fs W' (hE.later hb) (hf.later hb) ⟨_, _, _, rfl⟩ hs)
      obtain ⟨q, hq⟩ : ∃ q : Mx, q = ⟨a, b, c, st, mi, .slice fa fs.length fc, .slice ba bl bc, mq st fs⟩ := ⟨_, rfl⟩
      have cM := Lib.hid (fun W' (hb : Below w.heap.size w W') => hq ▸ cM0.out W' hb)
      clear cM0
      unfold mv mcell at cM
      have h1 : (xcells q).all (·.oneCell') = true := xcells_one (by rw [hq]; exact ⟨_, _, _, rfl⟩) (by rw [hq]; exact ⟨_, _, _, rfl⟩)
      have hsz : (xcells noX).size = (xcells q).size := rfl
      have hi := x_info q
      have hfq : FIn w q.fv fs := by rw [hq]; exact hf
      have cT := fun W' (hb : Below w.heap.size w W') => tag_w q fs W' (hfq.later hb) hs
      have cm := fun W' (hb : Below w.heap.size w W') => moment2_w q fs Fr.kMod (by decide) W' (hfq.later hb) hs (hE.later hb)
      have cC := fun W' (hb : Below w.heap.size w W') => changed_w q fs W' (hfq.later hb) hs
      rw [ho] at cT
      rw [hm, show str Fr.kMod = ⟨#[108, 97, 115, 116, 45, 109, 111, 100, 105, 102, 105, 101, 100]⟩ from rfl] at cm
      rw [show onp (some t) = .tuple #[.string (str t), .bool true] from rfl] at cT
      clear cC
      rw [show mo none = .tuple #[.int .i64 0, .bool false] from rfl] at cm
      have HR : Hid (Rl.condition D0 fs = [(Rl.nINM, t)]) := Lib.hid (by unfold Rl.condition; rw [ho, hm]; rfl)
      rw [HR.out]
      clear HR hm ho
      clear hq hf hfq hE
      generalize hfl : fs.length = fl at *
      clear hfl
      unfold xv at *
      generalize xcells q = cq at *
      obtain ⟨W, hW⟩ : ∃ W, W = w.alloc (.cells #[.string a, .string b, .int .i64 st, .string c, .int .i64 mi, .slice fa fl fc, .slice ba bl bc] 27) := ⟨_, rfl⟩
      have hbw : Below w.heap.size w W := by rw [hW]; exact (Below.refl _ w).alloc (Nat.le_refl _) _
      obtain ⟨m0, m1, m2, m3, m4, m5, m6⟩ := cells7_at (show W.heap[w.heap.size]? = some (.cells #[.string a, .string b, .int .i64 st, .string c, .int .i64 mi, .slice fa fl fc, .slice ba bl bc] 27 (0, 0)) by rw [hW]; exact heap_alloc_new w _)
      have cM1 := cM.out W hbw
      unfold mv mcell
      go_enter Tryz.func27, Tryz.ntmps27
      go_upto_region 1 with fail
      rw [← hW]
      clear hW
      go_wp2_with fail
      refine cM1.mono ?_
      rintro e w2 ⟨rfl, hb2⟩
      have hbw2 := hbw.trans (hb2.mono hbw.size)
      clear hb2 cM cM1 m0 m1 m2 m3 m4 m5 m6
      have hz := heap_alloc_new w2 (.cells (xcells noX) 58)
      have hbz := hbw2.alloc (o := (.cells (xcells noX) 58)) hbw2.size
      have hq3 := setRow_heap _ _ _ cq _ _ hz
      have hb3 := Below.row hbz hbw2.size cq
      go_upto_region 2 with (refine wpList_store_row rfl 58 _ _ rfl w2.heap.size cq rfl rfl 58 (xcells noX) hz hi hsz h1 ?_)
      change Code.wp _ _ _ _ ((w2.alloc (.cells (xcells noX) 58)).setRow w2.heap.size cq)
      generalize (w2.alloc (.cells (xcells noX) 58)).setRow w2.heap.size cq = w3 at *
      generalize w2.heap.size = g at *
      clear hz hbz hbw2 w2 hbw W h1 hsz
      go_wp2_with (refine wpList_load_row rfl 58 _ rfl g rfl 58 cq (0, 0) _ hq3 Tryz.underlying58 rfl hi ?_)
      refine (cT w3 hb3).mono ?_
      rintro e w4 ⟨rfl, hx4⟩
      have hb4 := hb3.trans (hx4.mono hb3.size)
      have hq4 := blk_keep hq3 hx4
      clear hx4 hq3
      clear cT
      have hF4 := FBuf.nil w4
      go_wp2_with (first | refine wpList_load_row rfl 58 _ rfl g rfl 58 cq (0, 0) _ hq5 Tryz.underlying58 rfl hi ?_ | (at_builtin; refine appF2 hF4 (Rl.nINM, t) (by simp) rfl _ _ rfl _ _ rfl rfl rfl rfl ?_; intro v5 w5 hB5 hK5; have hb5 := hb4.trans (hB5.2.mono hb4.size); have hq5 := blk_keep hq4 hB5.2; obtain ⟨va5, vc5, hve5, hy5⟩ := id hB5.fin; have HB5 := Lib.hid hB5; clear hy5 hB5 hK5; subst hve5))
      refine (cm w5 hb5).mono ?_
      rintro e w6 ⟨rfl, hx6⟩
      have hb6 := hb5.trans (hx6.mono hb5.size)
      have hq6 := blk_keep hq5 hx6
      have HX6 := Lib.hid hx6
      clear hx6 hq5
      clear cm
      go_wp2_with fail
      go_ret
      exact ⟨⟨_, rfl, (HB5.out.after HX6.out).fin⟩, hb6⟩
    | some x =>
      obtain ⟨fa, fc, hfv, hx9⟩ := id hf
      obtain ⟨ba, bl, bc, rfl⟩ := sb
      clear hx9
      rw [hfv] at hf ⊢
      clear hfv
      have cM0 := Lib.hid (fun W' (hb : Below w.heap.size w W') => messageOf_w a b c st mi (.slice fa fs.length fc) (.slice ba bl bc) fs W' (hE.later hb) (hf.later hb) ⟨_, _, _, rfl⟩ hs)
      obtain ⟨q, hq⟩ : ∃ q : Mx, q = ⟨a, b, c, st, mi, .slice fa fs.length fc, .slice ba bl bc, mq st fs⟩ := ⟨_, rfl⟩
      have cM := Lib.hid (fun W' (hb : Below w.heap.size w W') => hq ▸ cM0.out W' hb)
      clear cM0
      unfold mv mcell at cM
      have h1 : (xcells q).all (·.oneCell') = true := xcells_one (by rw [hq]; exact ⟨_, _, _, rfl⟩) (by rw [hq]; exact ⟨_, _, _, rfl⟩)
      have hsz : (xcells noX).size = (xcells q).size := rfl
      have hi := x_info q
      have hfq : FIn w q.fv fs := by rw [hq]; exact hf
      have cT := fun W' (hb : Below w.heap.size w W') => tag_w q fs W' (hfq.later hb) hs
      have cm := fun W' (hb : Below w.heap.size w W') => moment2_w q fs Fr.kMod (by decide) W' (hfq.later hb) hs (hE.later hb)
      have cC := fun W' (hb : Below w.heap.size w W') => changed_w q fs W' (hfq.later hb) hs
      rw [ho] at cT
      rw [hm, show str Fr.kMod = ⟨#[108, 97, 115, 116, 45, 109, 111, 100, 105, 102, 105, 101, 100]⟩ from rfl] at cm
      rw [show onp (some t) = .tuple #[.string (str t), .bool true] from rfl] at cT
      obtain ⟨v, x', hgv, hov, hDv, hMv⟩ := Rl.moment_of (D := D0) (fs := fs) (n := Fr.kMod) (by rw [hm]; rfl)
      rw [hov, show onp (some v) = .tuple #[.string (str v), .bool true] from rfl] at cC
      rw [show mo (some x) = .tuple #[.int .i64 x, .bool true] from rfl] at cm
      have HR : Hid (Rl.condition D0 fs = [(Rl.nINM, t), (Rl.nIMS, v)]) := Lib.hid (by unfold Rl.condition; rw [ho, hm]; simp [hov])
      rw [HR.out]
      clear HR hgv hov hDv hMv hm ho
      clear hq hf hfq hE
      generalize hfl : fs.length = fl at *
      clear hfl
      unfold xv at *
      generalize xcells q = cq at *
      obtain ⟨W, hW⟩ : ∃ W, W = w.alloc (.cells #[.string a, .string b, .int .i64 st, .string c, .int .i64 mi, .slice fa fl fc, .slice ba bl bc] 27) := ⟨_, rfl⟩
      have hbw : Below w.heap.size w W := by rw [hW]; exact (Below.refl _ w).alloc (Nat.le_refl _) _
      obtain ⟨m0, m1, m2, m3, m4, m5, m6⟩ := cells7_at (show W.heap[w.heap.size]? = some (.cells #[.string a, .string b, .int .i64 st, .string c, .int .i64 mi, .slice fa fl fc, .slice ba bl bc] 27 (0, 0)) by rw [hW]; exact heap_alloc_new w _)
      have cM1 := cM.out W hbw
      unfold mv mcell
      go_enter Tryz.func27, Tryz.ntmps27
      go_upto_region 1 with fail
      rw [← hW]
      clear hW
      go_wp2_with fail
      refine cM1.mono ?_
      rintro e w2 ⟨rfl, hb2⟩
      have hbw2 := hbw.trans (hb2.mono hbw.size)
      clear hb2 cM cM1 m0 m1 m2 m3 m4 m5 m6
      have hz := heap_alloc_new w2 (.cells (xcells noX) 58)
      have hbz := hbw2.alloc (o := (.cells (xcells noX) 58)) hbw2.size
      have hq3 := setRow_heap _ _ _ cq _ _ hz
      have hb3 := Below.row hbz hbw2.size cq
      go_upto_region 2 with (refine wpList_store_row rfl 58 _ _ rfl w2.heap.size cq rfl rfl 58 (xcells noX) hz hi hsz h1 ?_)
      change Code.wp _ _ _ _ ((w2.alloc (.cells (xcells noX) 58)).setRow w2.heap.size cq)
      generalize (w2.alloc (.cells (xcells noX) 58)).setRow w2.heap.size cq = w3 at *
      generalize w2.heap.size = g at *
      clear hz hbz hbw2 w2 hbw W h1 hsz
      go_wp2_with (refine wpList_load_row rfl 58 _ rfl g rfl 58 cq (0, 0) _ hq3 Tryz.underlying58 rfl hi ?_)
      refine (cT w3 hb3).mono ?_
      rintro e w4 ⟨rfl, hx4⟩
      have hb4 := hb3.trans (hx4.mono hb3.size)
      have hq4 := blk_keep hq3 hx4
      clear hx4 hq3
      clear cT
      have hF4 := FBuf.nil w4
      go_wp2_with (first | refine wpList_load_row rfl 58 _ rfl g rfl 58 cq (0, 0) _ hq5 Tryz.underlying58 rfl hi ?_ | (at_builtin; refine appF2 hF4 (Rl.nINM, t) (by simp) rfl _ _ rfl _ _ rfl rfl rfl rfl ?_; intro v5 w5 hB5 hK5; have hb5 := hb4.trans (hB5.2.mono hb4.size); have hq5 := blk_keep hq4 hB5.2; obtain ⟨va5, vc5, hve5, hy5⟩ := id hB5.fin; have HB5 := Lib.hid hB5; clear hy5 hB5 hK5; subst hve5))
      refine (cm w5 hb5).mono ?_
      rintro e w6 ⟨rfl, hx6⟩
      have hb6 := hb5.trans (hx6.mono hb5.size)
      have hq6 := blk_keep hq5 hx6
      have HX6 := Lib.hid hx6
      clear hx6 hq5
      clear cm
      go_wp2_with (refine wpList_load_row rfl 58 _ rfl g rfl 58 cq (0, 0) _ hq6 Tryz.underlying58 rfl hi ?_)
      refine (cC w6 hb6).mono ?_
      rintro e w7 ⟨rfl, hx7⟩
      have hb7 := hb6.trans (hx7.mono hb6.size)
      have hq7 := blk_keep hq6 hx7
      have HX7 := Lib.hid hx7
      clear hx7 hq6
      clear cC
      have hF7 := (HB5.out.after HX6.out).after HX7.out
      go_wp2_with (at_builtin; refine appF2 hF7 (Rl.nIMS, v) (by simp) rfl _ _ rfl _ _ rfl rfl rfl rfl ?_; intro v8 w8 hB8 hK8; have hb8 := hb4.trans (hB8.2.mono hb4.size); obtain ⟨va8, vc8, hve8, hy8⟩ := id hB8.fin; have HB8 := Lib.hid hB8; clear hy8 hB8 hK8; subst hve8)
      go_ret
      exact ⟨⟨_, rfl, HB8.out.fin⟩, hb8⟩
set_option maxHeartbeats 6400000 in
set_option maxRecDepth 100000 in
theorem Confirms_w (a b c a' b' c' : ByteArray) (st mi st' mi' : Int) (fv bv fv' bv' : Value) (fs fs' : List Fld.F) (w : World) (hE : Env10 w) (hf : FIn w fv fs) (sb : Sl bv) (hs : Mid fs) (hf' : FIn w fv' fs') (sb' : Sl bv') (hs' : Mid fs') :
    Calls Tryz.prog 29 #[mv a b st c mi fv bv, mv a' b' st' c' mi' fv' bv'] w fun e w' => e = .returned (.bool (Rl.confirms fs st' fs')) ∧ Below w.heap.size w w' := by
  obtain ⟨fa, fc, hfv, hx9⟩ := id hf
  obtain ⟨ba, bl, bc, rfl⟩ := sb
  obtain ⟨fa', fc', hfv', hx8⟩ := id hf'
  obtain ⟨ba', bl', bc', rfl⟩ := sb'
  clear hx9 hx8
  rw [hfv] at hf ⊢
  rw [hfv'] at hf' ⊢
  clear hfv hfv'
  have cQ0 := Lib.hid (fun W' (hb : Below w.heap.size w W') => messageOf_w a b c st mi (.slice fa fs.length fc) (.slice ba bl bc) fs W' (hE.later hb) (hf.later hb) ⟨_, _, _, rfl⟩ hs)
  have cR0 := Lib.hid (fun W' (hb : Below w.heap.size w W') => messageOf_w a' b' c' st' mi' (.slice fa' fs'.length fc') (.slice ba' bl' bc') fs' W' (hE.later hb) (hf'.later hb) ⟨_, _, _, rfl⟩ hs')
  obtain ⟨q, hq⟩ : ∃ q : Mx, q = ⟨a, b, c, st, mi, .slice fa fs.length fc, .slice ba bl bc, mq st fs⟩ := ⟨_, rfl⟩
  obtain ⟨r, hr⟩ : ∃ r : Mx, r = ⟨a', b', c', st', mi', .slice fa' fs'.length fc', .slice ba' bl' bc', mq st' fs'⟩ := ⟨_, rfl⟩
  have cQ := Lib.hid (fun W' (hb : Below w.heap.size w W') => hq ▸ cQ0.out W' hb)
  have cR := Lib.hid (fun W' (hb : Below w.heap.size w W') => hr ▸ cR0.out W' hb)
  clear cQ0 cR0
  unfold mv mcell at cQ cR
  have h1 : (xcells q).all (·.oneCell') = true := xcells_one (by rw [hq]; exact ⟨_, _, _, rfl⟩) (by rw [hq]; exact ⟨_, _, _, rfl⟩)
  have h2 : (xcells r).all (·.oneCell') = true := xcells_one (by rw [hr]; exact ⟨_, _, _, rfl⟩) (by rw [hr]; exact ⟨_, _, _, rfl⟩)
  have hfq : FIn w q.fv fs := by rw [hq]; exact hf
  have hfr : FIn w r.fv fs' := by rw [hr]; exact hf'
  have HR2 : Hid ((xcells r)[2]? = some (.int .i64 st')) := Lib.hid (by rw [hr]; rfl)
  have cT := fun W' (hb : Below w.heap.size w W') => tag_w r fs' W' (hfr.later hb) hs'
  have cG := Lib.hid (fun t W' (hb : Below w.heap.size w W') => tagged_w q fs t W' (hfq.later hb) hs)
  have cC := Lib.hid (fun W' (hb : Below w.heap.size w W') => changed_w r fs' W' (hfr.later hb) hs')
  have cD := Lib.hid (fun W' (hb : Below w.heap.size w W') => changed_w q fs W' (hfq.later hb) hs)
  have E1 := Lib.hid (Rl.cf1 (kf := fs) (st := st') (rf := fs'))
  have E2 := Lib.hid (Rl.cf2 (kf := fs) (st := st') (rf := fs'))
  have E3 := Lib.hid (Rl.cf3 (kf := fs) (st := st') (rf := fs'))
  have E4 := Lib.hid (Rl.cf4 (kf := fs) (st := st') (rf := fs'))
  have E5 := Lib.hid (Rl.cf5 (kf := fs) (st := st') (rf := fs'))
  generalize Rl.confirms fs st' fs' = RES at *
  clear hq hr hf hf'
  generalize hfl : fs.length = fl at *
  generalize hfl' : fs'.length = fl' at *
  clear hfl hfl'
  obtain ⟨W, hW⟩ : ∃ W, W = (w.alloc (.cells #[.string a, .string b, .int .i64 st, .string c, .int .i64 mi, .slice fa fl fc, .slice ba bl bc] 27)).alloc (.cells #[.string a', .string b', .int .i64 st', .string c', .int .i64 mi', .slice fa' fl' fc', .slice ba' bl' bc'] 27) := ⟨_, rfl⟩
  have hbw : Below w.heap.size w W := by rw [hW]; exact ((Below.refl _ w).alloc (Nat.le_refl _) _).alloc (by simp) _
  have h3 := pair_at w (.cells #[.string a, .string b, .int .i64 st, .string c, .int .i64 mi, .slice fa fl fc, .slice ba bl bc] 27) (.cells #[.string a', .string b', .int .i64 st', .string c', .int .i64 mi', .slice fa' fl' fc', .slice ba' bl' bc'] 27)
  rw [← hW] at h3
  have hO : OwnP w W w.heap.size (w.heap.size + 1) #[.string a, .string b, .int .i64 st, .string c, .int .i64 mi, .slice fa fl fc, .slice ba bl bc] #[.string a', .string b', .int .i64 st', .string c', .int .i64 mi', .slice fa' fl' fc', .slice ba' bl' bc'] := ⟨h3.1, h3.2, hbw⟩
  clear h3 hbw
  unfold mv mcell
  go_enter Tryz.func29, Tryz.ntmps29
  go_upto_region 1 with fail
  rw [← hW]
  clear hW
  generalize w.heap.size + 1 = gB at *
  obtain ⟨gA, hgA⟩ : ∃ gA, gA = w.heap.size := ⟨_, rfl⟩
  rw [← hgA] at hO ⊢
  have HGA := Lib.hid hgA
  clear hgA
  go_cut [5, 6] (fun u5 u6 wx => ∃ w3 g5 g6, w3 = wx ∧ u5 = .pointer (some ⟨g5, 0, none⟩) ∧ u6 = .pointer (some ⟨g6, 0, none⟩) ∧ XAt w3 g5 q ∧ XAt w3 g6 r ∧ g5 ≠ g6 ∧ Below w.heap.size w w3)
  case first =>
    have OV0 := hO.later ((Below.refl _ W).drew)
    refine wp_region_noPanic ?_
    refine wp_region_held (S := fun W' => OwnP w W' gA gB #[.string a, .string b, .int .i64 st, .string c, .int .i64 mi, .slice fa fl fc, .slice ba bl bc] #[.string a', .string b', .int .i64 st', .string c', .int .i64 mi', .slice fa' fl' fc', .slice ba' bl' bc']) (by kernel_rfl) ?_
    change wpAnyH _ _ _ _ _ _ _ _ W.drew
    generalize W.drew = V0 at *
    clear hO W
    refine held_of_takes (fuel := 6) (by kernel_rfl) (fun _ _ _ _ _ h => h) OV0 [0, 2] _ _ (by kernel_rfl) ?_
    refine Takes.val (.agg #[.string a, .string b, .int .i64 st, .string c, .int .i64 mi, .slice fa fl fc, .slice ba bl bc]) rfl rfl (fun W' h => exec_row rfl gA rfl 27 _ (0, 0) _ h.one Tryz.underlying27 rfl (by kernel_rfl)) ?_
    refine Takes.val (.agg #[.string a', .string b', .int .i64 st', .string c', .int .i64 mi', .slice fa' fl' fc', .slice ba' bl' bc']) rfl rfl (fun W' h => exec_row rfl gB rfl 27 _ (0, 0) _ h.two Tryz.underlying27 rfl (by kernel_rfl)) ?_
    refine wpAnyH_all (rs := [1, 4, 5]) (by kernel_rfl) (by simp) (fun i hi => ?_)
    simp only [List.mem_cons, List.not_mem_nil, or_false] at hi
    rcases hi with rfl | rfl | rfl
    refine wpOp_into (f := 38) (args := #[.agg #[.string a, .string b, .int .i64 st, .string c, .int .i64 mi, .slice fa fl fc, .slice ba bl bc]]) rfl rfl (by kernel_rfl) ((cQ.out _ OV0.below).mono ?_)
    rintro e V1 ⟨rfl, hbV1⟩
    have OV1 := OV0.later hbV1
    refine ⟨_, rfl, OV1, ?_⟩
    refine wpAnyH_all (rs := [3, 4, 5]) (by kernel_rfl) (by simp) (fun i hi => ?_)
    simp only [List.mem_cons, List.not_mem_nil, or_false] at hi
    rcases hi with rfl | rfl | rfl
    refine wpOp_into (f := 38) (args := #[.agg #[.string a', .string b', .int .i64 st', .string c', .int .i64 mi', .slice fa' fl' fc', .slice ba' bl' bc']]) rfl rfl (by kernel_rfl) ((cR.out _ OV1.below).mono ?_)
    rintro e V2 ⟨rfl, hbV2⟩
    have OV2 := OV1.later hbV2
    refine ⟨_, rfl, OV2, ?_⟩
    refine wpAnyH_all (rs := [4, 5]) (by kernel_rfl) (by simp) (fun i hi => ?_)
    simp only [List.mem_cons, List.not_mem_nil, or_false] at hi
    rcases hi with rfl | rfl
    have hbV3 : Below V2.heap.size V2 (V2.alloc (.cells (xcells noX) 58)) := (Below.refl _ _).alloc (Nat.le_refl _) _
    have OV3 := OV2.later hbV3
    have R5V3 : XAt (V2.alloc (.cells (xcells noX) 58)) V2.heap.size noX := XAt.new V2 noX
    have p5 : w.heap.size ≤ V2.heap.size := OV2.below.size
    have n5 := lt_of_block OV2.one
    have m5 := lt_of_block OV2.two
    refine wpOp_make (v := .pointer (some ⟨V2.heap.size, 0, none⟩)) (w' := V2.alloc (.cells (xcells noX) 58)) rfl rfl (by kernel_rfl) ⟨OV3, ?_⟩
    generalize V2.heap.size = g5 at *
    generalize V2.alloc (.cells (xcells noX) 58) = V3 at *
    refine wpAnyH_all (rs := [5]) (by kernel_rfl) (by simp) (fun i hi => ?_)
    obtain rfl := List.mem_singleton.1 hi
    have hbV4 : Below V3.heap.size V3 (V3.alloc (.cells (xcells noX) 58)) := (Below.refl _ _).alloc (Nat.le_refl _) _
    have OV4 := OV3.later hbV4
    have R6V4 : XAt (V3.alloc (.cells (xcells noX) 58)) V3.heap.size noX := XAt.new V3 noX
    have p6 : w.heap.size ≤ V3.heap.size := OV3.below.size
    have n6 := lt_of_block OV3.one
    have m6 := lt_of_block OV3.two
    have ne : g5 < V3.heap.size := R5V3.lt
    have R5V4 := R5V3.later hbV4
    refine wpOp_make (v := .pointer (some ⟨V3.heap.size, 0, none⟩)) (w' := V3.alloc (.cells (xcells noX) 58)) rfl rfl (by kernel_rfl) ⟨OV4, ?_⟩
    generalize V3.heap.size = g6 at *
    generalize V3.alloc (.cells (xcells noX) 58) = V4 at *
    have OL := OV4
    have R5L := R5V4
    have R6L := R6V4
    generalize V4 = VL at *
    rotate_left
    have hbV5 : Below V2.heap.size V2 (V2.alloc (.cells (xcells noX) 58)) := (Below.refl _ _).alloc (Nat.le_refl _) _
    have OV5 := OV2.later hbV5
    have R6V5 : XAt (V2.alloc (.cells (xcells noX) 58)) V2.heap.size noX := XAt.new V2 noX
    have p6 : w.heap.size ≤ V2.heap.size := OV2.below.size
    have n6 := lt_of_block OV2.one
    have m6 := lt_of_block OV2.two
    refine wpOp_make (v := .pointer (some ⟨V2.heap.size, 0, none⟩)) (w' := V2.alloc (.cells (xcells noX) 58)) rfl rfl (by kernel_rfl) ⟨OV5, ?_⟩
    generalize V2.heap.size = g6 at *
    generalize V2.alloc (.cells (xcells noX) 58) = V5 at *
    refine wpAnyH_all (rs := [4]) (by kernel_rfl) (by simp) (fun i hi => ?_)
    obtain rfl := List.mem_singleton.1 hi
    have hbV6 : Below V5.heap.size V5 (V5.alloc (.cells (xcells noX) 58)) := (Below.refl _ _).alloc (Nat.le_refl _) _
    have OV6 := OV5.later hbV6
    have R5V6 : XAt (V5.alloc (.cells (xcells noX) 58)) V5.heap.size noX := XAt.new V5 noX
    have p5 : w.heap.size ≤ V5.heap.size := OV5.below.size
    have n5 := lt_of_block OV5.one
    have m5 := lt_of_block OV5.two
    have ne : g6 < V5.heap.size := R6V5.lt
    have R6V6 := R6V5.later hbV6
    refine wpOp_make (v := .pointer (some ⟨V5.heap.size, 0, none⟩)) (w' := V5.alloc (.cells (xcells noX) 58)) rfl rfl (by kernel_rfl) ⟨OV6, ?_⟩
    generalize V5.heap.size = g5 at *
    generalize V5.alloc (.cells (xcells noX) 58) = V6 at *
    have OL := OV6
    have R5L := R5V6
    have R6L := R6V6
    generalize V6 = VL at *
    rotate_left
    have hbV7 : Below V1.heap.size V1 (V1.alloc (.cells (xcells noX) 58)) := (Below.refl _ _).alloc (Nat.le_refl _) _
    have OV7 := OV1.later hbV7
    have R5V7 : XAt (V1.alloc (.cells (xcells noX) 58)) V1.heap.size noX := XAt.new V1 noX
    have p5 : w.heap.size ≤ V1.heap.size := OV1.below.size
    have n5 := lt_of_block OV1.one
    have m5 := lt_of_block OV1.two
    refine wpOp_make (v := .pointer (some ⟨V1.heap.size, 0, none⟩)) (w' := V1.alloc (.cells (xcells noX) 58)) rfl rfl (by kernel_rfl) ⟨OV7, ?_⟩
    generalize V1.heap.size = g5 at *
    generalize V1.alloc (.cells (xcells noX) 58) = V7 at *
    refine wpAnyH_all (rs := [3, 5]) (by kernel_rfl) (by simp) (fun i hi => ?_)
    simp only [List.mem_cons, List.not_mem_nil, or_false] at hi
    rcases hi with rfl | rfl
    refine wpOp_into (f := 38) (args := #[.agg #[.string a', .string b', .int .i64 st', .string c', .int .i64 mi', .slice fa' fl' fc', .slice ba' bl' bc']]) rfl rfl (by kernel_rfl) ((cR.out _ OV7.below).mono ?_)
    rintro e V8 ⟨rfl, hbV8⟩
    have OV8 := OV7.later hbV8
    refine ⟨_, rfl, OV8, ?_⟩
    have R5V8 := R5V7.later hbV8
    refine wpAnyH_all (rs := [5]) (by kernel_rfl) (by simp) (fun i hi => ?_)
    obtain rfl := List.mem_singleton.1 hi
    have hbV9 : Below V8.heap.size V8 (V8.alloc (.cells (xcells noX) 58)) := (Below.refl _ _).alloc (Nat.le_refl _) _
    have OV9 := OV8.later hbV9
    have R6V9 : XAt (V8.alloc (.cells (xcells noX) 58)) V8.heap.size noX := XAt.new V8 noX
    have p6 : w.heap.size ≤ V8.heap.size := OV8.below.size
    have n6 := lt_of_block OV8.one
    have m6 := lt_of_block OV8.two
    have ne : g5 < V8.heap.size := R5V8.lt
    have R5V9 := R5V8.later hbV9
    refine wpOp_make (v := .pointer (some ⟨V8.heap.size, 0, none⟩)) (w' := V8.alloc (.cells (xcells noX) 58)) rfl rfl (by kernel_rfl) ⟨OV9, ?_⟩
    generalize V8.heap.size = g6 at *
    generalize V8.alloc (.cells (xcells noX) 58) = V9 at *
    have OL := OV9
    have R5L := R5V9
    have R6L := R6V9
    generalize V9 = VL at *
    rotate_left
    have hbV10 : Below V7.heap.size V7 (V7.alloc (.cells (xcells noX) 58)) := (Below.refl _ _).alloc (Nat.le_refl _) _
    have OV10 := OV7.later hbV10
    have R6V10 : XAt (V7.alloc (.cells (xcells noX) 58)) V7.heap.size noX := XAt.new V7 noX
    have p6 : w.heap.size ≤ V7.heap.size := OV7.below.size
    have n6 := lt_of_block OV7.one
    have m6 := lt_of_block OV7.two
    have ne : g5 < V7.heap.size := R5V7.lt
    have R5V10 := R5V7.later hbV10
    refine wpOp_make (v := .pointer (some ⟨V7.heap.size, 0, none⟩)) (w' := V7.alloc (.cells (xcells noX) 58)) rfl rfl (by kernel_rfl) ⟨OV10, ?_⟩
    generalize V7.heap.size = g6 at *
    generalize V7.alloc (.cells (xcells noX) 58) = V10 at *
    refine wpAnyH_all (rs := [3]) (by kernel_rfl) (by simp) (fun i hi => ?_)
    obtain rfl := List.mem_singleton.1 hi
    refine wpOp_into (f := 38) (args := #[.agg #[.string a', .string b', .int .i64 st', .string c', .int .i64 mi', .slice fa' fl' fc', .slice ba' bl' bc']]) rfl rfl (by kernel_rfl) ((cR.out _ OV10.below).mono ?_)
    rintro e V11 ⟨rfl, hbV11⟩
    have OV11 := OV10.later hbV11
    refine ⟨_, rfl, OV11, ?_⟩
    have R5V11 := R5V10.later hbV11
    have R6V11 := R6V10.later hbV11
    have OL := OV11
    have R5L := R5V11
    have R6L := R6V11
    generalize V11 = VL at *
    rotate_left
    have hbV12 : Below V1.heap.size V1 (V1.alloc (.cells (xcells noX) 58)) := (Below.refl _ _).alloc (Nat.le_refl _) _
    have OV12 := OV1.later hbV12
    have R6V12 : XAt (V1.alloc (.cells (xcells noX) 58)) V1.heap.size noX := XAt.new V1 noX
    have p6 : w.heap.size ≤ V1.heap.size := OV1.below.size
    have n6 := lt_of_block OV1.one
    have m6 := lt_of_block OV1.two
    refine wpOp_make (v := .pointer (some ⟨V1.heap.size, 0, none⟩)) (w' := V1.alloc (.cells (xcells noX) 58)) rfl rfl (by kernel_rfl) ⟨OV12, ?_⟩
    generalize V1.heap.size = g6 at *
    generalize V1.alloc (.cells (xcells noX) 58) = V12 at *
    refine wpAnyH_all (rs := [3, 4]) (by kernel_rfl) (by simp) (fun i hi => ?_)
    simp only [List.mem_cons, List.not_mem_nil, or_false] at hi
    rcases hi with rfl | rfl
    refine wpOp_into (f := 38) (args := #[.agg #[.string a', .string b', .int .i64 st', .string c', .int .i64 mi', .slice fa' fl' fc', .slice ba' bl' bc']]) rfl rfl (by kernel_rfl) ((cR.out _ OV12.below).mono ?_)
    rintro e V13 ⟨rfl, hbV13⟩
    have OV13 := OV12.later hbV13
    refine ⟨_, rfl, OV13, ?_⟩
    have R6V13 := R6V12.later hbV13
    refine wpAnyH_all (rs := [4]) (by kernel_rfl) (by simp) (fun i hi => ?_)
    obtain rfl := List.mem_singleton.1 hi
    have hbV14 : Below V13.heap.size V13 (V13.alloc (.cells (xcells noX) 58)) := (Below.refl _ _).alloc (Nat.le_refl _) _
    have OV14 := OV13.later hbV14
    have R5V14 : XAt (V13.alloc (.cells (xcells noX) 58)) V13.heap.size noX := XAt.new V13 noX
    have p5 : w.heap.size ≤ V13.heap.size := OV13.below.size
    have n5 := lt_of_block OV13.one
    have m5 := lt_of_block OV13.two
    have ne : g6 < V13.heap.size := R6V13.lt
    have R6V14 := R6V13.later hbV14
    refine wpOp_make (v := .pointer (some ⟨V13.heap.size, 0, none⟩)) (w' := V13.alloc (.cells (xcells noX) 58)) rfl rfl (by kernel_rfl) ⟨OV14, ?_⟩
    generalize V13.heap.size = g5 at *
    generalize V13.alloc (.cells (xcells noX) 58) = V14 at *
    have OL := OV14
    have R5L := R5V14
    have R6L := R6V14
    generalize V14 = VL at *
    rotate_left
    have hbV15 : Below V12.heap.size V12 (V12.alloc (.cells (xcells noX) 58)) := (Below.refl _ _).alloc (Nat.le_refl _) _
    have OV15 := OV12.later hbV15
    have R5V15 : XAt (V12.alloc (.cells (xcells noX) 58)) V12.heap.size noX := XAt.new V12 noX
    have p5 : w.heap.size ≤ V12.heap.size := OV12.below.size
    have n5 := lt_of_block OV12.one
    have m5 := lt_of_block OV12.two
    have ne : g6 < V12.heap.size := R6V12.lt
    have R6V15 := R6V12.later hbV15
    refine wpOp_make (v := .pointer (some ⟨V12.heap.size, 0, none⟩)) (w' := V12.alloc (.cells (xcells noX) 58)) rfl rfl (by kernel_rfl) ⟨OV15, ?_⟩
    generalize V12.heap.size = g5 at *
    generalize V12.alloc (.cells (xcells noX) 58) = V15 at *
    refine wpAnyH_all (rs := [3]) (by kernel_rfl) (by simp) (fun i hi => ?_)
    obtain rfl := List.mem_singleton.1 hi
    refine wpOp_into (f := 38) (args := #[.agg #[.string a', .string b', .int .i64 st', .string c', .int .i64 mi', .slice fa' fl' fc', .slice ba' bl' bc']]) rfl rfl (by kernel_rfl) ((cR.out _ OV15.below).mono ?_)
    rintro e V16 ⟨rfl, hbV16⟩
    have OV16 := OV15.later hbV16
    refine ⟨_, rfl, OV16, ?_⟩
    have R5V16 := R5V15.later hbV16
    have R6V16 := R6V15.later hbV16
    have OL := OV16
    have R5L := R5V16
    have R6L := R6V16
    generalize V16 = VL at *
    rotate_left
    have hbV17 : Below V0.heap.size V0 (V0.alloc (.cells (xcells noX) 58)) := (Below.refl _ _).alloc (Nat.le_refl _) _
    have OV17 := OV0.later hbV17
    have R5V17 : XAt (V0.alloc (.cells (xcells noX) 58)) V0.heap.size noX := XAt.new V0 noX
    have p5 : w.heap.size ≤ V0.heap.size := OV0.below.size
    have n5 := lt_of_block OV0.one
    have m5 := lt_of_block OV0.two
    refine wpOp_make (v := .pointer (some ⟨V0.heap.size, 0, none⟩)) (w' := V0.alloc (.cells (xcells noX) 58)) rfl rfl (by kernel_rfl) ⟨OV17, ?_⟩
    generalize V0.heap.size = g5 at *
    generalize V0.alloc (.cells (xcells noX) 58) = V17 at *
    refine wpAnyH_all (rs := [1, 5]) (by kernel_rfl) (by simp) (fun i hi => ?_)
    simp only [List.mem_cons, List.not_mem_nil, or_false] at hi
    rcases hi with rfl | rfl
    refine wpOp_into (f := 38) (args := #[.agg #[.string a, .string b, .int .i64 st, .string c, .int .i64 mi, .slice fa fl fc, .slice ba bl bc]]) rfl rfl (by kernel_rfl) ((cQ.out _ OV17.below).mono ?_)
    rintro e V18 ⟨rfl, hbV18⟩
    have OV18 := OV17.later hbV18
    refine ⟨_, rfl, OV18, ?_⟩
    have R5V18 := R5V17.later hbV18
    refine wpAnyH_all (rs := [3, 5]) (by kernel_rfl) (by simp) (fun i hi => ?_)
    simp only [List.mem_cons, List.not_mem_nil, or_false] at hi
    rcases hi with rfl | rfl
    refine wpOp_into (f := 38) (args := #[.agg #[.string a', .string b', .int .i64 st', .string c', .int .i64 mi', .slice fa' fl' fc', .slice ba' bl' bc']]) rfl rfl (by kernel_rfl) ((cR.out _ OV18.below).mono ?_)
    rintro e V19 ⟨rfl, hbV19⟩
    have OV19 := OV18.later hbV19
    refine ⟨_, rfl, OV19, ?_⟩
    have R5V19 := R5V18.later hbV19
    refine wpAnyH_all (rs := [5]) (by kernel_rfl) (by simp) (fun i hi => ?_)
    obtain rfl := List.mem_singleton.1 hi
    have hbV20 : Below V19.heap.size V19 (V19.alloc (.cells (xcells noX) 58)) := (Below.refl _ _).alloc (Nat.le_refl _) _
    have OV20 := OV19.later hbV20
    have R6V20 : XAt (V19.alloc (.cells (xcells noX) 58)) V19.heap.size noX := XAt.new V19 noX
    have p6 : w.heap.size ≤ V19.heap.size := OV19.below.size
    have n6 := lt_of_block OV19.one
    have m6 := lt_of_block OV19.two
    have ne : g5 < V19.heap.size := R5V19.lt
    have R5V20 := R5V19.later hbV20
    refine wpOp_make (v := .pointer (some ⟨V19.heap.size, 0, none⟩)) (w' := V19.alloc (.cells (xcells noX) 58)) rfl rfl (by kernel_rfl) ⟨OV20, ?_⟩
    generalize V19.heap.size = g6 at *
    generalize V19.alloc (.cells (xcells noX) 58) = V20 at *
    have OL := OV20
    have R5L := R5V20
    have R6L := R6V20
    generalize V20 = VL at *
    rotate_left
    have hbV21 : Below V18.heap.size V18 (V18.alloc (.cells (xcells noX) 58)) := (Below.refl _ _).alloc (Nat.le_refl _) _
    have OV21 := OV18.later hbV21
    have R6V21 : XAt (V18.alloc (.cells (xcells noX) 58)) V18.heap.size noX := XAt.new V18 noX
    have p6 : w.heap.size ≤ V18.heap.size := OV18.below.size
    have n6 := lt_of_block OV18.one
    have m6 := lt_of_block OV18.two
    have ne : g5 < V18.heap.size := R5V18.lt
    have R5V21 := R5V18.later hbV21
    refine wpOp_make (v := .pointer (some ⟨V18.heap.size, 0, none⟩)) (w' := V18.alloc (.cells (xcells noX) 58)) rfl rfl (by kernel_rfl) ⟨OV21, ?_⟩
    generalize V18.heap.size = g6 at *
    generalize V18.alloc (.cells (xcells noX) 58) = V21 at *
    refine wpAnyH_all (rs := [3]) (by kernel_rfl) (by simp) (fun i hi => ?_)
    obtain rfl := List.mem_singleton.1 hi
    refine wpOp_into (f := 38) (args := #[.agg #[.string a', .string b', .int .i64 st', .string c', .int .i64 mi', .slice fa' fl' fc', .slice ba' bl' bc']]) rfl rfl (by kernel_rfl) ((cR.out _ OV21.below).mono ?_)
    rintro e V22 ⟨rfl, hbV22⟩
    have OV22 := OV21.later hbV22
    refine ⟨_, rfl, OV22, ?_⟩
    have R5V22 := R5V21.later hbV22
    have R6V22 := R6V21.later hbV22
    have OL := OV22
    have R5L := R5V22
    have R6L := R6V22
    generalize V22 = VL at *
    rotate_left
    have hbV23 : Below V17.heap.size V17 (V17.alloc (.cells (xcells noX) 58)) := (Below.refl _ _).alloc (Nat.le_refl _) _
    have OV23 := OV17.later hbV23
    have R6V23 : XAt (V17.alloc (.cells (xcells noX) 58)) V17.heap.size noX := XAt.new V17 noX
    have p6 : w.heap.size ≤ V17.heap.size := OV17.below.size
    have n6 := lt_of_block OV17.one
    have m6 := lt_of_block OV17.two
    have ne : g5 < V17.heap.size := R5V17.lt
    have R5V23 := R5V17.later hbV23
    refine wpOp_make (v := .pointer (some ⟨V17.heap.size, 0, none⟩)) (w' := V17.alloc (.cells (xcells noX) 58)) rfl rfl (by kernel_rfl) ⟨OV23, ?_⟩
    generalize V17.heap.size = g6 at *
    generalize V17.alloc (.cells (xcells noX) 58) = V23 at *
    refine wpAnyH_all (rs := [1]) (by kernel_rfl) (by simp) (fun i hi => ?_)
    obtain rfl := List.mem_singleton.1 hi
    refine wpOp_into (f := 38) (args := #[.agg #[.string a, .string b, .int .i64 st, .string c, .int .i64 mi, .slice fa fl fc, .slice ba bl bc]]) rfl rfl (by kernel_rfl) ((cQ.out _ OV23.below).mono ?_)
    rintro e V24 ⟨rfl, hbV24⟩
    have OV24 := OV23.later hbV24
    refine ⟨_, rfl, OV24, ?_⟩
    have R5V24 := R5V23.later hbV24
    have R6V24 := R6V23.later hbV24
    refine wpAnyH_all (rs := [3]) (by kernel_rfl) (by simp) (fun i hi => ?_)
    obtain rfl := List.mem_singleton.1 hi
    refine wpOp_into (f := 38) (args := #[.agg #[.string a', .string b', .int .i64 st', .string c', .int .i64 mi', .slice fa' fl' fc', .slice ba' bl' bc']]) rfl rfl (by kernel_rfl) ((cR.out _ OV24.below).mono ?_)
    rintro e V25 ⟨rfl, hbV25⟩
    have OV25 := OV24.later hbV25
    refine ⟨_, rfl, OV25, ?_⟩
    have R5V25 := R5V24.later hbV25
    have R6V25 := R6V24.later hbV25
    have OL := OV25
    have R5L := R5V25
    have R6L := R6V25
    generalize V25 = VL at *
    rotate_left
    have hbV26 : Below V0.heap.size V0 (V0.alloc (.cells (xcells noX) 58)) := (Below.refl _ _).alloc (Nat.le_refl _) _
    have OV26 := OV0.later hbV26
    have R6V26 : XAt (V0.alloc (.cells (xcells noX) 58)) V0.heap.size noX := XAt.new V0 noX
    have p6 : w.heap.size ≤ V0.heap.size := OV0.below.size
    have n6 := lt_of_block OV0.one
    have m6 := lt_of_block OV0.two
    refine wpOp_make (v := .pointer (some ⟨V0.heap.size, 0, none⟩)) (w' := V0.alloc (.cells (xcells noX) 58)) rfl rfl (by kernel_rfl) ⟨OV26, ?_⟩
    generalize V0.heap.size = g6 at *
    generalize V0.alloc (.cells (xcells noX) 58) = V26 at *
    refine wpAnyH_all (rs := [1, 4]) (by kernel_rfl) (by simp) (fun i hi => ?_)
    simp only [List.mem_cons, List.not_mem_nil, or_false] at hi
    rcases hi with rfl | rfl
    refine wpOp_into (f := 38) (args := #[.agg #[.string a, .string b, .int .i64 st, .string c, .int .i64 mi, .slice fa fl fc, .slice ba bl bc]]) rfl rfl (by kernel_rfl) ((cQ.out _ OV26.below).mono ?_)
    rintro e V27 ⟨rfl, hbV27⟩
    have OV27 := OV26.later hbV27
    refine ⟨_, rfl, OV27, ?_⟩
    have R6V27 := R6V26.later hbV27
    refine wpAnyH_all (rs := [3, 4]) (by kernel_rfl) (by simp) (fun i hi => ?_)
    simp only [List.mem_cons, List.not_mem_nil, or_false] at hi
    rcases hi with rfl | rfl
    refine wpOp_into (f := 38) (args := #[.agg #[.string a', .string b', .int .i64 st', .string c', .int .i64 mi', .slice fa' fl' fc', .slice ba' bl' bc']]) rfl rfl (by kernel_rfl) ((cR.out _ OV27.below).mono ?_)
    rintro e V28 ⟨rfl, hbV28⟩
    have OV28 := OV27.later hbV28
    refine ⟨_, rfl, OV28, ?_⟩
    have R6V28 := R6V27.later hbV28
    refine wpAnyH_all (rs := [4]) (by kernel_rfl) (by simp) (fun i hi => ?_)
    obtain rfl := List.mem_singleton.1 hi
    have hbV29 : Below V28.heap.size V28 (V28.alloc (.cells (xcells noX) 58)) := (Below.refl _ _).alloc (Nat.le_refl _) _
    have OV29 := OV28.later hbV29
    have R5V29 : XAt (V28.alloc (.cells (xcells noX) 58)) V28.heap.size noX := XAt.new V28 noX
    have p5 : w.heap.size ≤ V28.heap.size := OV28.below.size
    have n5 := lt_of_block OV28.one
    have m5 := lt_of_block OV28.two
    have ne : g6 < V28.heap.size := R6V28.lt
    have R6V29 := R6V28.later hbV29
    refine wpOp_make (v := .pointer (some ⟨V28.heap.size, 0, none⟩)) (w' := V28.alloc (.cells (xcells noX) 58)) rfl rfl (by kernel_rfl) ⟨OV29, ?_⟩
    generalize V28.heap.size = g5 at *
    generalize V28.alloc (.cells (xcells noX) 58) = V29 at *
    have OL := OV29
    have R5L := R5V29
    have R6L := R6V29
    generalize V29 = VL at *
    rotate_left
    have hbV30 : Below V27.heap.size V27 (V27.alloc (.cells (xcells noX) 58)) := (Below.refl _ _).alloc (Nat.le_refl _) _
    have OV30 := OV27.later hbV30
    have R5V30 : XAt (V27.alloc (.cells (xcells noX) 58)) V27.heap.size noX := XAt.new V27 noX
    have p5 : w.heap.size ≤ V27.heap.size := OV27.below.size
    have n5 := lt_of_block OV27.one
    have m5 := lt_of_block OV27.two
    have ne : g6 < V27.heap.size := R6V27.lt
    have R6V30 := R6V27.later hbV30
    refine wpOp_make (v := .pointer (some ⟨V27.heap.size, 0, none⟩)) (w' := V27.alloc (.cells (xcells noX) 58)) rfl rfl (by kernel_rfl) ⟨OV30, ?_⟩
    generalize V27.heap.size = g5 at *
    generalize V27.alloc (.cells (xcells noX) 58) = V30 at *
    refine wpAnyH_all (rs := [3]) (by kernel_rfl) (by simp) (fun i hi => ?_)
    obtain rfl := List.mem_singleton.1 hi
    refine wpOp_into (f := 38) (args := #[.agg #[.string a', .string b', .int .i64 st', .string c', .int .i64 mi', .slice fa' fl' fc', .slice ba' bl' bc']]) rfl rfl (by kernel_rfl) ((cR.out _ OV30.below).mono ?_)
    rintro e V31 ⟨rfl, hbV31⟩
    have OV31 := OV30.later hbV31
    refine ⟨_, rfl, OV31, ?_⟩
    have R5V31 := R5V30.later hbV31
    have R6V31 := R6V30.later hbV31
    have OL := OV31
    have R5L := R5V31
    have R6L := R6V31
    generalize V31 = VL at *
    rotate_left
    have hbV32 : Below V26.heap.size V26 (V26.alloc (.cells (xcells noX) 58)) := (Below.refl _ _).alloc (Nat.le_refl _) _
    have OV32 := OV26.later hbV32
    have R5V32 : XAt (V26.alloc (.cells (xcells noX) 58)) V26.heap.size noX := XAt.new V26 noX
    have p5 : w.heap.size ≤ V26.heap.size := OV26.below.size
    have n5 := lt_of_block OV26.one
    have m5 := lt_of_block OV26.two
    have ne : g6 < V26.heap.size := R6V26.lt
    have R6V32 := R6V26.later hbV32
    refine wpOp_make (v := .pointer (some ⟨V26.heap.size, 0, none⟩)) (w' := V26.alloc (.cells (xcells noX) 58)) rfl rfl (by kernel_rfl) ⟨OV32, ?_⟩
    generalize V26.heap.size = g5 at *
    generalize V26.alloc (.cells (xcells noX) 58) = V32 at *
    refine wpAnyH_all (rs := [1]) (by kernel_rfl) (by simp) (fun i hi => ?_)
    obtain rfl := List.mem_singleton.1 hi
    refine wpOp_into (f := 38) (args := #[.agg #[.string a, .string b, .int .i64 st, .string c, .int .i64 mi, .slice fa fl fc, .slice ba bl bc]]) rfl rfl (by kernel_rfl) ((cQ.out _ OV32.below).mono ?_)
    rintro e V33 ⟨rfl, hbV33⟩
    have OV33 := OV32.later hbV33
    refine ⟨_, rfl, OV33, ?_⟩
    have R5V33 := R5V32.later hbV33
    have R6V33 := R6V32.later hbV33
    refine wpAnyH_all (rs := [3]) (by kernel_rfl) (by simp) (fun i hi => ?_)
    obtain rfl := List.mem_singleton.1 hi
    refine wpOp_into (f := 38) (args := #[.agg #[.string a', .string b', .int .i64 st', .string c', .int .i64 mi', .slice fa' fl' fc', .slice ba' bl' bc']]) rfl rfl (by kernel_rfl) ((cR.out _ OV33.below).mono ?_)
    rintro e V34 ⟨rfl, hbV34⟩
    have OV34 := OV33.later hbV34
    refine ⟨_, rfl, OV34, ?_⟩
    have R5V34 := R5V33.later hbV34
    have R6V34 := R6V33.later hbV34
    have OL := OV34
    have R5L := R5V34
    have R6L := R6V34
    generalize V34 = VL at *
    rotate_left
    all_goals
      refine wpAnyH_all (rs := [6]) (by kernel_rfl) (by simp) (fun i hi => ?_)
      obtain rfl := List.mem_singleton.1 hi
      refine wpOp_known (.store 58 (.tmp 5) (.tmp 14)) none (by kernel_rfl) (fun o e1 e2 => wp_store_row 58 _ _ e1 g5 (xcells q) (by kernel_rfl) (by kernel_rfl) 58 (xcells noX) R5L (x_info _) rfl h1 ?_)
      rw [e2]
      have OE := OL.row p5 (by omega) (by omega) (xcells q)
      have RE := R5L.row q
      have RF : XAt (VL.setRow g5 (xcells q)) g6 noX := heap_row R6L (by omega) _
      refine ⟨OE, ?_⟩
      generalize VL.setRow g5 (xcells q) = VE at *
      refine wpAnyH_all (rs := [7]) (by kernel_rfl) (by simp) (fun i hi => ?_)
      obtain rfl := List.mem_singleton.1 hi
      refine wpOp_known (.store 58 (.tmp 6) (.tmp 16)) none (by kernel_rfl) (fun o e1 e2 => wp_store_row 58 _ _ e1 g6 (xcells r) (by kernel_rfl) (by kernel_rfl) 58 (xcells noX) RF (x_info _) rfl h2 ?_)
      rw [e2]
      have OG := OE.row p6 (by omega) (by omega) (xcells r)
      have RG := RF.row r
      have RH : XAt (VE.setRow g6 (xcells r)) g5 q := heap_row RE (by omega) _
      refine ⟨OG, ?_⟩
      refine wpAnyH_done (P := Tryz.prog) (by kernel_rfl) ?_ 0
      generalize VE.setRow g6 (xcells r) = VG at *
      refine NoPanic.normal ?_
      go_simp
      go_wp2_with fail
      go_meet
      case rel => exact ⟨_, g5, g6, rfl, rfl, rfl, RH, RG, by omega, OG.below⟩
  case rest =>
    obtain ⟨w3, g5, g6, rfl, rfl, rfl, hq, hr, hne, hb3⟩ := hcut
    clear cQ cR h1 h2 hne HGA
    have hiq := x_info q
    have hir := x_info r
    unfold XAt at hq hr
    unfold xv at *
    generalize xcells q = cq at *
    generalize xcells r = cr at *
    have j2 := (row_at hr 2).trans HR2.out
    clear HR2
    by_cases hst : st' = 304
    case neg =>
      have hsb : (st' == 304) = false := beq_eq_false_iff_ne.2 hst
      have hsn : (st' != 304) = true := by simp [bne, hsb]
      have HR := Lib.hid (E1.out hst)
      clear cT cG cC cD E1 E2 E3 E4 E5
      go_wp2_with fail
      go_ret
      exact ⟨by rw [HR.out]; rfl, hb3⟩
    clear E1
    have hq3 := hq
    have hr3 := hr
    have cT1 := cT w3 hb3
    clear hq cT
    have HST := Lib.hid hst
    subst hst
    cases ho : Rl.one fs' Rl.kETag with
    | some t =>
      have HR := Lib.hid (E2.out t HST.out ho)
      rw [ho, show onp (some t) = .tuple #[.string (str t), .bool true] from rfl] at cT1
      clear E2 E3 E4 E5 ho cC cD
      go_wp2_with (refine wpList_load_row rfl 58 _ rfl g6 rfl 58 cr (0, 0) _ hr3 Tryz.underlying58 rfl hir ?_)
      refine cT1.mono ?_
      rintro e w4 ⟨rfl, hx4⟩
      have hb4 := hb3.trans (hx4.mono hb3.size)
      have hq4 := blk_keep hq3 hx4
      have hr4 := blk_keep hr3 hx4
      clear hx4
      have cG1 := cG.out t w4 hb4
      rw [← HR.out] at cG1
      clear cT1 cG HR hr3 hq3 hr j2
      go_wp2_with (refine wpList_load_row rfl 58 _ rfl g5 rfl 58 cq (0, 0) _ hq4 Tryz.underlying58 rfl hiq ?_)
      refine cG1.mono ?_
      rintro e w5 ⟨rfl, hx5⟩
      go_wp2_with fail
      go_ret
      exact ⟨rfl, hb4.trans (hx5.mono hb4.size)⟩
    | none =>
      rw [ho, show onp none = .tuple #[.string ⟨#[]⟩, .bool false] from rfl] at cT1
      clear E2
      go_wp2_with (refine wpList_load_row rfl 58 _ rfl g6 rfl 58 cr (0, 0) _ hr3 Tryz.underlying58 rfl hir ?_)
      refine cT1.mono ?_
      rintro e w4 ⟨rfl, hx4⟩
      have hb4 := hb3.trans (hx4.mono hb3.size)
      have hq4 := blk_keep hq3 hx4
      have hr4 := blk_keep hr3 hx4
      clear hx4
      have cC1 := cC.out w4 hb4
      clear cT1 cG hr3 hq3 hr j2 cC
      cases hc : Rl.one fs' Fr.kMod with
      | none =>
        have HR := Lib.hid (E3.out HST.out ho hc)
        rw [hc, show onp none = .tuple #[.string ⟨#[]⟩, .bool false] from rfl] at cC1
        clear E3 E4 E5 ho hc cD
        go_wp2_with (refine wpList_load_row rfl 58 _ rfl g6 rfl 58 cr (0, 0) _ hr4 Tryz.underlying58 rfl hir ?_)
        refine cC1.mono ?_
        rintro e w5 ⟨rfl, hx5⟩
        go_wp2_with fail
        go_ret
        exact ⟨by rw [HR.out]; rfl, hb4.trans (hx5.mono hb4.size)⟩
      | some v =>
        rw [hc, show onp (some v) = .tuple #[.string (str v), .bool true] from rfl] at cC1
        go_wp2_with (refine wpList_load_row rfl 58 _ rfl g6 rfl 58 cr (0, 0) _ hr4 Tryz.underlying58 rfl hir ?_)
        refine cC1.mono ?_
        rintro e w5 ⟨rfl, hx5⟩
        have hb5 := hb4.trans (hx5.mono hb4.size)
        have hq5 := blk_keep hq4 hx5
        have hr5 := blk_keep hr4 hx5
        clear hx5
        have cD1 := cD.out w5 hb5
        clear cD cC1 hr4 hq4 E3
        cases hd : Rl.one fs Fr.kMod with
        | none =>
          have HR := Lib.hid (E4.out v HST.out ho hc hd)
          rw [hd, show onp none = .tuple #[.string ⟨#[]⟩, .bool false] from rfl] at cD1
          clear E4 E5 ho hc hd
          go_wp2_with (refine wpList_load_row rfl 58 _ rfl g5 rfl 58 cq (0, 0) _ hq5 Tryz.underlying58 rfl hiq ?_)
          refine cD1.mono ?_
          rintro e w6 ⟨rfl, hx6⟩
          go_wp2_with fail
          go_ret
          exact ⟨by rw [HR.out]; rfl, hb5.trans (hx6.mono hb5.size)⟩
        | some d =>
          have HR := Lib.hid (E5.out v d HST.out ho hc hd)
          have HX : Hid ((d == v) = ((str d).toList == (str v).toList)) := Lib.hid (by rw [str_toList, str_toList])
          rw [HX.out] at HR
          rw [hd, show onp (some d) = .tuple #[.string (str d), .bool true] from rfl] at cD1
          clear E4 E5 ho hc hd HX
          go_wp2_with (refine wpList_load_row rfl 58 _ rfl g5 rfl 58 cq (0, 0) _ hq5 Tryz.underlying58 rfl hiq ?_)
          refine cD1.mono ?_
          rintro e w6 ⟨rfl, hx6⟩
          go_wp2_with fail
          go_ret
          exact ⟨by rw [HR.out]; rfl, hb5.trans (hx6.mono hb5.size)⟩
end Go.Proofs.YtoanelobggledaaGreatDoor

