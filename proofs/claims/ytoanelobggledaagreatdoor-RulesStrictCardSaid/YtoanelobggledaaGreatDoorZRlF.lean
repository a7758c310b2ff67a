/- The statements of layer 11: what RulesStrict needs of rows: an append as an operation, with what stays; a store beside a row of fields. -/
import Derived.Test.YtoanelobggledaaGreatDoorProg
import Derived.Test.YtoanelobggledaaGreatDoorZM1
import Derived.Test.YtoanelobggledaaGreatDoorZM2
import Derived.Test.YtoanelobggledaaGreatDoorZOctBase
import Derived.Test.YtoanelobggledaaGreatDoorZFd
import Derived.Test.YtoanelobggledaaGreatDoorZR1
import Derived.BigQuiet
import Derived.Deep.CutBlock
import Derived.Deep.DeepCutAuto
import Derived.Deep.LoopGhost
import Derived.Deep.QuietTactic
import Derived.Deep.RegionHeld3
import Derived.Deep.RegionLaw
import Derived.Deep.RegionWith
import Derived.Ground.SlbCloneProg
import Derived.IntWalk
import Derived.Laws.AppendOwnNone
import Derived.Laws.Externs
import Derived.Laws.OwnMore
import Derived.Laws.RangeString
import Derived.Lib.AppendStr
import Derived.Lib.AppendZerosOnto
import Derived.Lib.BufferRead
import Derived.Lib.Bytealg
import Derived.Lib.ConvBytes
import Derived.Lib.FieldsP
import Derived.Lib.Hide
import Derived.Lib.IndexBytes
import Derived.Lib.IndexMore
import Derived.Lib.ItoaNum
import Derived.Lib.Join
import Derived.Lib.SlTrimSet
import Derived.Lib.SlicesCompact
import Derived.Lib.UnsafeStr
import Derived.LoopTactic
import Derived.Maps.AppendAt
import Derived.Maps.OwnSet
import Derived.Shelf.Bytes.SlClone
import Derived.Shelf.LaysM
import Derived.Shelf.Slices.CompactS
import Derived.Shelf.Slices.In.SortNone
import Derived.Shelf.Small.Bits
import Derived.Shelf.Small.Strs
import Derived.Shelf.Small.Utf8
import Derived.Shelf.Small.Wraps
import Derived.Shelf.Sort.Plain
import Derived.Shelf.Spec.TrailingZeros
import Derived.Shelf.Strconv.Clone
import Derived.Shelf.Strconv.Itoa0
import Derived.Shelf.Strconv.Itoa1
import Derived.Shelf.Strconv.Itoa2
import Derived.Shelf.Strconv.Itoa3
import Derived.Shelf.Strconv.Itoa4
import Derived.Shelf.Strings.AsciiSet
import Derived.Shelf.Strings.Builder1
import Derived.Shelf.Strings.Builder2
import Derived.Shelf.Strings.Count
import Derived.Shelf.Strings.Cut
import Derived.Shelf.Strings.FieldsFuncAny
import Derived.Shelf.Strings.FieldsFuncGrows
import Derived.Shelf.Strings.IndexAny
import Derived.Shelf.Strings.IndexAnyAll
import Derived.Shelf.Strings.LastIndex
import Derived.Shelf.Strings.OnBuilder
import Derived.Shelf.Strings.Prefix
import Derived.Shelf.Strings.Runes
import Derived.Shelf.Strings.Search1
import Derived.Shelf.Strings.Search2
import Derived.Shelf.Strings.Search3
import Derived.Shelf.Strings.Shaped
import Derived.Shelf.Strings.SlTrimAscii
import Derived.Shelf.Strings.Split
import Derived.Shelf.Strings.SplitShaped
import Derived.Shelf.Strings.Trim
import Derived.Shelf.Unicode.CaseConvert
import Derived.Shelf.Unicode.CaseLaid
import Derived.Shelf.Unicode.CaseLookup
import Derived.Shelf.Unicode.CaseTo
import Derived.Shelf.Unicode.DecodeAny
import Derived.Shelf.Unicode.DecodeLast
import Derived.Shelf.Unicode.DecodeSlow
import Derived.Shelf.Unicode.Latin
import Derived.SliceStrings
import Derived.StillTailTactics
import Derived.StringKeys
import Derived.WalkKit
import Derived.WalkLawsBesides
import Derived.WalkSpells
namespace Go.Proofs.YtoanelobggledaaGreatDoor
open Go.RowKit

theorem freeT {W : World} {g t : Nat} {C : Array Value} (h : W.heap[g]? = some (.cells C t (0, 0))) (j : Nat) : W.frozen? ⟨g, j, none⟩ = false := by
  simp only [World.frozen?]; rw [h]; simp
theorem cells2 {W : World} {g t : Nat} {x y : Value} (h : W.heap[g]? = some (.cells #[x, y] t (0, 0))) : W.cell? ⟨g, 0, none⟩ = some x ∧ W.cell? ⟨g, 1, none⟩ = some y := by
  simp only [World.cell?, h]; exact ⟨rfl, rfl⟩
theorem FIn.grown1 {w w' : World} {b o n c : Nat} {row : Option Nat} {fs : List Fld.F} (h : FIn w (.slice (some ⟨b, o, none⟩) n c) fs) (hg : w.grownBy w' row) (hne : some b ≠ row) : FIn w' (.slice (some ⟨b, o, none⟩) n c) fs := by
  obtain ⟨ao, cap, hv, h⟩ := h
  refine ⟨ao, cap, hv, ?_⟩
  injection hv with h1 h2 h3
  subst h1
  rcases h with h | ⟨b', o', h1, h2, h3⟩
  · exact .inl h
  · injection h1 with h1
    injection h1 with h1 h4 h5
    subst h1 h4
    exact .inr ⟨b, o, rfl, Nat.lt_of_lt_of_le h2 hg.size, fun j hj => ⟨hg.cell (h3 j hj).1 hne, hg.cell (h3 j hj).2 hne⟩⟩
theorem mid_snoc {fs : List Fld.F} {f : Fld.F} (h : Mid fs) (hl : fs.length ≤ 30) (h1 : f.1.length ≤ 300) (h2 : f.2.length ≤ 500) : Mid (fs ++ [f]) := by
  refine ⟨by rw [List.length_append]; simp; omega, fun g hg => ?_⟩
  rcases List.mem_append.1 hg with hg | hg
  · exact h.2 g hg
  · obtain rfl := List.mem_singleton.1 hg; exact ⟨h1, h2⟩
theorem mid_cons {fs : List Fld.F} {f : Fld.F} (h : Mid fs) (hl : fs.length ≤ 30) (h1 : f.1.length ≤ 300) (h2 : f.2.length ≤ 500) : Mid (f :: fs) := by
  refine ⟨by simp; omega, fun g hg => ?_⟩
  rcases List.mem_cons.1 hg with rfl | hg
  · exact ⟨h1, h2⟩
  · exact h.2 g hg
theorem cell_beside {w : World} {p q : Addr} {x u y : Value} (hp : w.cell? p = some x) (hq : w.cell? q = some y) (hne : y ≠ x) : (w.setCell p u).cell? q = some y :=
  (World.cell?_setCell_other w p q u (fun e => hne (by subst e; rw [hp] at hq; exact (Option.some.inj hq).symm))).trans hq
theorem FIn.beside {w : World} {v : Value} {fs : List Fld.F} (h : FIn w v fs) {p : Addr} {x u : Value} (hp : w.cell? p = some x) (hx : ∀ s, x ≠ .string s) : FIn (w.setCell p u) v fs := by
  obtain ⟨ao, cap, hv, h⟩ := h
  refine ⟨ao, cap, hv, ?_⟩
  rcases h with h | ⟨b, o, h1, h2, h3⟩
  · exact .inl h
  · exact .inr ⟨b, o, h1, by simpa using h2, fun j hj => ⟨cell_beside hp (h3 j hj).1 (fun e => hx _ e.symm), cell_beside hp (h3 j hj).2 (fun e => hx _ e.symm)⟩⟩
theorem FBuf.one_ (W w : World) (hb : Below W.heap.size W w) (f : Fld.F) : FBuf W (w.alloc (.cells #[.string (str f.1), .string (str f.2)] 53)) (.slice (some ⟨w.heap.size, 0, none⟩) 1 1) [f] :=
  ⟨World.ownsRow_lit w #[.string (str f.1), .string (str f.2)] 1 hb.size (by decide) rfl, hb.alloc hb.size _⟩
end Go.Proofs.YtoanelobggledaaGreatDoor

