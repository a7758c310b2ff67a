/- Package rules, the document's side: what is updated; who is told that nothing has changed. -/
import Derived.Test.YtoanelobggledaaGreatDoorProg
import Derived.Test.YtoanelobggledaaGreatDoorZM1
import Derived.Test.YtoanelobggledaaGreatDoorZM2
import Derived.Test.YtoanelobggledaaGreatDoorZOctBase
import Derived.Test.YtoanelobggledaaGreatDoorZFd
import Derived.Test.YtoanelobggledaaGreatDoorZR1
import Derived.Test.YtoanelobggledaaGreatDoorZRl5
import Derived.BigQuiet
import Derived.Deep.CutBlock
import Derived.Deep.DeepCutAuto
import Derived.Deep.LoopGhost
import Derived.Deep.QuietTactic
import Derived.Deep.RegionWith
import Derived.Ground.SlbCloneProg
import Derived.IntWalk
import Derived.Laws.AppendOwnNone
import Derived.Laws.Externs
import Derived.Laws.OwnMore
import Derived.Laws.RangeString
import Derived.Lib.AppendStr
import Derived.Lib.AppendZerosOnto
import Derived.Lib.BufferRead
import Derived.Lib.Bytealg
import Derived.Lib.FieldsP
import Derived.Lib.Hide
import Derived.Lib.IndexBytes
import Derived.Lib.IndexMore
import Derived.Lib.ItoaNum
import Derived.Lib.Join
import Derived.Lib.SlTrimSet
import Derived.Lib.SlicesCompact
import Derived.Lib.UnsafeStr
import Derived.LoopTactic
import Derived.Maps.AppendAt
import Derived.Maps.OwnSet
import Derived.Shelf.Bytes.SlClone
import Derived.Shelf.LaysM
import Derived.Shelf.Slices.CompactS
import Derived.Shelf.Slices.In.SortNone
import Derived.Shelf.Small.Bits
import Derived.Shelf.Small.Strs
import Derived.Shelf.Small.Utf8
import Derived.Shelf.Small.Wraps
import Derived.Shelf.Sort.Plain
import Derived.Shelf.Spec.TrailingZeros
import Derived.Shelf.Strconv.Clone
import Derived.Shelf.Strconv.Itoa0
import Derived.Shelf.Strconv.Itoa1
import Derived.Shelf.Strconv.Itoa2
import Derived.Shelf.Strconv.Itoa3
import Derived.Shelf.Strconv.Itoa4
import Derived.Shelf.Strings.AsciiSet
import Derived.Shelf.Strings.Builder1
import Derived.Shelf.Strings.Builder2
import Derived.Shelf.Strings.Count
import Derived.Shelf.Strings.Cut
import Derived.Shelf.Strings.FieldsFuncAny
import Derived.Shelf.Strings.FieldsFuncGrows
import Derived.Shelf.Strings.IndexAny
import Derived.Shelf.Strings.IndexAnyAll
import Derived.Shelf.Strings.LastIndex
import Derived.Shelf.Strings.OnBuilder
import Derived.Shelf.Strings.Prefix
import Derived.Shelf.Strings.Runes
import Derived.Shelf.Strings.Search1
import Derived.Shelf.Strings.Search2
import Derived.Shelf.Strings.Search3
import Derived.Shelf.Strings.Shaped
import Derived.Shelf.Strings.SlTrimAscii
import Derived.Shelf.Strings.Split
import Derived.Shelf.Strings.SplitShaped
import Derived.Shelf.Strings.Trim
import Derived.Shelf.Unicode.CaseConvert
import Derived.Shelf.Unicode.CaseLaid
import Derived.Shelf.Unicode.CaseLookup
import Derived.Shelf.Unicode.CaseTo
import Derived.Shelf.Unicode.DecodeAny
import Derived.Shelf.Unicode.DecodeLast
import Derived.Shelf.Unicode.DecodeSlow
import Derived.Shelf.Unicode.Latin
import Derived.SliceStrings
import Derived.StillTailTactics
import Derived.StringKeys
import Derived.WalkKit
import Derived.WalkLawsBesides
import Derived.WalkSpells
namespace Go.Proofs.YtoanelobggledaaGreatDoor
open Go.RowKit

theorem Mid.without {fs : List Fld.F} (h : Mid fs) (ns : List (List UInt8)) : Mid (Fld.withoutAll fs ns) := by rw [Fld.withoutAll_drop]; exact h.drop _
set_option maxHeartbeats 6400000 in
set_option maxRecDepth 100000 in
theorem rUpdate_w (fv fv' : Value) (fs fs' : List Fld.F) (w : World) (hf : FIn w fv fs) (hs : Mid fs) (hn : NilOk fv) (hf' : FIn w fv' fs') (hs' : Mid fs') :
    Calls Tryz.prog 31 #[fv, fv'] w fun e w' => (∃ v, e = .returned v ∧ FIn w' v (Rl.update fs fs')) ∧ Below w.heap.size w w' := by
  have cK := rKept_w fv' fs' w hf' hs'
  have hk := hs'.kept
  have HM : Hid (Rl.more fs' = Fld.withoutAll (Rl.kept fs') Rl.four) := Lib.hid rfl
  have HU : Hid (Rl.update fs fs' = Fld.withoutAll fs ((Rl.more fs').map (·.1)) ++ Rl.more fs') := Lib.hid rfl
  have hmm : Mid (Rl.more fs') := by rw [HM.out]; exact hk.without _
  rw [HU.out]
  generalize Rl.kept fs' = K at *
  generalize Rl.more fs' = M at *
  have HF := Lib.hid hf
  have HN := Lib.hid hn
  obtain ⟨fa, fc, hfv, hx9⟩ := id hf
  obtain ⟨fa', fc', hfv', hx8⟩ := id hf'
  clear hx9 hx8 hf hf' hn hs'
  subst hfv hfv'
  generalize hfl : fs.length = fl at *
  generalize fs'.length = fl' at *
  have HFL := Lib.hid hfl
  clear hfl
  go_enter Tryz.func31, Tryz.ntmps31
  go_wp2_with fail
  refine cK.mono ?_
  rintro e w1 ⟨⟨v1, rfl, hB1⟩, hb1⟩
  clear cK
  go_upto_region 3 with fail
  have hL := SBuf.lits_ w1 Rl.four #[.string ⟨#[99, 111, 110, 116, 101, 110, 116, 45, 101, 110, 99, 111, 100, 105, 110, 103]⟩, .string ⟨#[99, 111, 110, 116, 101, 110, 116, 45, 114, 97, 110, 103, 101]⟩, .string ⟨#[99, 111, 110, 116, 101, 110, 116, 45, 116, 121, 112, 101]⟩, .string ⟨#[101, 116, 97, 103]⟩] rfl (by decide)
  have hb2 : Below w1.heap.size w1 (w1.alloc (.cells #[.string ⟨#[99, 111, 110, 116, 101, 110, 116, 45, 101, 110, 99, 111, 100, 105, 110, 103]⟩, .string ⟨#[99, 111, 110, 116, 101, 110, 116, 45, 114, 97, 110, 103, 101]⟩, .string ⟨#[99, 111, 110, 116, 101, 110, 116, 45, 116, 121, 112, 101]⟩, .string ⟨#[101, 116, 97, 103]⟩] 9)) := hL.2
  have hB2 := hB1.after hb2
  have HS := Lib.hid hL.sin
  change Hid (SIn _ (.slice (some ⟨w1.heap.size, 0, none⟩) 4 4) Rl.four) at HS
  generalize w1.alloc (.cells #[.string ⟨#[99, 111, 110, 116, 101, 110, 116, 45, 101, 110, 99, 111, 100, 105, 110, 103]⟩, .string ⟨#[99, 111, 110, 116, 101, 110, 116, 45, 114, 97, 110, 103, 101]⟩, .string ⟨#[99, 111, 110, 116, 101, 110, 116, 45, 116, 121, 112, 101]⟩, .string ⟨#[101, 116, 97, 103]⟩] 9) = w2 at *
  generalize w1.heap.size = gn at *
  clear hL hb2 hB1 hb1 w1
  obtain ⟨va, vc, hva, hx9⟩ := id hB2.fin
  clear hx9
  go_wp2_with fail
  go_loopw [5, 7] (fun v i wr => ∃ k : Nat, k ≤ 4 ∧ i = .int .i64 k ∧ Below w2.heap.size w2 wr ∧ Hid (FBuf w wr v (Fld.withoutAll K (Rl.four.take k)))) (fun _ i _ => 4 - (intOf i).toNat)
  case atStart => exact ⟨0, by omega, rfl, Below.refl _ _, Lib.hid hB2⟩
  case round =>
    clear hva
    obtain ⟨k, hk9, rfl, hbr, HV⟩ := hrel
    by_cases hlt : k < 4
    · have hkl : k < Rl.four.length := hlt
      have hbl : gn < w2.heap.size := by
        obtain ⟨a', c', hv, h⟩ := HS.out
        rcases h with h | ⟨b, o, h4, h5, h6⟩
        · cases h
        · injection hv with h1 h2 h3; rw [h4] at h1; injection h1 with h1; injection h1 with h1; subst h1; exact h5
      have hcell : w2.cell? ⟨gn, k, none⟩ = some (.string (str Rl.four[k])) := by
        obtain ⟨a', c', hv, h⟩ := HS.out
        rcases h with h | ⟨b, o, h4, h5, h6⟩
        · cases h
        · injection hv with h1 h2 h3; rw [h4] at h1; injection h1 with h1; injection h1 with h1 h7; subst h1 h7; simpa using h6 k hkl
      have hc := (hbr.cell (p := ⟨gn, k, none⟩) hbl).trans hcell
      have hfl4 : ∀ q ∈ Rl.four, q.length ≤ 500 := by decide
      have cW := rWithout_w _ _ Rl.four[k] wr HV.out.fin (hk.without _).small (by have := hfl4 _ (List.getElem_mem hkl); omega)
      have HW := Lib.hid (Fld.withoutAll_snoc K Rl.four k hkl)
      generalize hx0 : str Rl.four[k] = sk at *
      clear hx0 hfl4 hcell
      obtain ⟨va, vc, hva, hx9⟩ := id HV.out.fin
      clear hx9
      rw [hva] at cW ⊢
      generalize (Fld.withoutAll K (Rl.four.take k)).length = vl at *
      have HVB := Lib.hid HV.out.2
      clear hva HV
      go_wp2_with fail
      refine cW.mono ?_
      rintro e w4 ⟨v4, rfl, hB4⟩
      have hb4 := hbr.trans (hB4.2.mono hbr.size)
      go_wp2_with fail
      go_roundw
      case rel => exact ⟨k + 1, by omega, by go_num, hb4, by rw [HW.out]; exact Lib.hid (hB4.from_ HVB.out)⟩
      case measure => simp [intOf]; omega
    · have HE : Hid (Fld.withoutAll K (Rl.four.take k) = M) := Lib.hid (by rw [HM.out, List.take_of_length_le (by show 4 ≤ k; omega)])
      have hB := HV.out
      rw [HE.out] at hB
      obtain ⟨wo, hwo⟩ : ∃ wo, wo = wr := ⟨_, rfl⟩
      rw [← hwo] at hB hbr ⊢
      clear hwo HV HE hB2 HS hbr
      obtain ⟨ma, mc, hma, hmx⟩ := id hB.fin
      have HMX := Lib.hid hmx
      clear hmx
      subst hma
      obtain ⟨n, hnn⟩ : ∃ n, n = M.length := ⟨_, rfl⟩
      have HNN := Lib.hid hnn
      rw [← hnn] at hB ⊢
      clear hnn
      have hn9 : n ≤ 100 := by rw [HNN.out]; exact hmm.1
      have hFo := HF.out.later hB.2
      have HBo := Lib.hid hB
      clear hB
      go_wp2_with fail
      go_loopw [8, 9] (fun v i wr2 => ∃ k : Nat, k ≤ n ∧ i = .int .i64 k ∧ Below wo.heap.size wo wr2 ∧ Hid (FIn wr2 v (Fld.withoutAll fs ((M.map (·.1)).take k)) ∧ NilOk v)) (fun _ i _ => n - (intOf i).toNat)
      case atStart => exact ⟨0, by omega, rfl, Below.refl _ _, Lib.hid ⟨hFo, HN.out⟩⟩
      case round =>
        clear hFo
        obtain ⟨k, hk9, rfl, hbr, HV⟩ := hrel
        by_cases hlt : k < n
        · have hkl : k < M.length := by have := HNN.out; omega
          have hkm : k < (M.map (·.1)).length := by rw [List.length_map]; exact hkl
          obtain ⟨b, o, rfl, hbl, hcell⟩ : ∃ b o, ma = some ⟨b, o, none⟩ ∧ b < wo.heap.size ∧ wo.cell? ⟨b, o + k * 2, none⟩ = some (.string (str M[k].1)) := by
            rcases HMX.out with h | ⟨b, o, h4, h5, h6⟩
            · exfalso; rw [h] at hkl; cases hkl
            · exact ⟨b, o, h4, h5, (h6 k hkl).1⟩
          have hc := (hbr.cell (p := ⟨b, o + k * 2, none⟩) hbl).trans hcell
          have cW := rWithout_w _ _ M[k].1 wr HV.out.1 (hs.without _).small (by have := (hmm.2 _ (List.getElem_mem hkl)).1; omega)
          have HW := Lib.hid (Fld.withoutAll_snoc fs (M.map (·.1)) k hkm)
          have HG : Hid ((M.map (·.1))[k] = M[k].1) := Lib.hid (by simp)
          rw [HG.out] at HW
          generalize hx0 : M[k].1 = mk at *
          generalize hx1 : str mk = sk at *
          clear hx0 hx1 hcell HG
          obtain ⟨va, vc, hva, hx9⟩ := id HV.out.1
          clear hx9
          rw [hva] at cW ⊢
          generalize (Fld.withoutAll fs ((M.map (·.1)).take k)).length = vl at *
          clear hva HV
          go_wp2_with fail
          refine cW.mono ?_
          rintro e w4 ⟨v4, rfl, hB4⟩
          have hb4 := hbr.trans (hB4.2.mono hbr.size)
          go_wp2_with fail
          go_roundw
          case rel => exact ⟨k + 1, by omega, by go_num, hb4, by rw [HW.out]; exact Lib.hid ⟨hB4.fin, row_nilok hB4.1⟩⟩
          case measure => simp [intOf]; omega
        · have HE : Hid (Fld.withoutAll fs ((M.map (·.1)).take k) = Fld.withoutAll fs (M.map (·.1))) := Lib.hid (by rw [List.take_of_length_le (by rw [List.length_map]; have := HNN.out; omega)])
          have hV := HV.out
          rw [HE.out] at hV
          obtain ⟨hV1, hV2⟩ := hV
          have hlen := Fld.withoutAll_length (M.map (·.1)) fs
          have HBW := Lib.hid (HBo.out.2.trans (hbr.mono HBo.out.2.size))
          have hE := FBuf.nil wr
          have l1 : ([] : List Fld.F).length + (Fld.withoutAll fs (M.map (·.1))).length ≤ 1000000000 := by have := hs.1; simp; omega
          have l2 : (Fld.withoutAll fs (M.map (·.1))).length + M.length ≤ 1000000000 := by have := hs.1; have := hmm.1; omega
          have HFM := Lib.hid (HBo.out.fin.later hbr)
          have hnM := row_nilok HBo.out.1
          obtain ⟨OUT, hOUT⟩ : ∃ OUT, OUT = Fld.withoutAll fs (M.map (·.1)) := ⟨_, rfl⟩
          rw [← hOUT] at hV1 l1 l2
          have HOUT := Lib.hid hOUT
          clear hOUT
          obtain ⟨va, vc, hva, hx9⟩ := id hV1
          clear hx9 hlen HV HE
          subst hva
          generalize hol : OUT.length = ol at *
          have HOL := Lib.hid hol
          clear hol
          go_wp2_with (first
            | (at_builtin; refine appFs hE hV1 hV2 (by rw [HOL.out]; exact l1) rfl _ _ rfl rfl rfl ?_; intro v6 w6 hA6; rw [List.nil_append] at hA6; have hM6 := HFM.out.later hA6.2)
            | (at_builtin; refine appFs hA6 hM6 hnM (by rw [HOL.out]; exact l2) rfl _ _ rfl rfl rfl ?_; intro v7 w7 hA7))
          go_ret
          exact ⟨⟨_, rfl, by rw [← HOUT.out]; exact hA7.fin⟩, HBW.out.trans (hA7.2.mono HBW.out.size)⟩
end Go.Proofs.YtoanelobggledaaGreatDoor

