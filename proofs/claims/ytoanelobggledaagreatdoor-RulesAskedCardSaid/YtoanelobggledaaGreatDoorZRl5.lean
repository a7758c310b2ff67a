/- Package rules, the document's side: what is kept, what is updated. -/
import Derived.Test.YtoanelobggledaaGreatDoorProg
import Derived.Test.YtoanelobggledaaGreatDoorZM1
import Derived.Test.YtoanelobggledaaGreatDoorZM2
import Derived.Test.YtoanelobggledaaGreatDoorZOctBase
import Derived.Test.YtoanelobggledaaGreatDoorZFd
import Derived.Test.YtoanelobggledaaGreatDoorZR1
import Derived.BigQuiet
import Derived.Deep.CutBlock
import Derived.Deep.DeepCutAuto
import Derived.Deep.LoopGhost
import Derived.Deep.QuietTactic
import Derived.Deep.RegionWith
import Derived.Ground.SlbCloneProg
import Derived.IntWalk
import Derived.Laws.AppendOwnNone
import Derived.Laws.Externs
import Derived.Laws.OwnMore
import Derived.Laws.RangeString
import Derived.Lib.AppendStr
import Derived.Lib.AppendZerosOnto
import Derived.Lib.BufferRead
import Derived.Lib.Bytealg
import Derived.Lib.FieldsP
import Derived.Lib.Hide
import Derived.Lib.IndexBytes
import Derived.Lib.IndexMore
import Derived.Lib.ItoaNum
import Derived.Lib.Join
import Derived.Lib.SlTrimSet
import Derived.Lib.SlicesCompact
import Derived.Lib.UnsafeStr
import Derived.LoopTactic
import Derived.Maps.AppendAt
import Derived.Maps.OwnSet
import Derived.Shelf.Bytes.SlClone
import Derived.Shelf.LaysM
import Derived.Shelf.Slices.CompactS
import Derived.Shelf.Slices.In.SortNone
import Derived.Shelf.Small.Bits
import Derived.Shelf.Small.Strs
import Derived.Shelf.Small.Utf8
import Derived.Shelf.Small.Wraps
import Derived.Shelf.Sort.Plain
import Derived.Shelf.Spec.TrailingZeros
import Derived.Shelf.Strconv.Clone
import Derived.Shelf.Strconv.Itoa0
import Derived.Shelf.Strconv.Itoa1
import Derived.Shelf.Strconv.Itoa2
import Derived.Shelf.Strconv.Itoa3
import Derived.Shelf.Strconv.Itoa4
import Derived.Shelf.Strings.AsciiSet
import Derived.Shelf.Strings.Builder1
import Derived.Shelf.Strings.Builder2
import Derived.Shelf.Strings.Count
import Derived.Shelf.Strings.Cut
import Derived.Shelf.Strings.FieldsFuncAny
import Derived.Shelf.Strings.FieldsFuncGrows
import Derived.Shelf.Strings.IndexAny
import Derived.Shelf.Strings.IndexAnyAll
import Derived.Shelf.Strings.LastIndex
import Derived.Shelf.Strings.OnBuilder
import Derived.Shelf.Strings.Prefix
import Derived.Shelf.Strings.Runes
import Derived.Shelf.Strings.Search1
import Derived.Shelf.Strings.Search2
import Derived.Shelf.Strings.Search3
import Derived.Shelf.Strings.Shaped
import Derived.Shelf.Strings.SlTrimAscii
import Derived.Shelf.Strings.Split
import Derived.Shelf.Strings.SplitShaped
import Derived.Shelf.Strings.Trim
import Derived.Shelf.Unicode.CaseConvert
import Derived.Shelf.Unicode.CaseLaid
import Derived.Shelf.Unicode.CaseLookup
import Derived.Shelf.Unicode.CaseTo
import Derived.Shelf.Unicode.DecodeAny
import Derived.Shelf.Unicode.DecodeLast
import Derived.Shelf.Unicode.DecodeSlow
import Derived.Shelf.Unicode.Latin
import Derived.SliceStrings
import Derived.StillTailTactics
import Derived.StringKeys
import Derived.WalkKit
import Derived.WalkLawsBesides
import Derived.WalkSpells
namespace Go.Proofs.YtoanelobggledaaGreatDoor
open Go.RowKit

theorem SBuf.lits_ (w : World) (ts : List (List UInt8)) (cs : Array Value) (hc : cs.toList = strCells ts) (hl : ts.length ≤ 1000) : SBuf w (w.alloc (.cells cs 9)) (.slice (some ⟨w.heap.size, 0, none⟩) ts.length ts.length) ts := by
  refine ⟨?_, (Below.refl _ w).alloc (Nat.le_refl _) _⟩
  rw [← hc]
  refine World.ownsRow_lit w cs ts.length (Nat.le_refl _) (by unfold maxLen; omega) ?_
  rw [← Array.length_toList, hc, strCells_length]; omega
set_option maxHeartbeats 3200000 in
set_option maxRecDepth 100000 in
theorem rPass_w (fv : Value) (fs : List Fld.F) (w : World) (hf : FIn w fv fs) (hs : Mid fs) :
    Calls Tryz.prog 22 #[fv] w fun e w' => (∃ v, e = .returned v ∧ FIn w' v (Rl.pass fs)) ∧ Below w.heap.size w w' := by
  have hk := hs.got Rl.kConn
  have cG := fun W' (hb : Below w.heap.size w W') => rGet_w fv fs Rl.kConn W' (hf.later hb) hs.small (by decide)
  rw [show str Rl.kConn = ⟨#[99, 111, 110, 110, 101, 99, 116, 105, 111, 110]⟩ from rfl] at cG
  have cS := fun v W' (hv : SIn W' v (Fld.get fs Rl.kConn)) => rSplit_s v (Fld.get fs Rl.kConn) W' hv (by omega) (fun l hl => by have := hk.2 l hl; omega)
  have hpl := Vr.piece_len (ls := Fld.get fs Rl.kConn) (m := 500) hk.2
  have hpn := Oct.splitAll_len (Fld.get fs Rl.kConn) (fun l hl => by have := hk.2 l hl; omega)
  have HN : Hid (Rl.gone fs = Rl.hops ++ Oct.splitAll (Fld.get fs Rl.kConn)) := Lib.hid rfl
  have HP : Hid (Rl.pass fs = Fld.withoutAll fs (Rl.gone fs)) := Lib.hid rfl
  have hgl : ∀ p ∈ Rl.gone fs, p.length ≤ 500 := fun p hp => by
    rw [HN.out] at hp
    rcases List.mem_append.1 hp with h | h
    · have : ∀ q ∈ Rl.hops, q.length ≤ 500 := by decide
      exact this p h
    · exact hpl p h
  have HL := Lib.hid hgl
  have hgn : (Rl.gone fs).length ≤ 900000000 := by rw [HN.out, List.length_append]; have : Rl.hops.length = 9 := rfl; omega
  rw [HP.out]
  generalize hNS : Rl.gone fs = NS at *
  generalize Fld.get fs Rl.kConn = gs at *
  have hL0 : SBuf w (w.alloc (.cells #[.string ⟨#[99, 111, 110, 110, 101, 99, 116, 105, 111, 110]⟩, .string ⟨#[107, 101, 101, 112, 45, 97, 108, 105, 118, 101]⟩, .string ⟨#[112, 114, 111, 120, 121, 45, 97, 117, 116, 104, 101, 110, 116, 105, 99, 97, 116, 101]⟩, .string ⟨#[112, 114, 111, 120, 121, 45, 97, 117, 116, 104, 111, 114, 105, 122, 97, 116, 105, 111, 110]⟩, .string ⟨#[112, 114, 111, 120, 121, 45, 99, 111, 110, 110, 101, 99, 116, 105, 111, 110]⟩, .string ⟨#[116, 101]⟩, .string ⟨#[116, 114, 97, 105, 108, 101, 114]⟩, .string ⟨#[116, 114, 97, 110, 115, 102, 101, 114, 45, 101, 110, 99, 111, 100, 105, 110, 103]⟩, .string ⟨#[117, 112, 103, 114, 97, 100, 101]⟩] 9)) (.slice (some ⟨w.heap.size, 0, none⟩) 9 9) Rl.hops := SBuf.lits_ w Rl.hops _ rfl (by decide)
  have HF := Lib.hid hf
  obtain ⟨fa, fc, hfv, hx9⟩ := id hf
  clear hx9 hf hgl hpl
  subst hfv
  generalize hfl : fs.length = fl at *
  have HFL := Lib.hid hfl
  clear hfl
  go_enter Tryz.func22, Tryz.ntmps22
  go_upto_region 2 with fail
  generalize w.alloc (.cells #[.string ⟨#[99, 111, 110, 110, 101, 99, 116, 105, 111, 110]⟩, .string ⟨#[107, 101, 101, 112, 45, 97, 108, 105, 118, 101]⟩, .string ⟨#[112, 114, 111, 120, 121, 45, 97, 117, 116, 104, 101, 110, 116, 105, 99, 97, 116, 101]⟩, .string ⟨#[112, 114, 111, 120, 121, 45, 97, 117, 116, 104, 111, 114, 105, 122, 97, 116, 105, 111, 110]⟩, .string ⟨#[112, 114, 111, 120, 121, 45, 99, 111, 110, 110, 101, 99, 116, 105, 111, 110]⟩, .string ⟨#[116, 101]⟩, .string ⟨#[116, 114, 97, 105, 108, 101, 114]⟩, .string ⟨#[116, 114, 97, 110, 115, 102, 101, 114, 45, 101, 110, 99, 111, 100, 105, 110, 103]⟩, .string ⟨#[117, 112, 103, 114, 97, 100, 101]⟩] 9) = W at *
  go_wp2_with fail
  refine (cG W hL0.2).mono ?_
  rintro e w1 ⟨v1, rfl, hB1⟩
  have hL1 := hL0.after hB1.2
  go_wp2_with fail
  refine (cS v1 w1 hB1.sin).mono ?_
  rintro e w2 ⟨v2, rfl, hB2⟩
  have hL2 := hL1.after hB2.2
  have l2 : Rl.hops.length + (Oct.splitAll gs).length ≤ 1000000000 := by have : Rl.hops.length = 9 := rfl; omega
  clear hL0 hL1 hB1 cG cS
  go_upto_region 3 with (at_builtin; refine appSs hL2 hB2.sin (row_nilok hB2.1) l2 rfl _ _ rfl rfl rfl ?_; intro v3 w3 hL3)
  rw [← HN.out] at hL3
  clear hL2 hB2 l2 hpn W w1 w2
  obtain ⟨n, hn⟩ : ∃ n, n = NS.length := ⟨_, rfl⟩
  have HNN := Lib.hid hn
  obtain ⟨ao, cp, rfl, hx9⟩ := hL3.sin
  clear hx9
  have HS3 := Lib.hid hL3.sin
  have hb3 := hL3.2
  rw [← hn] at hgn ⊢
  clear hL3 hn
  have HF3 := Lib.hid (HF.out.later hb3)
  go_wp2_with fail
  go_loopw [0, 4] (fun v i wr => ∃ k : Nat, k ≤ n ∧ i = .int .i64 k ∧ Below w3.heap.size w3 wr ∧ Hid (FIn wr v (Fld.withoutAll fs (NS.take k)))) (fun _ i _ => n - (intOf i).toNat)
  case atStart => exact ⟨0, by omega, rfl, Below.refl _ _, by rw [HFL.out.symm] at *; exact Lib.hid HF3.out⟩
  case round =>
    obtain ⟨k, hk9, rfl, hbr, HV⟩ := hrel
    by_cases hlt : k < n
    · have hkl : k < NS.length := by have := HNN.out; omega
      obtain ⟨b, o, rfl, hbl, hcell⟩ : ∃ b o, ao = some ⟨b, o, none⟩ ∧ b < w3.heap.size ∧ w3.cell? ⟨b, o + k, none⟩ = some (.string (str NS[k])) := by
        obtain ⟨a', c', hv, h⟩ := HS3.out
        injection hv with h1 h2 h3
        subst h1
        rcases h with h | ⟨b, o, h4, h5, h6⟩
        · exfalso; rw [h] at hkl; cases hkl
        · exact ⟨b, o, h4, h5, h6 k hkl⟩
      have hc := (hbr.cell (p := ⟨b, o + k, none⟩) hbl).trans hcell
      have hmid : Mid (Fld.withoutAll fs (NS.take k)) := by rw [Fld.withoutAll_drop]; exact hs.drop _
      have cW := fun v (hv : FIn wr v (Fld.withoutAll fs (NS.take k))) => rWithout_w v _ NS[k] wr hv hmid.small (by have := HL.out _ (List.getElem_mem hkl); omega)
      have HW := Lib.hid (Fld.withoutAll_snoc fs NS k hkl)
      generalize hx0 : str NS[k] = sk at *
      clear hx0
      obtain ⟨va, vc, hva, hx9⟩ := id HV.out
      clear hx9
      have cW1 := cW _ HV.out
      rw [hva] at cW1 ⊢
      clear cW hcell hva hmid
      generalize (Fld.withoutAll fs (NS.take k)).length = vl at *
      go_wp2_with fail
      refine cW1.mono ?_
      rintro e w4 ⟨v4, rfl, hB4⟩
      have hb4 := hbr.trans (hB4.2.mono hbr.size)
      go_wp2_with fail
      go_roundw
      case rel => exact ⟨k + 1, by omega, by go_num, hb4, by rw [HW.out]; exact Lib.hid hB4.fin⟩
      case measure => simp [intOf]; omega
    · have HE : Hid (Fld.withoutAll fs NS = Fld.withoutAll fs (NS.take k)) := Lib.hid (by rw [List.take_of_length_le (by have := HNN.out; omega)])
      have HB := Lib.hid (hb3.trans (hbr.mono hb3.size))
      go_wp2_with fail
      go_ret
      exact ⟨⟨_, rfl, by rw [HE.out]; exact HV.out⟩, HB.out⟩
set_option maxHeartbeats 800000 in
theorem rKept_w (fv : Value) (fs : List Fld.F) (w : World) (hf : FIn w fv fs) (hs : Mid fs) :
    Calls Tryz.prog 21 #[fv] w fun e w' => (∃ v, e = .returned v ∧ FBuf w w' v (Rl.kept fs)) ∧ Below w.heap.size w w' := by
  have cP := rPass_w fv fs w hf hs
  have cW := fun v W' (hv : FIn W' v (Rl.pass fs)) => rWithout_w v (Rl.pass fs) Rl.kCL W' hv hs.pass.small (by decide)
  rw [show str Rl.kCL = ⟨#[99, 111, 110, 116, 101, 110, 116, 45, 108, 101, 110, 103, 116, 104]⟩ from rfl] at cW
  have HR : Hid (Rl.kept fs = Fld.without (Rl.pass fs) Rl.kCL) := Lib.hid rfl
  rw [HR.out]
  obtain ⟨fa, fc, hfv, hx9⟩ := id hf
  clear hx9 hf hs HR
  subst hfv
  go_enter Tryz.func21, Tryz.ntmps21
  go_wp2_with fail
  refine cP.mono ?_
  rintro e w1 ⟨⟨v1, rfl, hv1⟩, hb1⟩
  have cW1 := cW v1 w1 hv1
  clear cW cP hv1
  go_wp2_with fail
  refine cW1.mono ?_
  rintro e w2 ⟨v2, rfl, hB2⟩
  go_wp2_with fail
  go_ret
  exact ⟨⟨_, rfl, hB2.from_ hb1⟩, hb1.trans (hB2.2.mono hb1.size)⟩
end Go.Proofs.YtoanelobggledaaGreatDoor

