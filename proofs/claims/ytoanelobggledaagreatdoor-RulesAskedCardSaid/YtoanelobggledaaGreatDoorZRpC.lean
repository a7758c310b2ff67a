/- An append of fields as an operation: what lies in another block stays. -/
import Derived.Test.YtoanelobggledaaGreatDoorProg
import Derived.Test.YtoanelobggledaaGreatDoorZLi
import Derived.Test.YtoanelobggledaaGreatDoorZM1
import Derived.Test.YtoanelobggledaaGreatDoorZSh
import Derived.Test.YtoanelobggledaaGreatDoorZM2
import Derived.Test.YtoanelobggledaaGreatDoorZOctBase
import Derived.Test.YtoanelobggledaaGreatDoorZFd
import Derived.Test.YtoanelobggledaaGreatDoorZCt
import Derived.Test.YtoanelobggledaaGreatDoorZR1
import Derived.Test.YtoanelobggledaaGreatDoorZRpA
import Derived.Test.YtoanelobggledaaGreatDoorZRpB
import Derived.BigQuiet
import Derived.Deep.CutBlock
import Derived.Deep.DeepCutAuto
import Derived.Deep.LoopGhost
import Derived.Deep.QuietTactic
import Derived.Deep.RegionHeld3
import Derived.Deep.RegionLaw
import Derived.Deep.RegionWith
import Derived.Ground.SlbCloneProg
import Derived.Laws.AppendOwnNone
import Derived.Laws.Externs
import Derived.Laws.OwnMore
import Derived.Laws.RangeString
import Derived.Lib.AppendStr
import Derived.Lib.AppendZerosOnto
import Derived.Lib.BufferRead
import Derived.Lib.Bytealg
import Derived.Lib.FieldsP
import Derived.Lib.Hide
import Derived.Lib.IndexBytes
import Derived.Lib.IndexMore
import Derived.Lib.ItoaNum
import Derived.Lib.Join
import Derived.Lib.OwnBridge
import Derived.Lib.SlTrimSet
import Derived.Lib.SlicesCompact
import Derived.Lib.UnsafeStr
import Derived.LoopTactic
import Derived.Maps.AppendAt
import Derived.Maps.OwnSet
import Derived.OrdersHeld
import Derived.Shelf.Bytes.SlClone
import Derived.Shelf.LaysM
import Derived.Shelf.Slices.CompactS
import Derived.Shelf.Slices.In.SortNone
import Derived.Shelf.Small.Bits
import Derived.Shelf.Small.Strs
import Derived.Shelf.Small.Utf8
import Derived.Shelf.Small.Wraps
import Derived.Shelf.Sort.Plain
import Derived.Shelf.Spec.TrailingZeros
import Derived.Shelf.Strconv.Clone
import Derived.Shelf.Strconv.Itoa0
import Derived.Shelf.Strconv.Itoa1
import Derived.Shelf.Strconv.Itoa2
import Derived.Shelf.Strconv.Itoa3
import Derived.Shelf.Strconv.Itoa4
import Derived.Shelf.Strings.AsciiSet
import Derived.Shelf.Strings.Builder1
import Derived.Shelf.Strings.Builder2
import Derived.Shelf.Strings.Count
import Derived.Shelf.Strings.Cut
import Derived.Shelf.Strings.FieldsFuncAny
import Derived.Shelf.Strings.FieldsFuncGrows
import Derived.Shelf.Strings.IndexAny
import Derived.Shelf.Strings.IndexAnyAll
import Derived.Shelf.Strings.LastIndex
import Derived.Shelf.Strings.OnBuilder
import Derived.Shelf.Strings.Prefix
import Derived.Shelf.Strings.Runes
import Derived.Shelf.Strings.Search1
import Derived.Shelf.Strings.Search2
import Derived.Shelf.Strings.Search3
import Derived.Shelf.Strings.Shaped
import Derived.Shelf.Strings.SlTrimAscii
import Derived.Shelf.Strings.Split
import Derived.Shelf.Strings.SplitShaped
import Derived.Shelf.Strings.Trim
import Derived.Shelf.Unicode.CaseConvert
import Derived.Shelf.Unicode.CaseLaid
import Derived.Shelf.Unicode.CaseLookup
import Derived.Shelf.Unicode.CaseTo
import Derived.Shelf.Unicode.DecodeAny
import Derived.Shelf.Unicode.DecodeLast
import Derived.Shelf.Unicode.DecodeSlow
import Derived.Shelf.Unicode.Latin
import Derived.SliceStrings
import Derived.Sort.OwnSorted
import Derived.StillTailTactics
import Derived.StringKeys
import Derived.WalkKit
import Derived.WalkLawsBesides
import Derived.WalkSpells
namespace Go.Proofs.YtoanelobggledaaGreatDoor
open Go.RowKit

theorem appFsO {o : Oper} {a : Act} {K : Act → World → Prop} {Q : Exit → Act → World → Prop} {W w : World} {v u : Value} {fs gs : List Fld.F} (h : FBuf W w v fs) (hu : FIn w u gs) (hnil : NilOk u) (hlen : fs.length + gs.length ≤ 1000000000)
    (s x : Operand) (ho : o.op = .call { callee := .builtin .append, args := #[s, x], argTypes := #[24, 24] })
    (hs : a.eval s = v) (hx : a.eval x = u)
    (hK : ∀ v' w', FBuf W w' v' (fs ++ gs) → w.grownBy w' v.ownBlock → K (a.put o.dst v') w') : o.wp Tryz.prog a w K Q := by
  obtain ⟨i0, hi, hz0, hz1, hz2⟩ := info_parts fields_info
  obtain ⟨ao, cap, rfl, hg⟩ := hu
  cases ao with
  | none =>
    have h0 : gs = [] := by
      rcases hg with h | ⟨b, o, h, _⟩
      · exact h
      · cases h
    subst h0
    obtain rfl : cap = 0 := hnil cap rfl
    have hrun := run_append_owned_none (P := Tryz.prog) (w := w) W.heap.size 24 o.type 53 i0 2 Tryz.underlying24 hi v fs.length (fieldCells fs) h.1
    have hx' : a.eval x = .slice none 0 0 := hx
    unfold Oper.wp
    simp [execOp, ho, resolve, invoke, builtin, hs, hx', hrun, Result.andThen]
    have := hK v w
    rw [List.append_nil] at this
    exact this h (World.grownBy.refl _ _)
  | some ad =>
    refine wp_append_own _ s x _ ho W.heap.size 53 i0 _ 2 32 Tryz.underlying24 hi hz0 hz1 hz2 rfl (by decide) v fs.length (fieldCells fs) hs h.1 ad gs.length cap (fieldCells gs) hx (fieldCells_length gs) ?_ (fieldCells_one' gs) (by unfold maxLen; omega) (by omega) h.2.size (fun v' w' h1 h2 _ => ?_)
    · intro j u hj
      have hjl : j < (fieldCells gs).length := (List.getElem?_eq_some_iff.1 hj).1
      rw [fieldCells_length] at hjl
      rcases hg with h | ⟨b, o, h, hb, hc⟩
      · subst h; simp at hjl
      · cases h
        have hk : j / 2 < gs.length := by omega
        have h1 := fieldCells_at gs (j / 2) hk
        have h2 := hc (j / 2) hk
        rw [Addr.add_lit]
        rcases Nat.mod_two_eq_zero_or_one j with e | e
        · have ej : j = j / 2 * 2 := by omega
          rw [ej] at hj ⊢
          rw [h1.1] at hj; rw [← hj]; exact h2.1
        · have ej : j = j / 2 * 2 + 1 := by omega
          rw [ej] at hj ⊢
          rw [h1.2] at hj; rw [← hj]; exact h2.2
    · refine hK v' w' ⟨?_, h.2.grown h2 h.2.size (fun k hk => (h.1.lt k hk).1)⟩ h2
      rw [fieldCells_append, List.length_append]; exact h1
end Go.Proofs.YtoanelobggledaaGreatDoor

namespace Go.Proofs.YtoanelobggledaaGreatDoor
open Go.RowKit

theorem Clone_big (s : ByteArray) (w : World) (hs : s.size ≤ 281474976710656) :
    Calls Tryz.prog 61 #[.string s] w fun e w' => e = .returned (.string s) ∧ Below w.heap.size w w' := by
  have c := Tryz.stringslite_Clone s w hs
  go_enter Tryz.func61, Tryz.ntmps61
  go_wp2_with fail
  refine c.mono ?_
  rintro e w1 ⟨rfl, hb1⟩
  go_wp2_with fail
  go_ret
  exact ⟨rfl, hb1⟩
theorem bin_row {w : World} {base : Nat} {v : Value} {l : List UInt8} (h : w.ownsRow base 5 1 v l.length (Lib.byteCells l)) (hv : v ≠ .slice none 0 0) : BIn w v l ∧ NilOk v := by
  rcases h.2 with ⟨h0, _⟩ | ⟨g, cap, cur, hv', hg, hh, h1, h2, h3, h4⟩
  · exact absurd h0 hv
  · refine ⟨⟨_, cap, hv', h1, by unfold maxLen at h2; omega, .inr ⟨g, 0, rfl, lt_of_block hh, fun j hj => ?_⟩⟩, by rw [hv']; exact nil_ok g _ _⟩
    have h5 : cur.toList[j]? = some (.int .u8 (l[j].toNat : Int)) := by
      have h6 : (cur.toList.take (l.length * 1))[j]? = (Lib.byteCells l)[j]? := by rw [h4]
      rw [List.getElem?_take_of_lt (by omega)] at h6
      rw [h6]; simp [Lib.byteCells, hj]
    rw [Nat.zero_add]
    simp only [World.cell?, hh]
    simpa using h5
theorem bok_row {w : World} {base : Nat} {v : Value} {l : List UInt8} (h : w.ownsRow base 5 1 v l.length (Lib.byteCells l)) : BOk w v l := by
  by_cases hv : v = .slice none 0 0
  · subst hv
    have h0 : l = [] := by
      rcases h.2 with ⟨_, h0⟩ | ⟨g, cap, cur, hv, _⟩
      · exact List.eq_nil_of_length_eq_zero h0
      · injection hv with h1; cases h1
    subst h0
    exact ⟨⟨none, 0, rfl, Nat.le_refl _, by decide, .inl rfl⟩, fun c hc => by injection hc with _ _ h3; exact h3.symm⟩
  · exact bin_row h hv
theorem bok_of {W w : World} {v : Value} {l : List UInt8} (h : Buf W w v l) : BOk w v l := bok_row h.1
theorem row_aside {w : World} {base e s n g : Nat} {t : TypeId} {v : Value} {xs : List Value} {cs : Array Value} (h : w.ownsRow base e s v n xs) (hg : w.heap[g]? = some (.cells cs t (0, 0))) (ht : e ≠ t) (N : Array Value) : (w.setRow g N).ownsRow base e s v n xs :=
  row_after h fun k cur hk => heap_row hk (fun ek => by subst ek; rw [hg] at hk; injection hk with hk; injection hk with _ h2; exact ht h2.symm) N
theorem bok_aside {w : World} {g : Nat} {v : Value} {l : List UInt8} (h : BOk w v l) (hg : w.heap[g]? = some (.cells #[.string ⟨#[]⟩, .string ⟨#[]⟩, .int .i64 0, .string ⟨#[]⟩, .int .i64 0, .slice none 0 0, .slice none 0 0] 27 (0, 0))) (N : Array Value) : BOk (w.setRow g N) v l := by
  obtain ⟨⟨ao, cap, hv, h1, h2, h3⟩, hn⟩ := h
  refine ⟨⟨ao, cap, hv, h1, h2, ?_⟩, hn⟩
  rcases h3 with h3 | ⟨b, o, h4, h5, h6⟩
  · exact .inl h3
  · by_cases h0 : l = []
    · exact .inl h0
    have hl : 0 < l.length := List.length_pos_iff.2 h0
    have hne : b ≠ g := fun e => by
      subst e
      have hc : (#[.string ⟨#[]⟩, .string ⟨#[]⟩, .int .i64 0, .string ⟨#[]⟩, .int .i64 0, .slice none 0 0, .slice none 0 0] : Array Value)[o]? = some (.int .u8 (l[0].toNat : Int)) := by simpa [World.cell?, hg] using h6 0 hl
      rcases Nat.lt_or_ge o 7 with h | h
      · match o, h with
        | 0, _ => simp at hc
        | 1, _ => simp at hc
        | 2, _ => simp at hc
        | 3, _ => simp at hc
        | 4, _ => simp at hc
        | 5, _ => simp at hc
        | 6, _ => simp at hc
      · rw [Array.getElem?_eq_none (by simpa using h)] at hc
        cases hc
    refine .inr ⟨b, o, h4, by rw [show (w.setRow g N).heap.size = w.heap.size by simp [World.setRow]]; exact h5, fun j hj => ?_⟩
    have hc := h6 j hj
    obtain ⟨O, hO⟩ : ∃ O, w.heap[b]? = some O := ⟨_, Array.getElem?_eq_getElem h5⟩
    have hO2 := heap_row hO hne N
    simp only [World.cell?, hO] at hc
    simp only [World.cell?, hO2]
    exact hc
set_option maxHeartbeats 800000 in
theorem bytesClone_w (v : Value) (x : List UInt8) (w : World) (h : BOk w v x) (hx : x.length ≤ 1000) :
    Calls Tryz.prog 81 #[v] w fun e w' => ∃ v', e = .returned v' ∧ Buf w w' v' x := by
  obtain ⟨⟨ao, cap, rfl, h1, h2, h3⟩, hn⟩ := h
  cases ao with
  | none =>
    have h0 : x = [] := by
      rcases h3 with h3 | ⟨b, o, h4, _⟩
      · exact h3
      · cases h4
    subst h0
    exact (Tryz.bytes_Clone_nil _ _ w).mono fun e w' ⟨he, hw⟩ => by subst hw; exact ⟨_, he, Buf.nil w'⟩
  | some ad =>
    have hc : ∀ i, i < x.length → w.cell? (ad.add i) = some (.int .u8 ((x.map fun b => (b.toNat : Int)).getD i 0)) := fun i hi => by
      rcases h3 with h3 | ⟨b, o, h4, _, h6⟩
      · subst h3; cases hi
      · injection h4 with h4
        subst h4
        rw [Addr.add_lit, h6 i hi]
        simp [List.getD, hi]
    refine (Tryz.bytes_Clone_at ad x.length cap (x.map fun b => (b.toNat : Int)) w (by simp) (by omega) hc).mono ?_
    rintro e w' ⟨v', he, ho, _, hb⟩
    refine ⟨v', he, ?_, hb⟩
    unfold Lib.byteCells
    rw [List.map_map] at ho
    exact ho
theorem load_str {w : World} {g k : Nat} {s : ByteArray} (h : w.cell? ⟨g, k, none⟩ = some (.string s)) : (Instr.loadAt 9 (.pointer (some ⟨g, k, none⟩))).run Tryz.prog w = .ok (.string s) w := by go_simp
theorem load_octets {w : World} {g k : Nat} {x : Option Addr} {l c : Nat} (h : w.cell? ⟨g, k, none⟩ = some (.slice x l c)) : (Instr.loadAt 25 (.pointer (some ⟨g, k, none⟩))).run Tryz.prog w = .ok (.slice x l c) w := by go_simp
theorem mcell_one (a b : ByteArray) (st : Int) (c : ByteArray) (mi : Int) {fw bw : Value} (hf : Sl fw) (hb : Sl bw) : (#[.string a, .string b, .int .i64 st, .string c, .int .i64 mi, fw, bw] : Array Value).all (·.oneCell') = true := by
  obtain ⟨x2, l2, c2, rfl⟩ := hf
  obtain ⟨x3, l3, c3, rfl⟩ := hb
  simp [Value.oneCell']
structure OwnM (w W : World) (gM : Nat) (mc : Array Value) : Prop where
  msg : W.heap[gM]? = some (.cells mc 27 (0, 0))
  below : Below w.heap.size w W
theorem OwnM.later {w W W' : World} {gM : Nat} {mc : Array Value} (h : OwnM w W gM mc) (hb : Below W.heap.size W W') : OwnM w W' gM mc := ⟨blk_keep h.msg hb, h.below.trans (hb.mono h.below.size)⟩
theorem OwnM.row {w W : World} {gM : Nat} {mc : Array Value} (h : OwnM w W gM mc) {b : Nat} (hb : w.heap.size ≤ b) (h1 : gM ≠ b) (cs : Array Value) : OwnM w (W.setRow b cs) gM mc := ⟨heap_row h.msg h1 cs, Below.row h.below hb cs⟩
set_option maxHeartbeats 3200000 in
set_option maxRecDepth 100000 in
theorem withFields_w (a b c : ByteArray) (st mi : Int) (fv bv fw : Value) (x : List UInt8) (w : World) (sfv : Sl fv) (hB : BOk w bv x) (hx : x.length ≤ 1000) (sf : Sl fw) (ha : a.size ≤ 281474976710656) (hb : b.size ≤ 281474976710656) (hc : c.size ≤ 281474976710656) :
    Calls Tryz.prog 48 #[mv a b st c mi fv bv, fw] w fun e w' => (∃ bw, e = .returned (mv a b st c mi fw bw) ∧ BOk w' bw x) ∧ Below w.heap.size w w' := by
  obtain ⟨x0, l0, c0, rfl⟩ := sfv
  obtain ⟨x1, l1, c1, rfl⟩ := sf
  have sfw : Sl (.slice x1 l1 c1) := ⟨_, _, _, rfl⟩
  obtain ⟨ba, bc, hbv, hb9⟩ := id hB.1
  rw [hbv] at hB ⊢
  clear hb9 hbv
  have cA := fun W' => Clone_big a W' ha
  have cB := fun W' => Clone_big b W' hb
  have cC := fun W' => Clone_big c W' hc
  have cD := Lib.hid (fun W' (hb : Below w.heap.size w W') => bytesClone_w _ x W' (hB.later hb) hx)
  generalize hbl : x.length = bl at *
  clear hbl hB ha hb hc
  obtain ⟨W, hW⟩ : ∃ W, W = (w.alloc (.cells #[.string a, .string b, .int .i64 st, .string c, .int .i64 mi, .slice x0 l0 c0, .slice ba bl bc] 27)).alloc (.cells #[.string ⟨#[]⟩, .string ⟨#[]⟩, .int .i64 0, .string ⟨#[]⟩, .int .i64 0, .slice none 0 0, .slice none 0 0] 27) := ⟨_, rfl⟩
  have hbw : Below w.heap.size w W := by rw [hW]; exact ((Below.refl _ w).alloc (Nat.le_refl _) _).alloc (by simp) _
  have h3 := pair_at w (.cells #[.string a, .string b, .int .i64 st, .string c, .int .i64 mi, .slice x0 l0 c0, .slice ba bl bc] 27) (.cells #[.string ⟨#[]⟩, .string ⟨#[]⟩, .int .i64 0, .string ⟨#[]⟩, .int .i64 0, .slice none 0 0, .slice none 0 0] 27)
  rw [← hW] at h3
  have hO : OwnM w W w.heap.size #[.string a, .string b, .int .i64 st, .string c, .int .i64 mi, .slice x0 l0 c0, .slice ba bl bc] := ⟨h3.1, hbw⟩
  have hZ := h3.2
  have geR : w.heap.size ≤ w.heap.size + 1 := by omega
  have neR : w.heap.size ≠ w.heap.size + 1 := by omega
  clear h3 hbw
  unfold mv mcell
  go_enter Tryz.func48, Tryz.ntmps48
  go_upto_region 1 with fail
  rw [← hW]
  clear hW
  generalize w.heap.size + 1 = gR at *
  obtain ⟨gM, hgM⟩ : ∃ gM, gM = w.heap.size := ⟨_, rfl⟩
  rw [← hgM] at hO neR ⊢
  have HGM := Lib.hid hgM
  clear hgM
  have OV0 := hO.later ((Below.refl _ W).drew)
  have ZV0 := blk_keep hZ ((Below.refl _ W).drew)
  refine wp_region_noPanic ?_
  refine wp_region_held (S := fun W' => OwnM w W' gM #[.string a, .string b, .int .i64 st, .string c, .int .i64 mi, .slice x0 l0 c0, .slice ba bl bc]) (by kernel_rfl) ?_
  change wpAnyH _ _ _ _ _ _ _ _ W.drew
  generalize W.drew = V0 at *
  clear hO hZ W
  refine held_of_takes (fuel := 7) (by kernel_rfl) (fun _ _ _ _ _ h => h) OV0 [0, 1, 2, 4, 5, 6, 8, 9, 10, 11, 12, 13, 15, 16, 17, 19, 20, 21] _ _ (by kernel_rfl) ?_
  refine Takes.val (.pointer (some ⟨gM, 0, none⟩)) rfl rfl (fun _ _ => by kernel_rfl) ?_
  refine Takes.val (.pointer (some ⟨gM, 0, none⟩)) rfl rfl (fun _ _ => by kernel_rfl) ?_
  refine Takes.val (.string a) rfl rfl (fun W' h => exec_load (s := 6) rfl (by kernel_rfl) (load_str (g := gM) (k := 0) (by rw [World.cell?, h.msg]; rfl))) ?_
  refine Takes.val (.pointer (some ⟨gM, 0, none⟩)) rfl rfl (fun _ _ => by kernel_rfl) ?_
  refine Takes.val (.pointer (some ⟨gM, 1, none⟩)) rfl rfl (fun _ _ => by kernel_rfl) ?_
  refine Takes.val (.string b) rfl rfl (fun W' h => exec_load (s := 10) rfl (by kernel_rfl) (load_str (g := gM) (k := 1) (by rw [World.cell?, h.msg]; rfl))) ?_
  refine Takes.val (.pointer (some ⟨gM, 0, none⟩)) rfl rfl (fun _ _ => by kernel_rfl) ?_
  refine Takes.val (.pointer (some ⟨gM, 2, none⟩)) rfl rfl (fun _ _ => by kernel_rfl) ?_
  refine Takes.val (.int .i64 st) rfl rfl (fun W' h => exec_load (s := 14) rfl (by kernel_rfl) (load_num (g := gM) (k := 2) (by rw [World.cell?, h.msg]; rfl))) ?_
  refine Takes.val (.pointer (some ⟨gM, 0, none⟩)) rfl rfl (fun _ _ => by kernel_rfl) ?_
  refine Takes.val (.pointer (some ⟨gM, 3, none⟩)) rfl rfl (fun _ _ => by kernel_rfl) ?_
  refine Takes.val (.string c) rfl rfl (fun W' h => exec_load (s := 17) rfl (by kernel_rfl) (load_str (g := gM) (k := 3) (by rw [World.cell?, h.msg]; rfl))) ?_
  refine Takes.val (.pointer (some ⟨gM, 0, none⟩)) rfl rfl (fun _ _ => by kernel_rfl) ?_
  refine Takes.val (.pointer (some ⟨gM, 4, none⟩)) rfl rfl (fun _ _ => by kernel_rfl) ?_
  refine Takes.val (.int .i64 mi) rfl rfl (fun W' h => exec_load (s := 21) rfl (by kernel_rfl) (load_num (g := gM) (k := 4) (by rw [World.cell?, h.msg]; rfl))) ?_
  refine Takes.val (.slice x1 l1 c1) rfl rfl (fun _ _ => by kernel_rfl) ?_
  refine Takes.val (.pointer (some ⟨gM, 6, none⟩)) rfl rfl (fun _ _ => by kernel_rfl) ?_
  refine Takes.val (.slice ba bl bc) rfl rfl (fun W' h => exec_load (s := 25) rfl (by kernel_rfl) (load_octets (g := gM) (k := 6) (by rw [World.cell?, h.msg]; rfl))) ?_
  refine wpAnyH_all (rs := [3]) (by kernel_rfl) (by simp) (fun i hi => ?_)
  obtain rfl := List.mem_singleton.1 hi
  refine wpOp_into (f := 61) (args := #[.string a]) rfl rfl (by kernel_rfl) ((cA V0).mono ?_)
  rintro e V1 ⟨rfl, hbV1⟩
  have OV1 := OV0.later hbV1
  have ZV1 := blk_keep ZV0 hbV1
  refine ⟨_, rfl, OV1, ?_⟩
  refine wpAnyH_all (rs := [7]) (by kernel_rfl) (by simp) (fun i hi => ?_)
  obtain rfl := List.mem_singleton.1 hi
  refine wpOp_into (f := 61) (args := #[.string b]) rfl rfl (by kernel_rfl) ((cB V1).mono ?_)
  rintro e V2 ⟨rfl, hbV2⟩
  have OV2 := OV1.later hbV2
  have ZV2 := blk_keep ZV1 hbV2
  refine ⟨_, rfl, OV2, ?_⟩
  refine wpAnyH_all (rs := [14]) (by kernel_rfl) (by simp) (fun i hi => ?_)
  obtain rfl := List.mem_singleton.1 hi
  refine wpOp_into (f := 61) (args := #[.string c]) rfl rfl (by kernel_rfl) ((cC V2).mono ?_)
  rintro e V3 ⟨rfl, hbV3⟩
  have OV3 := OV2.later hbV3
  have ZV3 := blk_keep ZV2 hbV3
  refine ⟨_, rfl, OV3, ?_⟩
  refine held_of_takes (fuel := 3) (by kernel_rfl) (fun _ _ _ _ _ h => h) OV3 [18] _ _ (by kernel_rfl) ?_
  refine Takes.val (.agg #[.string a, .string b, .int .i64 st, .string c, .int .i64 mi]) rfl rfl (fun _ _ => by kernel_rfl) ?_
  refine wpAnyH_all (rs := [22]) (by kernel_rfl) (by simp) (fun i hi => ?_)
  obtain rfl := List.mem_singleton.1 hi
  refine wpOp_into (f := 81) (args := #[.slice ba bl bc]) rfl rfl (by kernel_rfl) ((cD.out V3 OV3.below).mono ?_)
  rintro e V4 ⟨bw, rfl, hBw⟩
  have hbV4 := hBw.2
  have OV4 := OV3.later hbV4
  have ZV4 := blk_keep ZV3 hbV4
  refine ⟨_, rfl, OV4, ?_⟩
  obtain ⟨x3, c3, hbe, hb8⟩ := id (bok_of hBw).1
  clear hb8
  obtain ⟨l3, hl3⟩ : ∃ l3, l3 = x.length := ⟨_, rfl⟩
  rw [← hl3] at hbe
  subst hbe
  clear hl3
  have sbw : Sl (.slice x3 l3 c3) := ⟨_, _, _, rfl⟩
  refine held_of_takes (fuel := 1) (by kernel_rfl) (fun _ _ _ _ _ h => h) OV4 [23] _ _ (by kernel_rfl) ?_
  refine Takes.val (.agg #[.string a, .string b, .int .i64 st, .string c, .int .i64 mi, .slice x1 l1 c1, .slice x3 l3 c3]) rfl rfl (fun _ _ => by kernel_rfl) ?_
  have h1 : (#[.string a, .string b, .int .i64 st, .string c, .int .i64 mi, .slice x1 l1 c1, .slice x3 l3 c3] : Array Value).all (·.oneCell') = true := mcell_one _ _ _ _ _ sfw sbw
  have hinf : (Tryz.prog.info? 27).map (·.size) = some (#[.string a, .string b, .int .i64 st, .string c, .int .i64 mi, .slice x1 l1 c1, .slice x3 l3 c3] : Array Value).size := by kernel_rfl
  refine wpAnyH_all (rs := [24]) (by kernel_rfl) (by simp) (fun i hi => ?_)
  obtain rfl := List.mem_singleton.1 hi
  refine wpOp_known (.store 27 (.tmp 4) (.tmp 28)) none (by kernel_rfl) (fun o e1 e2 => wp_store_row 27 _ _ e1 gR #[.string a, .string b, .int .i64 st, .string c, .int .i64 mi, .slice x1 l1 c1, .slice x3 l3 c3] (by kernel_rfl) (by kernel_rfl) 27 #[.string ⟨#[]⟩, .string ⟨#[]⟩, .int .i64 0, .string ⟨#[]⟩, .int .i64 0, .slice none 0 0, .slice none 0 0] ZV4 hinf rfl h1 ?_)
  rw [e2]
  have HF := Lib.hid (setRow_heap V4 gR #[.string ⟨#[]⟩, .string ⟨#[]⟩, .int .i64 0, .string ⟨#[]⟩, .int .i64 0, .slice none 0 0, .slice none 0 0] #[.string a, .string b, .int .i64 st, .string c, .int .i64 mi, .slice x1 l1 c1, .slice x3 l3 c3] 27 (0, 0) ZV4)
  have HB := Lib.hid (Below.row OV4.below geR #[.string a, .string b, .int .i64 st, .string c, .int .i64 mi, .slice x1 l1 c1, .slice x3 l3 c3])
  refine ⟨OV4.row geR neR #[.string a, .string b, .int .i64 st, .string c, .int .i64 mi, .slice x1 l1 c1, .slice x3 l3 c3], ?_⟩
  refine wpAnyH_done (P := Tryz.prog) (by kernel_rfl) ?_ 0
  have HW := Lib.hid (row_aside hBw.1 ZV4 (by decide) #[.string a, .string b, .int .i64 st, .string c, .int .i64 mi, .slice x1 l1 c1, .slice x3 l3 c3])
  generalize V4.setRow gR #[.string a, .string b, .int .i64 st, .string c, .int .i64 mi, .slice x1 l1 c1, .slice x3 l3 c3] = VE at *
  refine NoPanic.normal ?_
  go_simp
  go_wp2_with fail
  (try simp only [Exit.inBlock, Exit.then])
  refine bodyPost_ret (v := .agg #[.string a, .string b, .int .i64 st, .string c, .int .i64 mi, .slice x1 l1 c1, .slice x3 l3 c3]) ?h1 ?h2 ?h3
  case h1 => exact results_cell_row rfl _ _ gR _ #[.string a, .string b, .int .i64 st, .string c, .int .i64 mi, .slice x1 l1 c1, .slice x3 l3 c3] (0, 0) _ rfl HF.out Tryz.underlying27 rfl hinf
  case h2 => rfl
  case h3 => exact ⟨⟨_, rfl, bok_row HW.out⟩, HB.out⟩
set_option maxHeartbeats 1600000 in
set_option maxRecDepth 100000 in
theorem hop_w (fv : Value) (fs : List Fld.F) (w : World) (hf : FIn w fv fs) (hs : Mid fs) :
    Calls Tryz.prog 51 #[fv] w fun e w' => ∃ v, e = .returned v ∧ SBuf w w' v (Oct.splitAll (Fld.get fs Rl.kConn) ++ Rl.hops) := by
  have cG := Get_w fv fs Rl.kConn w hf hs.small (by decide)
  have hg := hs.got Rl.kConn
  have cS := fun v W' (hv : SIn W' v (Fld.get fs Rl.kConn)) => Split_p v (Fld.get fs Rl.kConn) W' hv (by omega) (fun l hl => by have := hg.2 l hl; omega)
  have hgn := Oct.splitAll_len (Fld.get fs Rl.kConn) (fun l hl => by have := hg.2 l hl; omega)
  have hgn2 : (Oct.splitAll (Fld.get fs Rl.kConn)).length + Rl.hops.length ≤ 1000000000 := by rw [show Rl.hops.length = 9 from rfl]; omega
  rw [show str Rl.kConn = ⟨#[99, 111, 110, 110, 101, 99, 116, 105, 111, 110]⟩ from rfl] at cG
  generalize Oct.splitAll (Fld.get fs Rl.kConn) = NS at *
  generalize Fld.get fs Rl.kConn = gs at *
  obtain ⟨fa, fc, hfv, hx9⟩ := id hf
  clear hx9 hf hs hg hgn
  subst hfv
  generalize fs.length = fl at *
  go_enter Tryz.func51, Tryz.ntmps51
  go_wp2_with fail
  refine cG.mono ?_
  rintro e w1 ⟨v1, rfl, hB1⟩
  have cS1 := cS v1 w1 hB1.sin
  have hb1 := hB1.2
  obtain ⟨a1, e1, rfl, hx1⟩ := hB1.sin
  clear hx1 hB1 cS cG
  go_wp2_with fail
  refine cS1.mono ?_
  rintro e w2 ⟨v2, rfl, hB2⟩
  have hL := SBuf.lit_p w2 Rl.hops #[.string ⟨#[99, 111, 110, 110, 101, 99, 116, 105, 111, 110]⟩, .string ⟨#[107, 101, 101, 112, 45, 97, 108, 105, 118, 101]⟩, .string ⟨#[112, 114, 111, 120, 121, 45, 97, 117, 116, 104, 101, 110, 116, 105, 99, 97, 116, 101]⟩, .string ⟨#[112, 114, 111, 120, 121, 45, 97, 117, 116, 104, 111, 114, 105, 122, 97, 116, 105, 111, 110]⟩, .string ⟨#[112, 114, 111, 120, 121, 45, 99, 111, 110, 110, 101, 99, 116, 105, 111, 110]⟩, .string ⟨#[116, 101]⟩, .string ⟨#[116, 114, 97, 105, 108, 101, 114]⟩, .string ⟨#[116, 114, 97, 110, 115, 102, 101, 114, 45, 101, 110, 99, 111, 100, 105, 110, 103]⟩, .string ⟨#[117, 112, 103, 114, 97, 100, 101]⟩] rfl (by decide)
  have hB3 := hB2.after hL.2
  have hN := row_nilok hL.1
  have hI := hL.sin
  change SIn _ (.slice (some ⟨w2.heap.size, 0, none⟩) 9 9) _ at hI
  change NilOk (.slice (some ⟨w2.heap.size, 0, none⟩) 9 9) at hN
  obtain ⟨a2, e2, hv2, hx2⟩ := id hB2.sin
  clear hx2 hL hB2 cS1
  generalize hln : NS.length = n2 at *
  subst hv2
  go_wp2_with (at_builtin; refine appSs hB3 hI hN (by omega) rfl _ _ rfl rfl rfl ?_; intro v4 w4 hB4; obtain ⟨a4, e4, hv4, hx4⟩ := id hB4.sin; have HB4 := Lib.hid (hB4.from_ hb1); clear hx4 hB4; subst hv4)
  go_ret
  have HB5 := HB4.out
  rw [List.length_append, hln] at HB5
  exact ⟨_, rfl, HB5⟩
theorem split_few (ls : List (List UInt8)) (h : ∀ l ∈ ls, l.length ≤ 500) : (Oct.splitAll ls).length ≤ 501 * ls.length := by
  induction ls with
  | nil => simp [Oct.splitAll]
  | cons l ls ih =>
    have h1 := Oct.splitText_len l
    have h2 := h l (by simp)
    have h3 := ih (fun l' hl' => h l' (by simp [hl']))
    have e : Oct.splitAll (l :: ls) = Oct.splitText l ++ Oct.splitAll ls := by simp [Oct.splitAll]
    rw [e, List.length_append, List.length_cons]; omega
theorem pass_in (fs : List Fld.F) : Fld.drop fs (inSet (Oct.splitAll (Fld.get fs Rl.kConn) ++ Rl.hops)) = Rl.pass fs := by
  unfold Rl.pass
  rw [Fld.withoutAll_drop]
  unfold Rl.gone
  congr 1
  funext l
  unfold inSet
  rw [List.map_append, List.map_append, List.contains_eq_any_beq, List.contains_eq_any_beq, List.any_append, List.any_append, Bool.or_comm]
theorem kept_in (fs : List Fld.F) : Fld.drop (Rl.pass fs) (inSet [Rl.kCL]) = Rl.kept fs := by
  unfold Rl.kept
  rw [Fld.without_drop]
  congr 1
  funext l
  unfold inSet
  rw [List.contains_eq_any_beq]; simp
theorem more_in (fs : List Fld.F) : Fld.drop (Rl.kept fs) (inSet Rl.four) = Rl.more fs := by
  unfold Rl.more
  rw [Fld.withoutAll_drop]
  rfl
theorem names_in (fs : List Fld.F) (ns : List (List UInt8)) : Fld.drop fs (inSet ns) = Fld.withoutAll fs ns := by
  rw [Fld.withoutAll_drop]
  rfl
set_option maxHeartbeats 1600000 in
set_option maxRecDepth 100000 in
theorem Pass_b (fv : Value) (fs : List Fld.F) (w : World) (hf : FIn w fv fs) (hs : Mid fs) :
    Calls Tryz.prog 19 #[fv] w fun e w' => ∃ v, e = .returned v ∧ FBuf w w' v (Rl.pass fs) := by
  have cH := hop_w fv fs w hf hs
  have hg := hs.got Rl.kConn
  have hgl := Vr.piece_len (ls := Fld.get fs Rl.kConn) (m := 500) hg.2
  have hgn := split_few (Fld.get fs Rl.kConn) hg.2
  have cW := fun v W' (hb : Below w.heap.size w W') (hv : SIn W' v (Oct.splitAll (Fld.get fs Rl.kConn) ++ Rl.hops)) => Without_w fv v fs _ W' (hf.later hb) hs.small hv (by rw [List.length_append, show Rl.hops.length = 9 from rfl]; omega) (fun l hl => by
    rcases List.mem_append.1 hl with h | h
    · have := hgl l h; omega
    · have : ∀ q ∈ Rl.hops, q.length ≤ 500 := by decide
      have := this l h; omega)
  simp only [pass_in] at cW
  generalize Oct.splitAll (Fld.get fs Rl.kConn) ++ Rl.hops = NS at *
  generalize Rl.pass fs = P at *
  obtain ⟨fa, fc, hfv, hx9⟩ := id hf
  clear hx9 hf hs hg hgl hgn
  subst hfv
  generalize fs.length = fl at *
  go_enter Tryz.func19, Tryz.ntmps19
  go_wp2_with fail
  refine cH.mono ?_
  rintro e w1 ⟨v1, rfl, hB1⟩
  have cW1 := cW v1 w1 hB1.2 hB1.sin
  have hb1 := hB1.2
  obtain ⟨a1, e1, rfl, hx1⟩ := hB1.sin
  clear hx1 hB1 cW cH
  go_wp2_with fail
  refine cW1.mono ?_
  rintro e w2 ⟨v2, rfl, hB2⟩
  have HB2 := Lib.hid (hB2.from_ hb1)
  obtain ⟨a2, e2, rfl, hx2⟩ := hB2.fin
  clear hx2 hB2
  go_wp2_with fail
  go_ret
  exact ⟨_, rfl, HB2.out⟩
set_option maxHeartbeats 1600000 in
set_option maxRecDepth 100000 in
theorem lasting_w (fv : Value) (fs : List Fld.F) (w : World) (hf : FIn w fv fs) (hs : Mid fs) :
    Calls Tryz.prog 49 #[fv] w fun e w' => ∃ v, e = .returned v ∧ FBuf w w' v (Rl.kept fs) := by
  have cP := Pass_b fv fs w hf hs
  have hp := hs.pass
  have cW := fun v u W' (hf : FIn W' v (Rl.pass fs)) (hv : SIn W' u [Rl.kCL]) => Without_w v u _ _ W' hf hp.small hv (by decide) (by decide)
  simp only [kept_in] at cW
  have hpl := hp.1
  generalize Rl.pass fs = P at *
  generalize Rl.kept fs = K at *
  obtain ⟨fa, fc, hfv, hx9⟩ := id hf
  clear hx9 hf hs hp
  subst hfv
  generalize fs.length = fl at *
  go_enter Tryz.func49, Tryz.ntmps49
  go_wp2_with fail
  refine cP.mono ?_
  rintro e w1 ⟨v1, rfl, hB1⟩
  have hL := SBuf.lit_p w1 [Rl.kCL] #[.string ⟨#[99, 111, 110, 116, 101, 110, 116, 45, 108, 101, 110, 103, 116, 104]⟩] rfl (by decide)
  have cW1 := cW v1 _ _ (hB1.after hL.2).fin hL.sin
  change Calls _ _ #[_, .slice (some ⟨w1.heap.size, 0, none⟩) 1 1] _ _ at cW1
  have hb2 := hB1.2.trans (hL.2.mono hB1.2.size)
  obtain ⟨a1, e1, rfl, hx1⟩ := hB1.fin
  clear hx1 hB1 cW cP hL
  generalize P.length = pl at *
  go_wp2_with fail
  refine cW1.mono ?_
  rintro e w2 ⟨v2, rfl, hB2⟩
  have HB2 := Lib.hid (hB2.from_ hb2)
  obtain ⟨a2, e2, rfl, hx2⟩ := hB2.fin
  clear hx2 hB2
  go_wp2_with fail
  go_ret
  exact ⟨_, rfl, HB2.out⟩
set_option maxHeartbeats 3200000 in
set_option maxRecDepth 100000 in
theorem Kept_w (a b c : ByteArray) (st mi : Int) (fv bv : Value) (fs : List Fld.F) (x : List UInt8) (w : World) (hf : FIn w fv fs) (hB : BOk w bv x) (hs : Mid fs) (hx : x.length ≤ 1000) (ha : a.size ≤ 281474976710656) (hb' : b.size ≤ 281474976710656) (hc : c.size ≤ 281474976710656) :
    Calls Tryz.prog 18 #[mv a b st c mi fv bv] w fun e w' => (∃ fw bw, e = .returned (mv a b st c mi fw bw) ∧ FIn w' fw (Rl.kept fs) ∧ BOk w' bw x) ∧ Below w.heap.size w w' := by
  obtain ⟨fa, fc, hfv, hx9⟩ := id hf
  obtain ⟨ba, bc, hbv, hx8⟩ := id hB.1
  clear hx9 hx8
  rw [hfv] at hf ⊢
  rw [hbv] at hB ⊢
  clear hfv hbv
  have cL := Lib.hid (fun W' (hb : Below w.heap.size w W') => lasting_w (.slice fa fs.length fc) fs W' (hf.later hb) hs)
  have cF := Lib.hid (fun v W' (hb : Below w.heap.size w W') (sv : Sl v) => withFields_w a b c st mi (.slice fa fs.length fc) (.slice ba x.length bc) v x W' ⟨_, _, _, rfl⟩ (hB.later hb) hx sv ha hb' hc)
  unfold mv mcell at cF
  clear hf hs hB hx ha hb' hc
  generalize fs.length = fl at *
  generalize hbl : x.length = bl at *
  clear hbl
  obtain ⟨W, hW⟩ : ∃ W, W = (w.alloc (.cells #[.string a, .string b, .int .i64 st, .string c, .int .i64 mi, .slice fa fl fc, .slice ba bl bc] 27)).alloc (.cells #[.string ⟨#[]⟩, .string ⟨#[]⟩, .int .i64 0, .string ⟨#[]⟩, .int .i64 0, .slice none 0 0, .slice none 0 0] 27) := ⟨_, rfl⟩
  have hbw : Below w.heap.size w W := by rw [hW]; exact ((Below.refl _ w).alloc (Nat.le_refl _) _).alloc (by simp) _
  have h3 := pair_at w (.cells #[.string a, .string b, .int .i64 st, .string c, .int .i64 mi, .slice fa fl fc, .slice ba bl bc] 27) (.cells #[.string ⟨#[]⟩, .string ⟨#[]⟩, .int .i64 0, .string ⟨#[]⟩, .int .i64 0, .slice none 0 0, .slice none 0 0] 27)
  rw [← hW] at h3
  have hO : OwnM w W w.heap.size #[.string a, .string b, .int .i64 st, .string c, .int .i64 mi, .slice fa fl fc, .slice ba bl bc] := ⟨h3.1, hbw⟩
  have hZ := h3.2
  have geR : w.heap.size ≤ w.heap.size + 1 := by omega
  have neR : w.heap.size ≠ w.heap.size + 1 := by omega
  clear h3 hbw
  unfold mv mcell
  go_enter Tryz.func18, Tryz.ntmps18
  go_upto_region 1 with fail
  rw [← hW]
  clear hW
  generalize w.heap.size + 1 = gR at *
  obtain ⟨gM, hgM⟩ : ∃ gM, gM = w.heap.size := ⟨_, rfl⟩
  rw [← hgM] at hO neR ⊢
  have HGM := Lib.hid hgM
  clear hgM
  have OV0 := hO.later ((Below.refl _ W).drew)
  have ZV0 := blk_keep hZ ((Below.refl _ W).drew)
  refine wp_region_noPanic ?_
  refine wp_region_held (S := fun W' => OwnM w W' gM #[.string a, .string b, .int .i64 st, .string c, .int .i64 mi, .slice fa fl fc, .slice ba bl bc]) (by kernel_rfl) ?_
  change wpAnyH _ _ _ _ _ _ _ _ W.drew
  generalize W.drew = V0 at *
  clear hO hZ W
  refine held_of_takes (fuel := 3) (by kernel_rfl) (fun _ _ _ _ _ h => h) OV0 [0, 1, 2] _ _ (by kernel_rfl) ?_
  refine Takes.val (.agg #[.string a, .string b, .int .i64 st, .string c, .int .i64 mi, .slice fa fl fc, .slice ba bl bc]) rfl rfl (fun W' h => exec_row rfl gM rfl 27 _ (0, 0) _ h.msg Tryz.underlying27 rfl (by kernel_rfl)) ?_
  refine Takes.val (.pointer (some ⟨gM, 5, none⟩)) rfl rfl (fun _ _ => by kernel_rfl) ?_
  refine Takes.val (.slice fa fl fc) rfl rfl (fun W' h => exec_load (s := 4) rfl (by kernel_rfl) (load_fields (g := gM) (k := 5) (by rw [World.cell?, h.msg]; rfl))) ?_
  refine wpAnyH_all (rs := [3]) (by kernel_rfl) (by simp) (fun i hi => ?_)
  obtain rfl := List.mem_singleton.1 hi
  refine wpOp_into (f := 49) (args := #[.slice fa fl fc]) rfl rfl (by kernel_rfl) ((cL.out V0 OV0.below).mono ?_)
  rintro e V1 ⟨fw, rfl, hBf⟩
  have hbV1 := hBf.2
  have OV1 := OV0.later hbV1
  have ZV1 := blk_keep ZV0 hbV1
  refine ⟨_, rfl, OV1, ?_⟩
  have sfw : Sl fw := by
    obtain ⟨p, q, hp, _⟩ := hBf.fin
    exact ⟨p, _, q, hp⟩
  have ltR := lt_of_block ZV0
  refine wpAnyH_all (rs := [4]) (by kernel_rfl) (by simp) (fun i hi => ?_)
  obtain rfl := List.mem_singleton.1 hi
  refine wpOp_into (f := 48) (args := #[.agg #[.string a, .string b, .int .i64 st, .string c, .int .i64 mi, .slice fa fl fc, .slice ba bl bc], fw]) rfl rfl (by kernel_rfl) ((cF.out fw V1 OV1.below sfw).mono ?_)
  rintro e V2 ⟨⟨bw, rfl, hBw⟩, hbV2⟩
  have OV2 := OV1.later hbV2
  have ZV2 := blk_keep ZV1 hbV2
  refine ⟨_, rfl, OV2, ?_⟩
  have sbw : Sl bw := by
    obtain ⟨p, q, hp, _⟩ := hBw.1
    exact ⟨p, _, q, hp⟩
  have hBf2 := hBf.after hbV2
  have h1 : (#[.string a, .string b, .int .i64 st, .string c, .int .i64 mi, fw, bw] : Array Value).all (·.oneCell') = true := mcell_one _ _ _ _ _ sfw sbw
  have hinf : (Tryz.prog.info? 27).map (·.size) = some (#[.string a, .string b, .int .i64 st, .string c, .int .i64 mi, fw, bw] : Array Value).size := by kernel_rfl
  refine wpAnyH_all (rs := [5]) (by kernel_rfl) (by simp) (fun i hi => ?_)
  obtain rfl := List.mem_singleton.1 hi
  refine wpOp_known (.store 27 (.tmp 2) (.tmp 7)) none (by kernel_rfl) (fun o e1 e2 => wp_store_row 27 _ _ e1 gR #[.string a, .string b, .int .i64 st, .string c, .int .i64 mi, fw, bw] (by kernel_rfl) (by kernel_rfl) 27 #[.string ⟨#[]⟩, .string ⟨#[]⟩, .int .i64 0, .string ⟨#[]⟩, .int .i64 0, .slice none 0 0, .slice none 0 0] ZV2 hinf rfl h1 ?_)
  rw [e2]
  have HF := Lib.hid (setRow_heap V2 gR #[.string ⟨#[]⟩, .string ⟨#[]⟩, .int .i64 0, .string ⟨#[]⟩, .int .i64 0, .slice none 0 0, .slice none 0 0] #[.string a, .string b, .int .i64 st, .string c, .int .i64 mi, fw, bw] 27 (0, 0) ZV2)
  have HB := Lib.hid (Below.row OV2.below geR #[.string a, .string b, .int .i64 st, .string c, .int .i64 mi, fw, bw])
  refine ⟨OV2.row geR neR #[.string a, .string b, .int .i64 st, .string c, .int .i64 mi, fw, bw], ?_⟩
  refine wpAnyH_done (P := Tryz.prog) (by kernel_rfl) ?_ 0
  have HW := Lib.hid (row_aside hBf2.1 ZV2 (by decide) #[.string a, .string b, .int .i64 st, .string c, .int .i64 mi, fw, bw])
  have HV := Lib.hid (bok_aside hBw ZV2 #[.string a, .string b, .int .i64 st, .string c, .int .i64 mi, fw, bw])
  generalize V2.setRow gR #[.string a, .string b, .int .i64 st, .string c, .int .i64 mi, fw, bw] = VE at *
  refine NoPanic.normal ?_
  go_simp
  go_wp2_with fail
  (try simp only [Exit.inBlock, Exit.then])
  refine bodyPost_ret (v := .agg #[.string a, .string b, .int .i64 st, .string c, .int .i64 mi, fw, bw]) ?h1 ?h2 ?h3
  case h1 => exact results_cell_row rfl _ _ gR _ #[.string a, .string b, .int .i64 st, .string c, .int .i64 mi, fw, bw] (0, 0) _ rfl HF.out Tryz.underlying27 rfl hinf
  case h2 => rfl
  case h3 => exact ⟨⟨_, _, rfl, FIn.of_row HW.out, HV.out⟩, HB.out⟩
end Go.Proofs.YtoanelobggledaaGreatDoor

namespace Go.Proofs.YtoanelobggledaaGreatDoor
open Go.RowKit

theorem cells7_p {w : World} {g : Nat} {a b c d e f h : Value} {t : TypeId} (hh : w.heap[g]? = some (.cells #[a, b, c, d, e, f, h] t (0, 0))) :
    w.cell? ⟨g, 0, none⟩ = some a ∧ w.cell? ⟨g, 1, none⟩ = some b ∧ w.cell? ⟨g, 2, none⟩ = some c ∧ w.cell? ⟨g, 3, none⟩ = some d ∧ w.cell? ⟨g, 4, none⟩ = some e ∧ w.cell? ⟨g, 5, none⟩ = some f ∧ w.cell? ⟨g, 6, none⟩ = some h := by
  simp [World.cell?, hh]
theorem set2_p {w : World} {g : Nat} {a b : Value} {t : TypeId} (hh : w.heap[g]? = some (.cells #[a, b] t (0, 0))) : w.cell? ⟨g, 0, none⟩ = some a := by
  simp [World.cell?, hh]
set_option maxHeartbeats 6400000 in
set_option maxRecDepth 100000 in
theorem Update_w (a b c a' b' c' : ByteArray) (st mi st' mi' : Int) (fv bv fv' bv' : Value) (fs fs' : List Fld.F) (x : List UInt8) (w : World) (hf : FIn w fv fs) (hB : BOk w bv x) (hs : Mid fs) (hx : x.length ≤ 1000) (hf' : FIn w fv' fs') (sb' : Sl bv') (hs' : Mid fs') (ha : a.size ≤ 281474976710656) (hb' : b.size ≤ 281474976710656) (hc : c.size ≤ 281474976710656) :
    Calls Tryz.prog 26 #[mv a b st c mi fv bv, mv a' b' st' c' mi' fv' bv'] w fun e w' => (∃ fw bw, e = .returned (mv a b st c mi fw bw) ∧ FIn w' fw (Rl.update fs fs') ∧ BOk w' bw x) ∧ Below w.heap.size w w' := by
  obtain ⟨fa, fc, hfv, hx9⟩ := id hf
  obtain ⟨ba, bc, hbv, hx8⟩ := id hB.1
  obtain ⟨fa', fc', hfv', hx7⟩ := id hf'
  obtain ⟨ba', bl', bc', rfl⟩ := sb'
  clear hx9 hx8 hx7
  rw [hfv] at hf ⊢
  rw [hbv] at hB ⊢
  rw [hfv'] at hf' ⊢
  clear hfv hbv hfv'
  have hk := hs'.kept
  have cL := fun W' (hb : Below w.heap.size w W') => lasting_w (.slice fa' fs'.length fc') fs' W' (hf'.later hb) hs'
  have cW := fun v u W' (hf : FIn W' v (Rl.kept fs')) (hv : SIn W' u Rl.four) => Without_w v u _ _ W' hf hk.small hv (by decide) (by decide)
  simp only [more_in] at cW
  have hmm : Mid (Rl.more fs') := by rw [← more_in]; exact hk.drop _
  have HU : Hid (Rl.update fs fs' = Fld.withoutAll fs ((Rl.more fs').map (·.1)) ++ Rl.more fs') := Lib.hid rfl
  rw [HU.out]
  generalize Rl.more fs' = M at *
  generalize Rl.kept fs' = K at *
  have cV := Lib.hid (fun u W' (hb : Below w.heap.size w W') (hu : SIn W' u (M.map (·.1))) => Without_w (.slice fa fs.length fc) u fs _ W' (hf.later hb) hs.small hu (by rw [List.length_map]; have := hmm.1; omega) (fun l hl => by
    obtain ⟨f, hf, rfl⟩ := List.mem_map.1 hl
    have := (hmm.2 f hf).1; omega))
  simp only [names_in] at cV
  have cF := Lib.hid (fun v W' (hb : Below w.heap.size w W') (sv : Sl v) => withFields_w a b c st mi (.slice fa fs.length fc) (.slice ba x.length bc) v x W' ⟨_, _, _, rfl⟩ (hB.later hb) hx sv ha hb' hc)
  unfold mv mcell at cF
  have hOl := Fld.withoutAll_length (M.map (·.1)) fs
  have hml := hmm.1
  have hsl := hs.1
  have hlen : (Fld.withoutAll fs (M.map (·.1))).length + M.length ≤ 1000000000 := by omega
  have HMZ := Lib.hid hmm.2
  generalize Fld.withoutAll fs (M.map (·.1)) = OUT at *
  clear hf hs hB hx ha hb' hc hk hmm HU hf' hs' hOl hsl
  generalize fs.length = fl at *
  generalize fs'.length = fl' at *
  generalize hbl : x.length = bl at *
  clear hbl
  have h4 := three_at w (.cells #[.string a, .string b, .int .i64 st, .string c, .int .i64 mi, .slice fa fl fc, .slice ba bl bc] 27) (.cells #[.string a', .string b', .int .i64 st', .string c', .int .i64 mi', .slice fa' fl' fc', .slice ba' bl' bc'] 27) (.cells #[.string ⟨#[]⟩, .string ⟨#[]⟩, .int .i64 0, .string ⟨#[]⟩, .int .i64 0, .slice none 0 0, .slice none 0 0] 27)
  obtain ⟨W, hW⟩ : ∃ W, W = ((w.alloc (.cells #[.string a, .string b, .int .i64 st, .string c, .int .i64 mi, .slice fa fl fc, .slice ba bl bc] 27)).alloc (.cells #[.string a', .string b', .int .i64 st', .string c', .int .i64 mi', .slice fa' fl' fc', .slice ba' bl' bc'] 27)).alloc (.cells #[.string ⟨#[]⟩, .string ⟨#[]⟩, .int .i64 0, .string ⟨#[]⟩, .int .i64 0, .slice none 0 0, .slice none 0 0] 27) := ⟨_, rfl⟩
  have hbw : Below w.heap.size w W := by rw [hW]; exact (((Below.refl _ w).alloc (Nat.le_refl _) _).alloc (by simp) _).alloc (by simp; omega) _
  rw [← hW] at h4
  have hO : OwnM w W w.heap.size #[.string a, .string b, .int .i64 st, .string c, .int .i64 mi, .slice fa fl fc, .slice ba bl bc] := ⟨h4.1, hbw⟩
  have hZ := h4.2.2
  have hr2 := h4.2.1
  have geR : w.heap.size ≤ w.heap.size + 1 + 1 := by omega
  have neR : w.heap.size ≠ w.heap.size + 1 + 1 := by omega
  have cL1 := cL W hbw
  clear h4 hbw cL
  unfold mv mcell
  go_enter Tryz.func26, Tryz.ntmps26
  go_upto_region 1 with fail
  rw [← hW]
  clear hW
  generalize w.heap.size + 1 + 1 = gR at *
  generalize w.heap.size + 1 = gB at *
  obtain ⟨gM, hgM⟩ : ∃ gM, gM = w.heap.size := ⟨_, rfl⟩
  rw [← hgM] at hO neR ⊢
  have HGM := Lib.hid hgM
  clear hgM
  obtain ⟨m0, m1, m2, m3, m4, m5, m6⟩ := cells7_p hr2
  go_wp2_with fail
  refine cL1.mono ?_
  rintro e w1 ⟨v1, rfl, hB1⟩
  have hL := SBuf.lit_p w1 Rl.four #[.string ⟨#[99, 111, 110, 116, 101, 110, 116, 45, 101, 110, 99, 111, 100, 105, 110, 103]⟩, .string ⟨#[99, 111, 110, 116, 101, 110, 116, 45, 114, 97, 110, 103, 101]⟩, .string ⟨#[99, 111, 110, 116, 101, 110, 116, 45, 116, 121, 112, 101]⟩, .string ⟨#[101, 116, 97, 103]⟩] rfl (by decide)
  have cW1 := cW v1 _ _ (hB1.after hL.2).fin hL.sin
  change Calls _ _ #[_, .slice (some ⟨w1.heap.size, 0, none⟩) 4 4] _ _ at cW1
  have hx2 := hB1.2.trans (hL.2.mono hB1.2.size)
  have hO2 := hO.later hx2
  have hZ2 := blk_keep hZ hx2
  clear hL cW cL1 m0 m1 m2 m3 m4 m5 m6 hr2 hO hZ hx2
  obtain ⟨a1, e1, rfl, hx1⟩ := hB1.fin
  clear hx1 hB1
  generalize K.length = kl at *
  go_wp2_with fail
  refine cW1.mono ?_
  rintro e w2 ⟨v2, rfl, hB2⟩
  have hO3 := hO2.later hB2.2
  have hZ3 := blk_keep hZ2 hB2.2
  have hnil := row_nilok hB2.1
  have HFM := Lib.hid hB2.fin
  obtain ⟨ma, mc, hma, hmx⟩ := id hB2.fin
  have HMX := Lib.hid hmx
  subst hma
  obtain ⟨n, hnn⟩ : ∃ n, n = M.length := ⟨_, rfl⟩
  have HNN := Lib.hid hnn
  have hn9 : n ≤ 100 := by omega
  clear hB2 cW1 hO2 hZ2 hmx
  rw [← hnn] at hnil HFM hml hlen ⊢
  have hE := SBuf.nil w2
  have HO3 := Lib.hid hO3
  have HZ3 := Lib.hid hZ3
  have HGE := Lib.hid geR
  have HNE := Lib.hid neR
  have HLE := Lib.hid hlen
  have HNI := Lib.hid hnil
  clear hnn hO3 hZ3 geR neR hlen hnil hml
  go_wp2_with fail
  go_loopw [6, 16] (fun v i wr => ∃ k : Nat, k ≤ n ∧ i = .int .i64 k ∧ Hid (SBuf w2 wr v ((M.map (·.1)).take k))) (fun _ i _ => n - (intOf i).toNat)
  case atStart => exact ⟨0, by omega, rfl, Lib.hid hE⟩
  case round =>
    clear hE
    obtain ⟨k, hk9, rfl, HV⟩ := hrel
    have hbr := HV.out.2
    by_cases hlt : k < n
    · have hkl : k < M.length := by have := HNN.out; omega
      have hkm : k < (M.map (·.1)).length := by rw [List.length_map]; exact hkl
      obtain ⟨b', o', rfl, hbl, hcell⟩ : ∃ b o, ma = some ⟨b, o, none⟩ ∧ b < w2.heap.size ∧ (w2.cell? ⟨b, o + k * 2, none⟩ = some (.string (str M[k].1)) ∧ w2.cell? ⟨b, o + k * 2 + 1, none⟩ = some (.string (str M[k].2))) := by
        rcases HMX.out with h | ⟨b, o, h4, h5, h6⟩
        · exfalso; rw [h] at hkl; cases hkl
        · exact ⟨b, o, h4, h5, h6 k hkl⟩
      have c0 := (hbr.cell (p := ⟨b', o' + k * 2, none⟩) hbl).trans hcell.1
      have c1 := (hbr.cell (p := ⟨b', o' + k * 2 + 1, none⟩) hbl).trans hcell.2
      have HTK : Hid ((M.map (·.1)).take (k + 1) = (M.map (·.1)).take k ++ [M[k].1]) := Lib.hid (by rw [List.take_succ_eq_append_getElem hkm]; simp)
      have hS := HV.out.after ((Below.refl _ wr).alloc (Nat.le_refl _) (.cells #[.string (str M[k].1), .string (str M[k].2)] 53))
      generalize hm1 : M[k].1 = q1 at *
      generalize hm2 : str M[k].2 = q2 at *
      clear hm1 hm2 hcell hbr hbl hkl hkm
      obtain ⟨va, vc, hva, hx9⟩ := id HV.out.sin
      clear hx9
      rw [hva] at hS ⊢
      generalize ((M.map (·.1)).take k).length = vl at *
      clear hva HV
      have d0 := set2_p (heap_alloc_new wr (.cells #[.string (str q1), .string q2] 53))
      go_upto_region 6 with fail
      change Code.wp _ _ _ _ (wr.alloc (.cells #[.string (str q1), .string q2] 53))
      generalize wr.alloc (.cells #[.string (str q1), .string q2] 53) = wx at *
      generalize wr.heap.size = gx at *
      clear c0 c1
      go_wp2_with (at_builtin; refine appS2 hS q1 (by rw [List.length_take]; omega) rfl _ _ rfl _ rfl rfl rfl ?_; intro v9 w9 hB9 hK9; rw [← HTK.out] at hB9; have HB9 := Lib.hid hB9; clear hB9 hK9)
      go_roundw
      case rel => exact ⟨k + 1, by omega, by go_num, HB9⟩
      case measure => simp [intOf]; omega
    · have hE : (M.map (·.1)).take k = M.map (·.1) := List.take_of_length_le (by rw [List.length_map]; have := HNN.out; omega)
      have hV := HV.out
      rw [hE] at hV
      clear hE HV hbr
      obtain ⟨w3, hw3⟩ : ∃ w3, w3 = wr := ⟨_, rfl⟩
      rw [← hw3] at hV ⊢
      have hO := HO3.out.later hV.2
      have hZ := blk_keep HZ3.out hV.2
      have hFM := HFM.out.later hV.2
      have geR := HGE.out
      have neR := HNE.out
      have hlen := HLE.out
      have hnil := HNI.out
      obtain ⟨va, vc, hva, hx9⟩ := id hV.sin
      obtain ⟨vl, hvl⟩ : ∃ vl, vl = (M.map (·.1)).length := ⟨_, rfl⟩
      rw [← hvl] at hva
      have hVI := hV.sin
      subst hva
      clear hx9 hvl hw3 hV HO3 HZ3 HFM HGE HNE HLE HNI HMX
      go_upto_region 8 with fail
      obtain ⟨W, hW⟩ : ∃ W, W = w3 := ⟨_, rfl⟩
      rw [← hW] at hO hZ hFM hVI ⊢
      have HVI := Lib.hid (fun W' (hb : Below W.heap.size W W') => hVI.later hb)
      have HFM := Lib.hid (fun W' (hb : Below W.heap.size W W') => hFM.later hb)
      clear hW hVI hFM
      have dr : Below W.heap.size W W.drew := (Below.refl _ W).drew
      have hVI := HVI.out _ dr
      have hFM := HFM.out _ dr
      clear HVI HFM dr
      have OV0 := hO.later ((Below.refl _ W).drew)
      have ZV0 := blk_keep hZ ((Below.refl _ W).drew)
      refine wp_region_noPanic ?_
      refine wp_region_held (S := fun W' => OwnM w W' gM #[.string a, .string b, .int .i64 st, .string c, .int .i64 mi, .slice fa fl fc, .slice ba bl bc]) (by kernel_rfl) ?_
      change wpAnyH _ _ _ _ _ _ _ _ W.drew
      generalize W.drew = V0 at *
      clear hO hZ W
      refine held_of_takes (fuel := 4) (by kernel_rfl) (fun _ _ _ _ _ h => h) OV0 [0, 1, 2, 3, 5] _ _ (by kernel_rfl) ?_
      refine Takes.val (.agg #[.string a, .string b, .int .i64 st, .string c, .int .i64 mi, .slice fa fl fc, .slice ba bl bc]) rfl rfl (fun W' h => exec_row rfl gM rfl 27 _ (0, 0) _ h.msg Tryz.underlying27 rfl (by kernel_rfl)) ?_
      refine Takes.val (.pointer (some ⟨gM, 5, none⟩)) rfl rfl (fun _ _ => by kernel_rfl) ?_
      refine Takes.val (.slice fa fl fc) rfl rfl (fun W' h => exec_load (s := 27) rfl (by kernel_rfl) (load_fields (g := gM) (k := 5) (by rw [World.cell?, h.msg]; rfl))) ?_
      refine Takes.val (.slice va vl vc) rfl rfl (fun _ _ => by kernel_rfl) ?_
      refine Takes.val (.slice ma n mc) rfl rfl (fun _ _ => by kernel_rfl) ?_
      refine wpAnyH_all (rs := [4]) (by kernel_rfl) (by simp) (fun i hi => ?_)
      obtain rfl := List.mem_singleton.1 hi
      refine wpOp_into (f := 50) (args := #[.slice fa fl fc, .slice va vl vc]) rfl rfl (by kernel_rfl) ((cV.out _ V0 OV0.below hVI).mono ?_)
      rintro e V1 ⟨ov, rfl, hBo⟩
      have hbV1 := hBo.2
      have OV1 := OV0.later hbV1
      have ZV1 := blk_keep ZV0 hbV1
      refine ⟨_, rfl, OV1, ?_⟩
      have hF1 := hFM.later hbV1
      refine wpAnyH_all (rs := [6]) (by kernel_rfl) (by simp) (fun i hi => ?_)
      obtain rfl := List.mem_singleton.1 hi
      refine wpOp_plain rfl rfl (appFsO hBo hF1 hnil (by rw [← HNN.out]; exact hlen) _ _ rfl rfl rfl ?_)
      intro fw V2 hBf hgr
      have hbV2 := hBf.2
      have OV2 := OV0.later hbV2
      have ZV2 := blk_keep ZV0 hbV2
      refine ⟨OV2, ?_⟩
      have sfw : Sl fw := by
        obtain ⟨p, q, hp, _⟩ := hBf.fin
        exact ⟨p, _, q, hp⟩
      refine wpAnyH_all (rs := [7]) (by kernel_rfl) (by simp) (fun i hi => ?_)
      obtain rfl := List.mem_singleton.1 hi
      refine wpOp_into (f := 48) (args := #[.agg #[.string a, .string b, .int .i64 st, .string c, .int .i64 mi, .slice fa fl fc, .slice ba bl bc], fw]) rfl rfl (by kernel_rfl) ((cF.out fw V2 OV2.below sfw).mono ?_)
      rintro e V3 ⟨⟨bw, rfl, hBw⟩, hbV3⟩
      have OV3 := OV2.later hbV3
      have ZV3 := blk_keep ZV2 hbV3
      refine ⟨_, rfl, OV3, ?_⟩
      have sbw : Sl bw := by
        obtain ⟨p, q, hp, _⟩ := hBw.1
        exact ⟨p, _, q, hp⟩
      have hBf2 := hBf.after hbV3
      have h1 : (#[.string a, .string b, .int .i64 st, .string c, .int .i64 mi, fw, bw] : Array Value).all (·.oneCell') = true := mcell_one _ _ _ _ _ sfw sbw
      have hinf : (Tryz.prog.info? 27).map (·.size) = some (#[.string a, .string b, .int .i64 st, .string c, .int .i64 mi, fw, bw] : Array Value).size := by kernel_rfl
      refine wpAnyH_all (rs := [8]) (by kernel_rfl) (by simp) (fun i hi => ?_)
      obtain rfl := List.mem_singleton.1 hi
      refine wpOp_known (.store 27 (.tmp 4) (.tmp 33)) none (by kernel_rfl) (fun o e1 e2 => wp_store_row 27 _ _ e1 gR #[.string a, .string b, .int .i64 st, .string c, .int .i64 mi, fw, bw] (by kernel_rfl) (by kernel_rfl) 27 #[.string ⟨#[]⟩, .string ⟨#[]⟩, .int .i64 0, .string ⟨#[]⟩, .int .i64 0, .slice none 0 0, .slice none 0 0] ZV3 hinf rfl h1 ?_)
      rw [e2]
      have HF := Lib.hid (setRow_heap V3 gR #[.string ⟨#[]⟩, .string ⟨#[]⟩, .int .i64 0, .string ⟨#[]⟩, .int .i64 0, .slice none 0 0, .slice none 0 0] #[.string a, .string b, .int .i64 st, .string c, .int .i64 mi, fw, bw] 27 (0, 0) ZV3)
      have HB := Lib.hid (Below.row OV3.below geR #[.string a, .string b, .int .i64 st, .string c, .int .i64 mi, fw, bw])
      refine ⟨OV3.row geR neR #[.string a, .string b, .int .i64 st, .string c, .int .i64 mi, fw, bw], ?_⟩
      refine wpAnyH_done (P := Tryz.prog) (by kernel_rfl) ?_ 0
      have HW := Lib.hid (row_aside hBf2.1 ZV3 (by decide) #[.string a, .string b, .int .i64 st, .string c, .int .i64 mi, fw, bw])
      have HV := Lib.hid (bok_aside hBw ZV3 #[.string a, .string b, .int .i64 st, .string c, .int .i64 mi, fw, bw])
      generalize V3.setRow gR #[.string a, .string b, .int .i64 st, .string c, .int .i64 mi, fw, bw] = VE at *
      refine NoPanic.normal ?_
      go_simp
      go_wp2_with fail
      (try simp only [Exit.inBlock, Exit.then])
      refine bodyPost_ret (v := .agg #[.string a, .string b, .int .i64 st, .string c, .int .i64 mi, fw, bw]) ?h1 ?h2 ?h3
      case h1 => exact results_cell_row rfl _ _ gR _ #[.string a, .string b, .int .i64 st, .string c, .int .i64 mi, fw, bw] (0, 0) _ rfl HF.out Tryz.underlying27 rfl hinf
      case h2 => rfl
      case h3 => exact ⟨⟨_, _, rfl, FIn.of_row HW.out, HV.out⟩, HB.out⟩
end Go.Proofs.YtoanelobggledaaGreatDoor

