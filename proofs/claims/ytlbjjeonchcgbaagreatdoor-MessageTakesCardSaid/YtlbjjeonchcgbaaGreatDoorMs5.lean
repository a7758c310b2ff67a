/- The statements of layer 8: what the program's calls are to answer, in one pack; the document's example; MessageParses. -/
import Derived.Test.YtlbjjeonchcgbaaGreatDoorMs4
namespace Go.Proofs.YtlbjjeonchcgbaaGreatDoor
open Go.RowKit

/-- A message that isn't too great. -/
structure Sm (s : St.S) (fs : List Fld.F) (x m : List UInt8) : Prop where
  method : s.method.length ≤ 100
  target : s.target.length ≤ 2000
  reason : s.reason.length ≤ 500
  count : fs.length ≤ 140
  fields : ∀ f ∈ fs, f.1.length ≤ 200 ∧ f.2.length ≤ 500
  body : x.length ≤ 3000
  asked : m.length ≤ 100
  status : s.status ≤ 9223372036854775807
  minor : s.minor ≤ 9223372036854775807
/-- What the program's Parse answers, where the world is as Env says. -/
structure Read8 (Env : World → Prop) : Prop where
  later : ∀ {w w' : World}, Env w → Below w.heap.size w w' → Env w'
  parse_new : ∀ (v : Value) (l : List UInt8) (asks : Bool) (m : List UInt8) (w : World), l.length ≤ 500000 → m.length ≤ 100 → BIn w v l → NilOk v → Env w →
    Calls Tryz.prog 10 #[v, .bool asks, .string (str m)] w fun e w' => (∃ fa fc ba bc, e = .returned (.tuple #[.agg #[.string (str (Ms.parse l asks m).1.start.method), .string (str (Ms.parse l asks m).1.start.target), .int .i64 (Ms.parse l asks m).1.start.status, .string (str (Ms.parse l asks m).1.start.reason), .int .i64 (Ms.parse l asks m).1.start.minor, .slice fa (Ms.parse l asks m).1.fields.length fc, .slice ba (Ms.parse l asks m).1.body.length bc], .int .i64 (Ms.parse l asks m).2.1, .int .i64 (Ms.parse l asks m).2.2]) ∧
      FIn w' (.slice fa (Ms.parse l asks m).1.fields.length fc) (Ms.parse l asks m).1.fields ∧ BIn w' (.slice ba (Ms.parse l asks m).1.body.length bc) (Ms.parse l asks m).1.body ∧ NilOk (.slice ba (Ms.parse l asks m).1.body.length bc) ∧ ∀ ad n c, (Value.slice fa (Ms.parse l asks m).1.fields.length fc) = .slice (some ad) n c → w.heap.size ≤ ad.block) ∧ Below w.heap.size w w'
theorem Read8.parse {Env : World → Prop} (P : Read8 Env) : ∀ (v : Value) (l : List UInt8) (asks : Bool) (m : List UInt8) (w : World), l.length ≤ 500000 → m.length ≤ 100 → BIn w v l → NilOk v → Env w →
    Calls Tryz.prog 10 #[v, .bool asks, .string (str m)] w fun e w' => (∃ fa fc ba bc, e = .returned (.tuple #[.agg #[.string (str (Ms.parse l asks m).1.start.method), .string (str (Ms.parse l asks m).1.start.target), .int .i64 (Ms.parse l asks m).1.start.status, .string (str (Ms.parse l asks m).1.start.reason), .int .i64 (Ms.parse l asks m).1.start.minor, .slice fa (Ms.parse l asks m).1.fields.length fc, .slice ba (Ms.parse l asks m).1.body.length bc], .int .i64 (Ms.parse l asks m).2.1, .int .i64 (Ms.parse l asks m).2.2]) ∧
      FIn w' (.slice fa (Ms.parse l asks m).1.fields.length fc) (Ms.parse l asks m).1.fields ∧ BIn w' (.slice ba (Ms.parse l asks m).1.body.length bc) (Ms.parse l asks m).1.body ∧ NilOk (.slice ba (Ms.parse l asks m).1.body.length bc)) ∧ Below w.heap.size w w' := fun v l asks m w h1 h2 h3 h4 h5 =>
  (P.parse_new v l asks m w h1 h2 h3 h4 h5).mono fun _ _ ⟨⟨fa, fc, ba, bc, e1, e2, e3, e4, _⟩, hb⟩ => ⟨⟨fa, fc, ba, bc, e1, e2, e3, e4⟩, hb⟩
/-- And its Framing, Right and Print. -/
structure Prog8 (Env : World → Prop) : Prop extends Read8 Env where
  framing : ∀ (s : St.S) (fv bv : Value) (fs : List Fld.F) (x m : List UInt8) (w : World), Sm s fs x m → FIn w fv fs → BIn w bv x → NilOk bv → Env w →
    Calls Tryz.prog 14 #[mval s fv bv, .string (str m)] w fun e w' => e = .returned (.tuple #[.int .i64 (Ms.framed s fs m).1, .int .i64 (Ms.framed s fs m).2.1, .int .i64 (Ms.framed s fs m).2.2]) ∧ Below w.heap.size w w'
  right : ∀ (s : St.S) (fv bv : Value) (fs : List Fld.F) (x m : List UInt8) (w : World), Sm s fs x m → FIn w fv fs → BIn w bv x → NilOk bv → Env w →
    Calls Tryz.prog 18 #[mval s fv bv, .string (str m)] w fun e w' => e = .returned (.bool (Ms.right ⟨s, fs, x⟩ m)) ∧ Below w.heap.size w w'
  print : ∀ (s : St.S) (fv bv : Value) (fs : List Fld.F) (x m : List UInt8) (w : World), Sm s fs x m → FIn w fv fs → BIn w bv x → NilOk bv → Env w →
    Calls Tryz.prog 16 #[mval s fv bv, .string (str m)] w fun e w' => (∃ u, e = .returned (.tuple #[u, .int .i64 (if Ms.right ⟨s, fs, x⟩ m = true then 0 else 10)]) ∧ BIn w' u (if Ms.right ⟨s, fs, x⟩ m = true then Ms.print ⟨s, fs, x⟩ m else []) ∧ NilOk u) ∧ Below w.heap.size w w'

theorem ex_parse : Ms.parse [71, 69, 84, 32, 47, 32, 72, 84, 84, 80, 47, 49, 46, 49, 13, 10, 72, 111, 115, 116, 58, 32, 97, 13, 10, 13, 10, 120] true [] = (⟨⟨[71, 69, 84], [47], 0, [], 1⟩, [([72, 111, 115, 116], [97])], []⟩, 27, 0) := by decide +kernel
set_option maxHeartbeats 6400000 in
set_option maxRecDepth 100000 in
theorem mawake_w {Env : World → Prop} (P : Read8 Env) (w : World) (hE : Env w) :
    Calls Tryz.prog 9 #[] w fun e w' => e = .returned (.bool true) ∧ Below w.heap.size w w' := by
  obtain ⟨W1, hcv, hO, hb1⟩ := octets_block w #[.int .u8 71, .int .u8 69, .int .u8 84, .int .u8 32, .int .u8 47, .int .u8 32, .int .u8 72, .int .u8 84, .int .u8 84, .int .u8 80, .int .u8 47, .int .u8 49, .int .u8 46, .int .u8 49, .int .u8 13, .int .u8 10, .int .u8 72, .int .u8 111, .int .u8 115, .int .u8 116, .int .u8 58, .int .u8 32, .int .u8 97, .int .u8 13, .int .u8 10, .int .u8 13, .int .u8 10, .int .u8 120] [71, 69, 84, 32, 47, 32, 72, 84, 84, 80, 47, 49, 46, 49, 13, 10, 72, 111, 115, 116, 58, 32, 97, 13, 10, 13, 10, 120] rfl (by decide)
  have hcv' : (convert 22 22 (.slice (some ⟨w.heap.size, 0, none⟩) 28 28)).run Tryz.prog (w.alloc (.cells #[.int .u8 71, .int .u8 69, .int .u8 84, .int .u8 32, .int .u8 47, .int .u8 32, .int .u8 72, .int .u8 84, .int .u8 84, .int .u8 80, .int .u8 47, .int .u8 49, .int .u8 46, .int .u8 49, .int .u8 13, .int .u8 10, .int .u8 72, .int .u8 111, .int .u8 115, .int .u8 116, .int .u8 58, .int .u8 32, .int .u8 97, .int .u8 13, .int .u8 10, .int .u8 13, .int .u8 10, .int .u8 120] 5)) = .ok (.slice (some ⟨w.heap.size, 0, none⟩) 28 28) W1 := hcv
  have cP := P.parse _ [71, 69, 84, 32, 47, 32, 72, 84, 84, 80, 47, 49, 46, 49, 13, 10, 72, 111, 115, 116, 58, 32, 97, 13, 10, 13, 10, 120] true [] W1 (by decide) (by decide) hO (nil_ok _ _ _) (P.later hE hb1)
  rw [ex_parse] at cP
  have cP : Calls Tryz.prog 10 #[.slice (some ⟨w.heap.size, 0, none⟩) 28 28, .bool true, .string ⟨#[]⟩] W1 fun e w' => (∃ fa fc ba bc, e = .returned (.tuple #[.agg #[.string ⟨#[71, 69, 84]⟩, .string ⟨#[47]⟩, .int .i64 0, .string ⟨#[]⟩, .int .i64 1, .slice fa 1 fc, .slice ba 0 bc], .int .i64 27, .int .i64 0])) ∧ Below W1.heap.size W1 w' :=
    cP.mono fun e w' ⟨⟨fa, fc, ba, bc, h, _⟩, hb⟩ => ⟨⟨fa, fc, ba, bc, h⟩, hb⟩
  have HB1 := Lib.hid hb1
  clear hcv hO hb1 hE P
  go_enter Tryz.func9, Tryz.ntmps9
  go_wp2_with fail
  refine cP.mono ?_
  rintro e W2 ⟨⟨fa, fc, ba, bc, rfl⟩, hb2⟩
  have hB := bt5 HB1.out hb2
  clear hcv' cP HB1 hb2
  go_wp2_with fail
  go_ret
  exact ⟨rfl, hB.alloc hB.size _⟩

theorem told_fields (l : List UInt8) (asks : Bool) (m : List UInt8) : (Ms.told l asks m).1.fields.length ≤ 128 := by
  unfold Ms.told
  repeat' split
  all_goals first | exact Nat.zero_le _ | exact (Fld.parse_small _).1

set_option maxHeartbeats 6400000 in
set_option maxRecDepth 100000 in
theorem mparses_w {Env : World → Prop} (P : Read8 Env) (v : Value) (l : List UInt8) (asks : Bool) (mm : ByteArray) (w : World) (h : BIn w v l) (hnil : NilOk v) (_hmz : mm.size ≤ 9223372036854775807) (hE : Env w) :
    Calls Tryz.prog 3 #[v, .bool asks, .string mm] w fun e w' => e = .returned (.bool true) ∧ Below w.heap.size w w' := by
  have HV := Lib.hid h
  have HNIL := Lib.hid hnil
  have HE := Lib.hid hE
  have HP := Lib.hid P
  have cA := fun (W : World) (hb : Below w.heap.size w W) => mawake_w P W (P.later hE hb)
  have hwb : Below w.heap.size w w := Below.refl _ _
  obtain ⟨ao, c, rfl, hlc, hc9, _⟩ := h
  obtain ⟨L, hL⟩ : ∃ L, L = l.length := ⟨_, rfl⟩
  rw [← hL] at hlc HV HNIL ⊢
  clear hnil hE P
  by_cases h9 : (9000 : Int) < L
  · clear hL
    go_enter Tryz.func3, Tryz.ntmps3
    go_wp2_with fail
    refine (cA w hwb).mono ?_
    rintro e w1 ⟨rfl, hb1⟩
    go_wp2_with fail
    refine (cA w1 hb1).mono ?_
    rintro e w2 ⟨rfl, hb2⟩
    go_wp2_with fail
    go_ret
    exact ⟨rfl, bt5 hb1 hb2⟩
  by_cases hm9 : (100 : Int) < mm.size
  · clear hL
    go_enter Tryz.func3, Tryz.ntmps3
    go_wp2_with fail
    refine (cA w hwb).mono ?_
    rintro e w1 ⟨rfl, hb1⟩
    go_wp2_with fail
    refine (cA w1 hb1).mono ?_
    rintro e w2 ⟨rfl, hb2⟩
    go_wp2_with fail
    go_ret
    exact ⟨rfl, bt5 hb1 hb2⟩
  have hL8 : l.length ≤ 9000 := by omega
  have hlen : ([] : List UInt8).length + l.length ≤ 1000000000 := by simp; omega
  obtain ⟨m, hm⟩ : ∃ m, mm = str m := ⟨mm.data.toList, (str_of mm).symm⟩
  have hml : m.length ≤ 100 := by rw [hm, str_size] at hm9; omega
  have cP := fun (u : Value) (W : World) (hu : BIn W u l) (hun : NilOk u) (hb : Below w.heap.size w W) => HP.out.parse u l asks m W (by omega) hml hu hun (HP.out.later HE.out hb)
  have cT := fun (W : World) (hb : Below w.heap.size w W) => mTold_w (.slice ao L c) l asks m W (by omega) (by omega) (HV.out.later hb)
  rw [← hm] at cP cT
  have hpar : Ms.parse l asks m = if (Ms.told l asks m).2.2.2.2 ≠ 0 then (Ms.zero, 0, (Ms.told l asks m).2.2.2.2) else if (Ms.told l asks m).2.2.2.1 = true then ((Ms.told l asks m).1, (Ms.told l asks m).2.2.1, 0) else (Ms.zero, 0, 11) := rfl
  obtain ⟨⟨⟨s, fs, x⟩, fr, k, d, f⟩, hq⟩ : ∃ y, Ms.told l asks m = y := ⟨_, rfl⟩
  have hfz : fs.length ≤ 128 := by have h := told_fields l asks m; rw [hq] at h; exact h
  unfold MTold at cT
  rw [hq] at cT hpar
  simp only [] at cT hpar
  clear hL hq HP HE hm hml
  by_cases f0 : f = 0
  case neg =>
    rw [if_pos f0] at hpar
    rw [hpar] at cP
    have cP : ∀ (u : Value) (W : World), BIn W u l → NilOk u → Below w.heap.size w W → Calls Tryz.prog 10 #[u, .bool asks, .string mm] W fun e w' => (∃ fa fc ba bc, e = .returned (.tuple #[.agg #[.string ⟨#[]⟩, .string ⟨#[]⟩, .int .i64 0, .string ⟨#[]⟩, .int .i64 0, .slice fa 0 fc, .slice ba 0 bc], .int .i64 0, .int .i64 f]) ∧ FIn w' (.slice fa 0 fc) [] ∧ BIn w' (.slice ba 0 bc) [] ∧ NilOk (.slice ba 0 bc)) ∧ Below W.heap.size W w' := cP
    have f0b : (f != 0) = true := by simpa using f0
    clear hpar f0
    go_enter Tryz.func3, Tryz.ntmps3
    go_wp2_with fail
    refine (cA w hwb).mono ?_
    rintro e1 w1 ⟨rfl, hb1⟩
    clear cA hwb
    go_wp2_with (at_builtin; refine appBs (Buf.none_ w w1 hb1) (HV.out.later (hb1.alloc hb1.size _)) HNIL.out hlen rfl (.tmp 29) (.tmp 30) rfl rfl rfl ?_; intro v2 w2 hB2 hne)
    have hin2 := hB2.in_
    have cP2 := cP v2 w2 hin2.1 hin2.2 hB2.2
    have hb2 := hB2.2
    clear cP hB2 hin2 hb1
    go_wp2_with fail
    refine cP2.mono ?_
    rintro e3 w3 ⟨⟨fa, fc, ba, bc, rfl, hf, hx, hxn⟩, hb3'⟩
    have hb3 := bt5 hb2 hb3'
    clear cP2 hb3' hb2
    go_upto_region 4 with fail
    have b7 : (w3.alloc (.cells #[.string ⟨#[]⟩, .string ⟨#[]⟩, .int .i64 0, .string ⟨#[]⟩, .int .i64 0, .slice fa 0 fc, .slice ba 0 bc] 28)).heap[w3.heap.size]? = some (.cells #[.string ⟨#[]⟩, .string ⟨#[]⟩, .int .i64 0, .string ⟨#[]⟩, .int .i64 0, .slice fa 0 fc, .slice ba 0 bc] 28 (0, 0)) := heap_alloc_new w3 _
    have hb4' : Below w3.heap.size w3 (w3.alloc (.cells #[.string ⟨#[]⟩, .string ⟨#[]⟩, .int .i64 0, .string ⟨#[]⟩, .int .i64 0, .slice fa 0 fc, .slice ba 0 bc] 28)) := (Below.refl _ w3).alloc (Nat.le_refl _) _
    have hf := hf.later hb4'
    have hx := hx.later hb4'
    have hb4 := bt5 hb3 hb4'
    generalize w3.alloc (.cells #[.string ⟨#[]⟩, .string ⟨#[]⟩, .int .i64 0, .string ⟨#[]⟩, .int .i64 0, .slice fa 0 fc, .slice ba 0 bc] 28) = w4 at *
    generalize w3.heap.size = g7 at b7 ⊢
    clear hb4' hb3
    go_wp2_with fail
    refine (cT w4 hb4).mono ?_
    rintro e5 w5 ⟨⟨gv, cv, rfl, hg, hy, hyn⟩, hb5'⟩
    obtain ⟨ga, gc, rfl⟩ : ∃ a c, gv = .slice a _ c := by obtain ⟨a, c, h, _⟩ := hg; exact ⟨a, c, h⟩
    obtain ⟨ca, cc, rfl⟩ : ∃ a c, cv = .slice a _ c := by obtain ⟨a, c, h, _⟩ := hy; exact ⟨a, c, h⟩
    have b7 := blk_later b7 hb5'
    have hf := hf.later hb5'
    have hx := hx.later hb5'
    have hb5 := bt5 hb4 hb5'
    clear hb5' hb4 hg hy hyn cT
    unfold mval mcells
    go_upto_region 5 with fail
    generalize hw6 : World.alloc w5 _ = w6
    have hb6' : Below w5.heap.size w5 w6 := by rw [← hw6]; exact (Below.refl _ w5).alloc (Nat.le_refl _) _
    clear hw6
    have b7 := blk_later b7 hb6'
    have hf := hf.later hb6'
    have hx := hx.later hb6'
    have hb6 := bt5 hb5 hb6'
    have cS := same_w St.zero St.zero (.slice fa 0 fc) (.slice ba 0 bc) (.slice none 0 0) (.slice none 0 0) [] [] [] [] w6 hf (fin_nil w6) hx hxn (bin_nil w6).1 (bin_nil w6).2 (Nat.zero_le _)
    rw [mval_s, mval_s] at cS
    have cS : Calls Tryz.prog 12 #[.agg #[.string ⟨#[]⟩, .string ⟨#[]⟩, .int .i64 0, .string ⟨#[]⟩, .int .i64 0, .slice fa 0 fc, .slice ba 0 bc], .agg #[.string ⟨#[]⟩, .string ⟨#[]⟩, .int .i64 0, .string ⟨#[]⟩, .int .i64 0, .slice none 0 0, .slice none 0 0]] w6 fun e w' => e = .returned (.bool true) ∧ Below w6.heap.size w6 w' := cS
    clear hb5 hb6' hf hx hxn
    obtain ⟨c0, c1, c2, c3, c4, c5, c6⟩ := set7 b7
    clear b7
    go_wp2_with fail
    refine cS.mono ?_
    rintro e7 w7 ⟨rfl, hb7⟩
    have hB := bt5 hb6 hb7
    go_wp2_with fail
    go_ret
    exact ⟨rfl, hB⟩
  case pos =>
    subst f0
    rw [if_neg (by simp)] at hpar
    cases d with
    | false =>
      rw [if_neg (by decide)] at hpar
      rw [hpar] at cP
      have cP : ∀ (u : Value) (W : World), BIn W u l → NilOk u → Below w.heap.size w W → Calls Tryz.prog 10 #[u, .bool asks, .string mm] W fun e w' => (∃ fa fc ba bc, e = .returned (.tuple #[.agg #[.string ⟨#[]⟩, .string ⟨#[]⟩, .int .i64 0, .string ⟨#[]⟩, .int .i64 0, .slice fa 0 fc, .slice ba 0 bc], .int .i64 0, .int .i64 11]) ∧ FIn w' (.slice fa 0 fc) [] ∧ BIn w' (.slice ba 0 bc) [] ∧ NilOk (.slice ba 0 bc)) ∧ Below W.heap.size W w' := cP
      clear hpar
      go_enter Tryz.func3, Tryz.ntmps3
      go_wp2_with fail
      refine (cA w hwb).mono ?_
      rintro e1 w1 ⟨rfl, hb1⟩
      clear cA hwb
      go_wp2_with (at_builtin; refine appBs (Buf.none_ w w1 hb1) (HV.out.later (hb1.alloc hb1.size _)) HNIL.out hlen rfl (.tmp 29) (.tmp 30) rfl rfl rfl ?_; intro v2 w2 hB2 hne)
      have hin2 := hB2.in_
      have cP2 := cP v2 w2 hin2.1 hin2.2 hB2.2
      have hb2 := hB2.2
      clear cP hB2 hin2 hb1
      go_wp2_with fail
      refine cP2.mono ?_
      rintro e3 w3 ⟨⟨fa, fc, ba, bc, rfl, hf, hx, hxn⟩, hb3'⟩
      have hb3 := bt5 hb2 hb3'
      clear cP2 hb3' hb2
      go_upto_region 4 with fail
      have b7 : (w3.alloc (.cells #[.string ⟨#[]⟩, .string ⟨#[]⟩, .int .i64 0, .string ⟨#[]⟩, .int .i64 0, .slice fa 0 fc, .slice ba 0 bc] 28)).heap[w3.heap.size]? = some (.cells #[.string ⟨#[]⟩, .string ⟨#[]⟩, .int .i64 0, .string ⟨#[]⟩, .int .i64 0, .slice fa 0 fc, .slice ba 0 bc] 28 (0, 0)) := heap_alloc_new w3 _
      have hb4' : Below w3.heap.size w3 (w3.alloc (.cells #[.string ⟨#[]⟩, .string ⟨#[]⟩, .int .i64 0, .string ⟨#[]⟩, .int .i64 0, .slice fa 0 fc, .slice ba 0 bc] 28)) := (Below.refl _ w3).alloc (Nat.le_refl _) _
      have hf := hf.later hb4'
      have hx := hx.later hb4'
      have hb4 := bt5 hb3 hb4'
      generalize w3.alloc (.cells #[.string ⟨#[]⟩, .string ⟨#[]⟩, .int .i64 0, .string ⟨#[]⟩, .int .i64 0, .slice fa 0 fc, .slice ba 0 bc] 28) = w4 at *
      generalize w3.heap.size = g7 at b7 ⊢
      clear hb4' hb3
      go_wp2_with fail
      refine (cT w4 hb4).mono ?_
      rintro e5 w5 ⟨⟨gv, cv, rfl, hg, hy, hyn⟩, hb5'⟩
      obtain ⟨ga, gc, rfl⟩ : ∃ a c, gv = .slice a _ c := by obtain ⟨a, c, h, _⟩ := hg; exact ⟨a, c, h⟩
      obtain ⟨ca, cc, rfl⟩ : ∃ a c, cv = .slice a _ c := by obtain ⟨a, c, h, _⟩ := hy; exact ⟨a, c, h⟩
      have b7 := blk_later b7 hb5'
      have hf := hf.later hb5'
      have hx := hx.later hb5'
      have hb5 := bt5 hb4 hb5'
      clear hb5' hb4 hg hy hyn cT
      unfold mval mcells
      go_upto_region 5 with fail
      generalize hw6 : World.alloc w5 _ = w6
      have hb6' : Below w5.heap.size w5 w6 := by rw [← hw6]; exact (Below.refl _ w5).alloc (Nat.le_refl _) _
      clear hw6
      have b7 := blk_later b7 hb6'
      have hf := hf.later hb6'
      have hx := hx.later hb6'
      have hb6 := bt5 hb5 hb6'
      have cS := same_w St.zero St.zero (.slice fa 0 fc) (.slice ba 0 bc) (.slice none 0 0) (.slice none 0 0) [] [] [] [] w6 hf (fin_nil w6) hx hxn (bin_nil w6).1 (bin_nil w6).2 (Nat.zero_le _)
      rw [mval_s, mval_s] at cS
      have cS : Calls Tryz.prog 12 #[.agg #[.string ⟨#[]⟩, .string ⟨#[]⟩, .int .i64 0, .string ⟨#[]⟩, .int .i64 0, .slice fa 0 fc, .slice ba 0 bc], .agg #[.string ⟨#[]⟩, .string ⟨#[]⟩, .int .i64 0, .string ⟨#[]⟩, .int .i64 0, .slice none 0 0, .slice none 0 0]] w6 fun e w' => e = .returned (.bool true) ∧ Below w6.heap.size w6 w' := cS
      clear hb5 hb6' hf hx hxn
      obtain ⟨c0, c1, c2, c3, c4, c5, c6⟩ := set7 b7
      clear b7
      go_wp2_with fail
      refine cS.mono ?_
      rintro e7 w7 ⟨rfl, hb7⟩
      have hB := bt5 hb6 hb7
      go_wp2_with fail
      go_ret
      exact ⟨rfl, hB⟩
    | true =>
      rw [if_pos rfl] at hpar
      rw [hpar] at cP
      simp only [] at cP
      have cSa := fun (fv bv gv cv : Value) (W : World) (hf : FIn W fv fs) (hg : FIn W gv fs) (hx : BIn W bv x) (hxn : NilOk bv) (hy : BIn W cv x) (hyn : NilOk cv) => (by
        have h := same_w s s fv bv gv cv fs fs x x W hf hg hx hxn hy hyn (by omega)
        rw [mval_s, mval_s, sameF_self, decide_eq_true (rfl : s = s), decide_eq_true (rfl : x = x)] at h
        exact h : Calls Tryz.prog 12 #[.agg #[.string (str s.method), .string (str s.target), .int .i64 s.status, .string (str s.reason), .int .i64 s.minor, fv, bv], .agg #[.string (str s.method), .string (str s.target), .int .i64 s.status, .string (str s.reason), .int .i64 s.minor, gv, cv]] W fun e w' => e = .returned (.bool true) ∧ Below W.heap.size W w')
      simp only [mval_s] at cT
      generalize str s.method = a0 at *
      generalize str s.target = a1 at *
      generalize s.status = st at *
      generalize str s.reason = a3 at *
      generalize s.minor = mi at *
      clear hpar hfz
      go_enter Tryz.func3, Tryz.ntmps3
      go_wp2_with fail
      refine (cA w hwb).mono ?_
      rintro e1 w1 ⟨rfl, hb1⟩
      clear cA hwb
      go_wp2_with (at_builtin; refine appBs (Buf.none_ w w1 hb1) (HV.out.later (hb1.alloc hb1.size _)) HNIL.out hlen rfl (.tmp 29) (.tmp 30) rfl rfl rfl ?_; intro v2 w2 hB2 hne)
      have hin2 := hB2.in_
      have cP2 := cP v2 w2 hin2.1 hin2.2 hB2.2
      have hb2 := hB2.2
      clear cP hB2 hin2 hb1
      go_wp2_with fail
      refine cP2.mono ?_
      rintro e3 w3 ⟨⟨fa, fc, ba, bc, rfl, hf, hx, hxn⟩, hb3'⟩
      have hb3 := bt5 hb2 hb3'
      clear cP2 hb3' hb2
      generalize hN : fs.length = N at *
      generalize hXX : x.length = X at *
      go_upto_region 4 with fail
      have b7 : (w3.alloc (.cells #[.string a0, .string a1, .int .i64 st, .string a3, .int .i64 mi, .slice fa N fc, .slice ba X bc] 28)).heap[w3.heap.size]? = some (.cells #[.string a0, .string a1, .int .i64 st, .string a3, .int .i64 mi, .slice fa N fc, .slice ba X bc] 28 (0, 0)) := heap_alloc_new w3 _
      have hb4' : Below w3.heap.size w3 (w3.alloc (.cells #[.string a0, .string a1, .int .i64 st, .string a3, .int .i64 mi, .slice fa N fc, .slice ba X bc] 28)) := (Below.refl _ w3).alloc (Nat.le_refl _) _
      have hf := hf.later hb4'
      have hx := hx.later hb4'
      have hb4 := bt5 hb3 hb4'
      generalize w3.alloc (.cells #[.string a0, .string a1, .int .i64 st, .string a3, .int .i64 mi, .slice fa N fc, .slice ba X bc] 28) = w4 at *
      generalize w3.heap.size = g7 at b7 ⊢
      clear hb4' hb3
      go_wp2_with fail
      refine (cT w4 hb4).mono ?_
      rintro e5 w5 ⟨⟨gv, cv, rfl, hg, hy, hyn⟩, hb5'⟩
      obtain ⟨ga, gc, rfl⟩ : ∃ a c, gv = .slice a N c := by obtain ⟨a, c, h, _⟩ := hg; exact ⟨a, c, by rw [← hN]; exact h⟩
      obtain ⟨ca, cc, rfl⟩ : ∃ a c, cv = .slice a X c := by obtain ⟨a, c, h, _⟩ := hy; exact ⟨a, c, by rw [← hXX]; exact h⟩
      have b7 := blk_later b7 hb5'
      have hf := hf.later hb5'
      have hx := hx.later hb5'
      have hb5 := bt5 hb4 hb5'
      clear hb5' hb4 cT
      go_upto_region 5 with fail
      have b10 : (w5.alloc (.cells #[.string a0, .string a1, .int .i64 st, .string a3, .int .i64 mi, .slice ga N gc, .slice ca X cc] 28)).heap[w5.heap.size]? = some (.cells #[.string a0, .string a1, .int .i64 st, .string a3, .int .i64 mi, .slice ga N gc, .slice ca X cc] 28 (0, 0)) := heap_alloc_new w5 _
      have hb6' : Below w5.heap.size w5 (w5.alloc (.cells #[.string a0, .string a1, .int .i64 st, .string a3, .int .i64 mi, .slice ga N gc, .slice ca X cc] 28)) := (Below.refl _ w5).alloc (Nat.le_refl _) _
      generalize w5.alloc (.cells #[.string a0, .string a1, .int .i64 st, .string a3, .int .i64 mi, .slice ga N gc, .slice ca X cc] 28) = w6 at *
      generalize w5.heap.size = g10 at b10 ⊢
      have b7 := blk_later b7 hb6'
      have hf := hf.later hb6'
      have hx := hx.later hb6'
      have hg := hg.later hb6'
      have hy := hy.later hb6'
      have hb6 := bt5 hb5 hb6'
      have cS := cSa (.slice fa N fc) (.slice ba X bc) (.slice ga N gc) (.slice ca X cc) w6 hf hg hx hxn hy hyn
      clear cSa hb5 hb6' hf hx hxn hg hy hyn
      obtain ⟨c0, c1, c2, c3, c4, c5, c6⟩ := set7 b7
      obtain ⟨d0, d1, d2, d3, d4, d5, d6⟩ := set7 b10
      clear b7 b10
      go_wp2_with fail
      refine cS.mono ?_
      rintro e7 w7 ⟨rfl, hb7⟩
      have hB := bt5 hb6 hb7
      go_wp2_with fail
      go_ret
      exact ⟨rfl, hB⟩
end Go.Proofs.YtlbjjeonchcgbaaGreatDoor
