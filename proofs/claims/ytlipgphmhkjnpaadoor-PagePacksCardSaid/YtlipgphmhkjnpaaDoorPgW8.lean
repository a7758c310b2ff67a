/- The program's package page: Write, Read; the whole package as the pack says. -/
import Derived.Test.YtlipgphmhkjnpaaDoorPgW7
import Derived.Test.YtlipgphmhkjnpaaDoorPgO
import Derived.Test.YtlipgphmhkjnpaaDoorDvP
namespace Go.Proofs.YtlipgphmhkjnpaaDoor
open Go.RowKit

set_option maxHeartbeats 3200000 in
set_option maxRecDepth 100000 in
theorem pWrite_w (g : Nat) (d : Dv.S) (F : Nat → Prop) (at_ k : Int) (v : Value) (ls : List (List UInt8)) (w : World) (h : Dev13 w g d F) (hf : Fair d) (hv : BsOut F w v ls) (hl : ls.length ≤ 1000) (ha : -9223372036854775808 ≤ at_ ∧ at_ ≤ 9223372036854775807) (hk : -9223372036854775808 ≤ k ∧ k ≤ 9223372036854775807) (hT : CTab w) :
    Calls Tryd.prog 17 #[.pointer (some ⟨g, 0, none⟩), .int .i64 at_, .int .i64 k, v] w fun e w' => ∃ F', e = .returned (.int .i64 (Pg.write d at_ k ls.flatten).2) ∧ Dev13 w' g (Pg.write d at_ k ls.flatten).1 F' ∧ Touch F w w' ∧ More F F' w := by
  have cP := pPack_w k v ls w hv.in_ hl hk hT
  obtain ⟨p, hp⟩ : ∃ p, p = Pg.pack k ls.flatten := ⟨_, rfl⟩
  have HW := Lib.hid (show Pg.write d at_ k ls.flatten = if p.2 ≠ 0 then (d, p.2) else Dv.write d at_ (Pg.sectors p.1) from by rw [hp]; rfl)
  have HL := Lib.hid (show p.2 = 0 → p.1.length = 512 from by rw [hp]; exact Pg.pack_len)
  rw [← hp] at cP
  generalize Pg.write d at_ k ls.flatten = R at HW ⊢
  obtain ⟨X, E⟩ := p
  have HH := Lib.hid h
  have HF := Lib.hid hf
  have HT := Lib.hid hT
  have HA := Lib.hid ha
  clear hp h hf hT hv hk hl ha
  go_enter Tryd.func17, Tryd.ntmps17
  go_wp2_with fail
  refine cP.mono ?_
  rintro e w1 ⟨u, rfl, hb1, hX, -⟩
  have HB1 := Lib.hid hb1
  have hD1 := HH.out.keep hb1.size (fun k hk => hb1.block k (HH.out.lt k hk))
  have HD1 := Lib.hid hD1
  have HX := Lib.hid hX
  clear cP hb1 hD1 hX
  by_cases hE : E = 0
  · subst hE
    have hX5 : X.length = 512 := HL.out rfl
    have HR : Hid (R = Dv.write d at_ (Pg.sectors X)) := Lib.hid (by rw [HW.out]; rfl)
    have cS := pSectors_w u X w1 HX.out (by omega)
    have H8 := Lib.hid (Pg.sectors_512 hX5).1
    clear hX5 HW HL
    go_wp2_with fail
    refine cS.mono ?_
    rintro e w2 ⟨u2, rfl, hS⟩
    have hb2 := bt5 HB1.out hS.below
    have HB2 := Lib.hid hb2
    have hso := hS.out.anti (F' := F) (fun k hk => HD1.out.lt k hk)
    have cW := write_w g d F at_ u2 (Pg.sectors X) w2 (HD1.out.keep hS.below.size (fun k hk => hS.below.block k (HD1.out.lt k hk))) HF.out.1 HF.out.2.1 hso (by rw [H8.out]; decide) HA.out
    rw [← HR.out] at cW
    clear cS hS hso hb2
    obtain ⟨R1, R2⟩ := R
    go_wp2_with fail
    refine cW.mono ?_
    rintro e w3 ⟨F', rfl, hD3, ht3, hm3⟩
    have HEND := Lib.hid (And.intro hD3 (And.intro ht3 hm3))
    clear cW hD3 ht3 hm3
    go_wp2_with fail
    go_ret
    exact ⟨rfl, F', HEND.out.1, (Touch.of HB2.out).trans HEND.out.2.1, fun k hk => (HEND.out.2.2 k hk).imp id (fun h => Nat.le_trans HB2.out.size h)⟩
  · have hEb : (E != 0) = true := bne_iff_ne.2 hE
    have HR : Hid (R = (d, E)) := Lib.hid (by rw [HW.out, if_pos hE])
    clear HW HL
    go_wp2_with fail
    go_ret
    exact ⟨F, by rw [HR.out]; rfl, by rw [HR.out]; exact HD1.out, Touch.of HB1.out, fun k hk => .inl hk⟩

set_option maxHeartbeats 1600000 in
set_option maxRecDepth 100000 in
theorem pWrite_nil (at_ k : Int) (v : Value) (w : World) :
    Calls Tryd.prog 17 #[.pointer none, .int .i64 at_, .int .i64 k, v] w fun e w' => e = .returned (.int .i64 1) ∧ Below w.heap.size w w' := by
  go_enter Tryd.func17, Tryd.ntmps17
  go_wp2_with fail
  go_ret
  exact ⟨rfl, Below.refl _ _⟩
set_option maxHeartbeats 1600000 in
set_option maxRecDepth 100000 in
theorem pRead_nil (at_ : Int) (w : World) :
    Calls Tryd.prog 18 #[.pointer none, .int .i64 at_] w fun e w' => ∃ x y, e = .returned (.tuple #[x, y, .int .i64 1]) ∧ Below w.heap.size w w' := by
  go_enter Tryd.func18, Tryd.ntmps18
  go_wp2_with fail
  go_ret3
  exact ⟨_, _, rfl, Below.refl _ _⟩
set_option maxHeartbeats 3200000 in
set_option maxRecDepth 100000 in
theorem pRead_w (g : Nat) (d : Dv.S) (F : Nat → Prop) (at_ : Int) (w : World) (h : Dev13 w g d F) (hf : Fair d) (ha : -9223372036854775808 ≤ at_ ∧ at_ ≤ 9223372036854775807) (hT : CTab w) (hF0 : ¬ F 0) :
    Calls Tryd.prog 18 #[.pointer (some ⟨g, 0, none⟩), .int .i64 at_] w fun e w' => ∃ F' u, e = .returned (.tuple #[.int .i64 ((Pg.read d at_).2.1 : Int), u, .int .i64 (Pg.read d at_).2.2.2]) ∧ Dev13 w' g (Pg.read d at_).1 F' ∧ Touch F w w' ∧ More F F' w ∧ BOut F' w' u (Pg.read d at_).2.2.1 := by
  have cR := read_w g d F at_ 8 w h hf.1 ha (by decide)
  have H64 : Hid ((Dv.read d at_ 8).2.1.length ≤ 8 ∧ ∀ x ∈ (Dv.read d at_ 8).2.1, x.length = 64) := Lib.hid (by
    obtain ⟨⟨n, bs, bv, wv, fv, L, hM, _⟩, _⟩ := h
    exact Dv.read_64 hM.gS (fun x hx => (hM.gW x hx).2) at_)
  have HBAD : Hid ((Dv.read d at_ 8).2.2 ≠ 0 → (Dv.read d at_ 8).2.1 = []) := Lib.hid Dv.read_bad
  rw [Pg.read_is]
  generalize Dv.read d at_ 8 = r at cR H64 HBAD ⊢
  obtain ⟨D2, ls, er⟩ := r
  have HT := Lib.hid (And.intro hT hF0)
  clear hF0
  obtain ⟨fe, hfe⟩ : ∃ fe : Int, fe = if er = 0 then (if (Pg.unp ls.flatten).2.2 = true then 0 else 33) else er := ⟨_, rfl⟩
  have HFE := Lib.hid hfe
  obtain ⟨A, hA⟩ : ∃ A, A = Pg.unp ls.flatten := ⟨_, rfl⟩
  have HAA := Lib.hid hA
  show Calls _ _ _ _ fun e w' => ∃ F' u, e = .returned (.tuple #[.int .i64 ((Pg.unp ls.flatten).1 : Int), u, .int .i64 (if er = 0 then (if (Pg.unp ls.flatten).2.2 = true then 0 else 33) else er)]) ∧ Dev13 w' g D2 F' ∧ Touch F w w' ∧ More F F' w ∧ BOut F' w' u (Pg.unp ls.flatten).2.1
  rw [← hfe, ← hA]
  clear hfe hA h hf ha hT
  go_enter Tryd.func18, Tryd.ntmps18
  go_wp2_with fail
  refine cR.mono ?_
  rintro e w1 ⟨F', v, rfl, hD, ht, hm, hv⟩
  have H1 := Lib.hid (And.intro hD (And.intro ht (And.intro hm hv)))
  have hD' : Dev13 w1 g D2 F' := hD
  have HLT1 := Lib.hid (fun k hk => hD'.lt k hk)
  have cJ := pJoin_w v ls w1 hv.in_ (by
    have h9 := Pg.flat_64 (ls := ls) H64.out.2
    have h8 : ls.length ≤ 8 := H64.out.1
    omega)
  clear cR hD ht hm hv hD'
  by_cases he : er = 0
  · subst he
    have HFE2 : Hid (fe = if A.2.2 = true then 0 else 33) := Lib.hid (by rw [HFE.out, if_pos rfl, ← HAA.out])
    clear HFE HBAD
    go_wp2_with fail
    refine cJ.mono ?_
    rintro e w2 ⟨u2, rfl, hB2⟩
    have hb2 := hB2.below
    have hT1 : CTab w1 := fun j hj => by
      rw [← HT.out.1 j hj]
      exact World.cell?_of_block (a := ⟨0, j, none⟩) (H1.out.2.1.block 0 (World.block_lt_of_cell? w ⟨0, j, none⟩ (HT.out.1 j hj)) HT.out.2)
    have cU := pUnpack_w u2 ls.flatten w2 hB2.in_.1 (hT1.later hb2)
    rw [← HAA.out, ← HFE2.out] at cU
    have HB2 := Lib.hid hb2
    clear cJ hB2 hb2 hT1
    obtain ⟨A1, A2, A3⟩ := A
    go_wp2_with fail
    refine cU.mono ?_
    rintro e w3 ⟨u3, rfl, hb3, hx3, hn3, hnew⟩
    have HB3 := Lib.hid (bt5 HB2.out hb3)
    have HX3 := Lib.hid (And.intro hx3 (And.intro hn3 hnew))
    clear cU hb3 hx3 hn3 hnew
    go_wp2_with fail
    go_ret3
    exact ⟨F', _, rfl, H1.out.1.keep HB3.out.size (fun k hk => HB3.out.block k (HLT1.out k hk)), H1.out.2.1.trans (Touch.of HB3.out), H1.out.2.2.1, ⟨HX3.out.1, HX3.out.2.1, fun ad n c e _ hf => by
      have h1 := HX3.out.2.2 ad n c e
      have h2 := HLT1.out _ hf
      have h3 := HB2.out.size
      omega⟩⟩
  · have heb : (er != 0) = true := bne_iff_ne.2 he
    have HN : Hid (ls = []) := Lib.hid (HBAD.out he)
    have HE2 : Hid (fe = er) := Lib.hid (by rw [HFE.out, if_neg he])
    have HA2 : Hid (A = (0, [], false)) := Lib.hid (by rw [HAA.out, HN.out, List.flatten_nil, Pg.unp_nil])
    clear cJ HFE HBAD HAA
    go_wp2_with fail
    go_ret3
    exact ⟨F', _, by rw [HE2.out, HA2.out]; rfl, H1.out.1, H1.out.2.1, H1.out.2.2.1, by rw [HA2.out]; exact ⟨(bin_nil w1).1, (bin_nil w1).2, fun _ _ _ e => by cases e⟩⟩
/-- A device none of whose blocks is crc's table. -/
def Dev14 (w : World) (g : Nat) (d : Dv.S) (F : Nat → Prop) : Prop := Dev13 w g d F ∧ ¬ F 0
theorem CTab.pos {w : World} (h : CTab w) : 0 < w.heap.size := World.block_lt_of_cell? w ⟨0, 0, none⟩ (h 0 (by decide))
theorem not_zero {F F' : Nat → Prop} {w : World} (h : ¬ F 0) (hT : CTab w) (hm : More F F' w) : ¬ F' 0 := fun hf => by
  rcases hm 0 hf with h9 | h9
  · exact h h9
  · have := hT.pos; omega
theorem prog13t : Prog13 CTab Dev14 where
  env := fun h hb => h.later hb
  lt := fun h => h.1.lt
  keep := fun h hs hk => ⟨h.1.keep hs hk, h.2⟩
  new := fun k w h1 h2 hT => (new_w k w h1 h2).mono (by
    rintro e w' ⟨g, F, he, hD, hb, hF⟩
    exact ⟨g, F, he, ⟨hD, fun h0 => by have := hF 0 h0; have := hT.pos; omega⟩, hb, hF⟩)
  write := fun g d F a v ls w h hf hv hl ha hT => (write_w g d F a v ls w h.1 hf.1 hf.2.1 hv hl ha).mono (by
    rintro e w' ⟨F', he, hD, ht, hm⟩
    exact ⟨F', he, ⟨hD, not_zero h.2 hT hm⟩, ht, hm⟩)
  flush := fun g d F w h hf hT => (flush_w g d F w h.1 hf.1 hf.2.1).mono (by
    rintro e w' ⟨F', he, hD, ht, hm⟩
    exact ⟨F', he, ⟨hD, not_zero h.2 hT hm⟩, ht, hm⟩)
  read := fun g d F a k w h hf ha hk hT => (read_w g d F a k w h.1 hf.1 ha hk).mono (by
    rintro e w' ⟨F', v, he, hD, ht, hm, hv⟩
    exact ⟨F', v, he, ⟨hD, not_zero h.2 hT hm⟩, ht, hm, hv⟩)
  crash := fun g d F v keep torn p w h hf hv _ _ hT => (crash_w g d F v keep torn p w h.1 hf.2.1 hv).mono (by
    rintro e w' ⟨F', x, he, hD, ht, hm⟩
    exact ⟨F', x, he, ⟨hD, not_zero h.2 hT hm⟩, ht, hm⟩)
  fail := fun g d F v l w h _ hv hl hT => (fail_w g d F v l w h.1 hv hl).mono (by
    rintro e w' ⟨F', x, he, hD, ht, hm⟩
    exact ⟨F', x, he, ⟨hD, not_zero h.2 hT hm⟩, ht, hm⟩)
theorem prog14 : Prog14 CTab Dev14 where
  env := fun h hb => h.later hb
  pack := fun k v ls w h _ hl hk hT => pPack_w k v ls w h hl hk hT
  unpack := fun v l w h _ _ hT => (pUnpack_w v l w h hT).mono (by
    rintro e w' ⟨u, he, hb, hx, hn, _⟩
    exact ⟨u, he, hb, hx, hn⟩)
  sectors := fun v l w h _ hl _ => (pSectors_w v l w h (by omega)).mono (by
    rintro e w' ⟨u, he, hS⟩
    exact ⟨u, he, hS.below, hS.out.in_⟩)
  join := fun v ls w h ht _ _ => (pJoin_w v ls w h (by omega)).mono (by
    rintro e w' ⟨u, he, hB⟩
    exact ⟨u, he, hB.below, hB.in_⟩)
  write := fun g d F a k v ls w h hf hv _ hl ha hk hT => (pWrite_w g d F a k v ls w h.1 hf hv hl ha hk hT).mono (by
    rintro e w' ⟨F', he, hD, ht, hm⟩
    exact ⟨F', he, ⟨hD, not_zero h.2 hT hm⟩, ht, hm⟩)
  write_nil := fun a k v w _ => pWrite_nil a k v w
  read := fun g d F a w h hf ha hT => (pRead_w g d F a w h.1 hf ha hT h.2).mono (by
    rintro e w' ⟨F', u, he, hD, ht, hm, hv⟩
    exact ⟨F', u, he, ⟨hD, not_zero h.2 hT hm⟩, ht, hm, hv⟩)
  read_nil := fun a w _ => pRead_nil a w
end Go.Proofs.YtlipgphmhkjnpaaDoor
