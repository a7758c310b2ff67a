/- The law PageActs. -/
import Derived.Test.YtlipgphmhkjnpaaDoorPgO
import Derived.Test.YtlipgphmhkjnpaaDoorPgJ
import Derived.Test.YtlipgphmhkjnpaaDoorRel
namespace Go.Proofs.YtlipgphmhkjnpaaDoor
open Go.RowKit
section
variable {Env : World → Prop} {Dev : World → Nat → Dv.S → (Nat → Prop) → Prop}

set_option maxHeartbeats 12800000 in
set_option maxRecDepth 100000 in
theorem acts14 (P : Prog14 Env Dev) (Q : Prog13 Env Dev) (size : Int) (va : Value) (acts : List ActV) (W : World) (hin : ActsIn W va acts) (hE : Env W) :
    Calls Tryd.prog 4 #[.int .i64 size, va] W fun e w' => e = .returned (.bool true) ∧ Below W.heap.size W w' := by
  have HE := Lib.hid hE
  have HA := Lib.hid (fun (w : World) (hb : Below W.heap.size W w) => awake14 P w (P.env hE hb))
  have hww : Below W.heap.size W W := Below.refl _ _
  obtain ⟨aa, ca, rfl, hla, hca, hga⟩ := hin
  obtain ⟨L, hL⟩ : ∃ L, L = acts.length := ⟨_, rfl⟩
  have HL := Lib.hid hL
  have HG := Lib.hid hga
  rw [← hL] at hla ⊢
  clear hE hL hga
  by_cases h40 : (40 : Int) < L
  · go_enter Tryd.func4, Tryd.ntmps4
    go_wp2_with fail
    refine (HA.out W hww).mono ?_
    rintro e w1 ⟨rfl, hb1⟩
    go_wp2_with fail
    refine (HA.out w1 hb1).mono ?_
    rintro e w2 ⟨rfl, hb2⟩
    go_wp2_with fail
    go_ret
    exact ⟨rfl, bt5 hb1 hb2⟩
  have hL40 : L ≤ 40 := by omega
  obtain ⟨q, n, m1, m2, m3, hn40, m4⟩ := mod40 size
  go_enter Tryd.func4, Tryd.ntmps4
  go_wp2_with fail
  refine (HA.out W hww).mono ?_
  rintro e w1 ⟨rfl, hb1⟩
  have HB1 := Lib.hid hb1
  have cN := Q.new (n + 1) w1 (by omega) (by omega) (P.env HE.out HB1.out)
  have en : ((n + 1 : Nat) : Int) = 1 + (n : Int) := by omega
  rw [en] at cN
  clear hb1 hww
  go_wp2_with fail
  refine cN.mono ?_
  rintro e w2 ⟨g, F, rfl, hD, hb2, hF⟩
  clear cN
  have HB2 := Lib.hid (bt5 HB1.out hb2)
  have cR := rd_new (n + 1) W.heap.size w2 (by omega) HB2.out.size
  rw [en] at cR
  go_wp2_with fail
  refine cR.mono ?_
  rintro e w3 ⟨r, R, rfl, hb3, hR, hRn⟩
  clear cR
  have HX3 : Hid (Both Dev W w3 g r (Dv.init (n + 1)) (Dv.init (n + 1)) F R) := Lib.hid ⟨Q.keep hD hb3.size (fun k hk => hb3.block k (Q.lt hD k hk)), hR, fun k hk hr => by have h8 := Q.lt hD k hk; have h9 := hRn k hr; omega, fun k hk => Nat.le_trans HB1.out.size (hF k hk), bt5 HB2.out hb3⟩
  clear hD hR hb3 hb2 hF hRn m1 m2 m3 m4 en
  go_wp2_with fail
  go_loopw [9] (fun i wr => ∃ j : Nat, j ≤ L ∧ i = .int .i64 j ∧ ∃ D F R, Hid (Both Dev W wr g r D D F R ∧ Dv.Small j D)) (fun i _ => L - (intOf i).toNat)
  case atStart => exact ⟨0, Nat.zero_le _, rfl, _, _, _, Lib.hid ⟨HX3.out, Dv.small_init (n + 1) (by omega)⟩⟩
  case round =>
    obtain ⟨j, hj, rfl, D, F, R, HX⟩ := hrel
    clear HX3
    obtain ⟨wo, hwo⟩ : ∃ wo : World, wo = wr := ⟨_, rfl⟩
    subst hwo
    by_cases hlt : j < L
    · have hji : (j : Int) < L := by omega
      have hjl : j < acts.length := by rw [← HL.out]; exact hlt
      obtain ⟨b, o, hao, hbW, hin⟩ := HG.out.resolve_left (fun e => by rw [e] at hjl; cases hjl)
      subst hao
      obtain ⟨A, hA⟩ : ∃ A, A = acts[j] := ⟨_, rfl⟩
      have hI := hin j hjl
      rw [← hA] at hI
      clear hA hin
      obtain ⟨dd, at_, kind, torn, part, body, x, calls, keep, vb, vc, vk⟩ := A
      have hbody : BIn W vb body ∧ NilOk vb := hI.body
      have hcalls : ICame W vc calls := hI.calls
      have hkeep : KCame14 W vk keep := hI.keep
      have hwords : Word at_ ∧ Word kind ∧ Word torn ∧ Word part := hI.words
      have HBODY := Lib.hid hbody
      have HCALLS := Lib.hid hcalls
      have HKEEP := Lib.hid hkeep
      have HWORDS := Lib.hid hwords
      have hbl := HX.out.1.below
      have c0 : wo.cell? ⟨b, o + j * 9, none⟩ = some (.int .i64 dd) := cell_later hbl hI.c0
      have c1 : wo.cell? ⟨b, o + j * 9 + 1, none⟩ = some (.int .i64 at_) := cell_later hbl hI.c1
      have c2 : wo.cell? ⟨b, o + j * 9 + 2, none⟩ = some (.int .i64 kind) := cell_later hbl hI.c2
      have c3 : wo.cell? ⟨b, o + j * 9 + 3, none⟩ = some vb := cell_later hbl hI.c3
      have c4 : wo.cell? ⟨b, o + j * 9 + 4, none⟩ = some (.int .u8 (x.toNat : Int)) := cell_later hbl hI.c4
      have c5 : wo.cell? ⟨b, o + j * 9 + 5, none⟩ = some vc := cell_later hbl hI.c5
      have c6 : wo.cell? ⟨b, o + j * 9 + 6, none⟩ = some vk := cell_later hbl hI.c6
      have c7 : wo.cell? ⟨b, o + j * 9 + 7, none⟩ = some (.int .i64 torn) := cell_later hbl hI.c7
      have c8 : wo.cell? ⟨b, o + j * 9 + 8, none⟩ = some (.int .i64 part) := cell_later hbl hI.c8
      obtain ⟨ab, cb, hvb, hlb, hcb, -⟩ := hbody.1
      obtain ⟨ac, cc, hvc, hlc, hcc, -⟩ := hcalls
      obtain ⟨ak, ck, hvk, hlk, hck, -⟩ := hkeep
      obtain ⟨lb, hlb9⟩ : ∃ lb, lb = body.length := ⟨_, rfl⟩
      obtain ⟨lc, hlc9⟩ : ∃ lc, lc = calls.length := ⟨_, rfl⟩
      obtain ⟨lk, hlk9⟩ : ∃ lk, lk = keep.length := ⟨_, rfl⟩
      rw [← hlb9] at hvb hlb
      rw [← hlc9] at hvc hlc
      rw [← hlk9] at hvk hlk
      have HLS := Lib.hid (And.intro hlb9 (And.intro hlc9 hlk9))
      subst hvb hvc hvk
      clear hI hbl hbody hwords hlb9 hlc9 hlk9
      go_upto_block 1 with fail
      go_cut [] from 49 to 208 (fun wx => ∃ D2 F2 R2, Hid (Both Dev W wx g r D2 D2 F2 R2 ∧ Dv.Small (j + 1) D2))
      case rest =>
        obtain ⟨D2, F2, R2, HXE⟩ := hcut
        go_wp2_with fail
        go_roundw
        case rel => exact ⟨j + 1, by omega, by go_num, _, _, _, HXE⟩
        case measure => simp [intOf]; omega
      go_upto_region 12 with fail
      obtain ⟨ob, hob⟩ : ∃ ob, ob = Obj.cells #[.int .i64 dd, .int .i64 at_, .int .i64 kind, .slice ab lb cb, .int .u8 (x.toNat : Int), .slice ac lc cc, .slice ak lk ck, .int .i64 torn, .int .i64 part] 48 (0, 0) := ⟨_, rfl⟩
      have hb9 : Below wo.heap.size wo (wo.alloc (.cells #[.int .i64 dd, .int .i64 at_, .int .i64 kind, .slice ab lb cb, .int .u8 (x.toNat : Int), .slice ac lc cc, .slice ak lk ck, .int .i64 torn, .int .i64 part] 48)) := (Below.refl _ wo).alloc (Nat.le_refl _) _
      have hr9 := heap_alloc_new wo (.cells #[.int .i64 dd, .int .i64 at_, .int .i64 kind, .slice ab lb cb, .int .u8 (x.toNat : Int), .slice ac lc cc, .slice ak lk ck, .int .i64 torn, .int .i64 part] 48)
      generalize wo.alloc (.cells #[.int .i64 dd, .int .i64 at_, .int .i64 kind, .slice ab lb cb, .int .u8 (x.toNat : Int), .slice ac lc cc, .slice ak lk ck, .int .i64 torn, .int .i64 part] 48) = wa at hb9 hr9 ⊢
      obtain ⟨t, ht⟩ : ∃ t, t = wo.heap.size := ⟨_, rfl⟩
      have HDU : Hid (Duo Dev W wa g r t (Obj.cells #[.int .i64 dd, .int .i64 at_, .int .i64 kind, .slice ab lb cb, .int .u8 (x.toNat : Int), .slice ac lc cc, .slice ak lk ck, .int .i64 torn, .int .i64 part] 48 (0, 0)) D D F R) := Lib.hid ⟨HX.out.1.later Q hb9, by rw [ht]; exact hr9, fun hf => by have := Q.lt HX.out.1.dev t hf; omega, fun hf => by have := HX.out.1.ref.1 t hf; omega⟩
      have HSM := Lib.hid HX.out.2
      rw [← ht] at ⊢
      clear c0 c1 c2 c3 c4 c5 c6 c7 c8 hb9 hr9 ht HX hob
      have e0 : wa.cell? ⟨t, 0, none⟩ = some (.int .i64 dd) := (blk_cell HDU.out.blk 0 _ rfl).1
      have e1 : wa.cell? ⟨t, 1, none⟩ = some (.int .i64 at_) := (blk_cell HDU.out.blk 1 _ rfl).1
      have e2 : wa.cell? ⟨t, 2, none⟩ = some (.int .i64 kind) := (blk_cell HDU.out.blk 2 _ rfl).1
      have e3 : wa.cell? ⟨t, 3, none⟩ = some (.slice ab lb cb) := (blk_cell HDU.out.blk 3 _ rfl).1
      have e4 : wa.cell? ⟨t, 4, none⟩ = some (.int .u8 (x.toNat : Int)) := (blk_cell HDU.out.blk 4 _ rfl).1
      have e5 : wa.cell? ⟨t, 5, none⟩ = some (.slice ac lc cc) := (blk_cell HDU.out.blk 5 _ rfl).1
      have e6 : wa.cell? ⟨t, 6, none⟩ = some (.slice ak lk ck) := (blk_cell HDU.out.blk 6 _ rfl).1
      have e7 : wa.cell? ⟨t, 7, none⟩ = some (.int .i64 torn) := (blk_cell HDU.out.blk 7 _ rfl).1
      have e8 : wa.cell? ⟨t, 8, none⟩ = some (.int .i64 part) := (blk_cell HDU.out.blk 8 _ rfl).1
      by_cases hbig : 700 < lb ∨ 20 < lc ∨ 300 < lk
      · have hbw := HDU.out.both.below
        by_cases n1 : (700 : Int) < lb
        · go_wp2_with fail
          go_ret
          exact ⟨rfl, hbw⟩
        · by_cases n2 : (20 : Int) < lc
          · go_wp2_with fail
            go_ret
            exact ⟨rfl, hbw⟩
          · have n3 : (300 : Int) < lk := by omega
            go_wp2_with fail
            go_ret
            exact ⟨rfl, hbw⟩
      have n1 : ¬ (700 : Int) < lb := by omega
      have n2 : ¬ (20 : Int) < lc := by omega
      have n3 : ¬ (300 : Int) < lk := by omega
      have hlb700 : lb ≤ 700 := by omega
      have hlc20 : lc ≤ 20 := by omega
      clear hbig
      clear_value *
      by_cases d0 : dd = 0
      · subst d0
        as_aux_lemma =>
          have hfair := small_fair HSM.out (by omega)
          have HFAIR := Lib.hid hfair
          have cK := rPack_w kind (.slice ab lb cb) body wa (HBODY.out.1.later HDU.out.both.below) HWORDS.out.2.1
          obtain ⟨X, E, hp⟩ : ∃ X E, (X, E) = Pg.pack kind body := ⟨_, _, rfl⟩
          have HP := Lib.hid hp
          rw [← hp] at cK
          clear hfair hp
          go_wp2_with fail
          refine cK.mono ?_
          rintro e w2 ⟨u, rfl, hBu⟩
          have HD2 := Lib.hid (HDU.out.later Q hBu.below)
          have HU := Lib.hid hBu.in_.1
          clear cK hBu e0 e1 e2 e3 e4 e5 e6 e7 e8
          have e1 : w2.cell? ⟨t, 1, none⟩ = some (.int .i64 at_) := (blk_cell HD2.out.blk 1 _ rfl).1
          go_upto_if 89 with fail
          go_cut [12] from 49 to 208 (fun u12 wx => u12 = .int .i64 (Pg.write D at_ kind body).2 ∧ ∃ R2, Hid (Duo Dev W wx g r t (Obj.cells #[.int .i64 0, .int .i64 at_, .int .i64 kind, .slice ab lb cb, .int .u8 (x.toNat : Int), .slice ac lc cc, .slice ak lk ck, .int .i64 torn, .int .i64 part] 48 (0, 0)) D (Pg.write D at_ kind body).1 F R2))
          case first =>
            by_cases hE0 : E = 0
            · subst hE0
              have HWR : Hid (Pg.write D at_ kind body = Dv.write D at_ (Pg.sectors X)) := Lib.hid (by
                unfold Pg.write; rw [← HP.out]; rfl)
              have hX5 : X.length = 512 := by have := Pg.pack_len (k := kind) (b := body) (by rw [← HP.out]); rw [← HP.out] at this; exact this
              have HX8 := Lib.hid (Pg.sectors_512 hX5).1
              have HX5 := Lib.hid hX5
              clear hX5
              go_upto_region 18 with fail
              refine wp_region_noPanic ?_
              refine wp_region_held (S := fun W9 => W9.cell? ⟨t, 1, none⟩ = some (.int .i64 at_)) (by kernel_rfl) ?_
              change wpAnyH _ _ _ _ _ _ _ _ w2.drew
              have hb0 : Below w2.heap.size w2 w2.drew := (Below.refl _ w2).drew
              have HD4 := Lib.hid (HD2.out.later Q hb0)
              have HU4 := Lib.hid (HU.out.later hb0)
              generalize w2.drew = w4 at HD4 HU4 ⊢
              have s0 : w4.cell? ⟨t, 1, none⟩ = some (.int .i64 at_) := (blk_cell HD4.out.blk 1 _ rfl).1
              clear e1 hb0
              refine held_of_takes (fuel := 3) (by kernel_rfl) (fun _ _ _ _ _ h => h) s0 [0, 1, 2, 3] _ _ (by kernel_rfl) ?_
              refine Takes.val (.pointer (some ⟨r, 0, none⟩)) rfl rfl (fun _ _ => by kernel_rfl) ?_
              refine Takes.val (.pointer (some ⟨t, 1, none⟩)) rfl rfl (fun _ _ => by kernel_rfl) ?_
              refine Takes.val (.int .i64 at_) rfl rfl (fun W9 h9 => exec_load (s := 91) rfl (by kernel_rfl) (load_int h9)) ?_
              refine Takes.val u rfl rfl (fun _ _ => by kernel_rfl) ?_
              refine wpAnyH_all (rs := [4]) (by kernel_rfl) (by simp) (fun i hi => ?_)
              obtain rfl := List.mem_singleton.1 hi
              refine wpOp_calls (f := 16) (args := #[u]) rfl rfl (by kernel_rfl) ?_
              refine (rSectors_w u X w4 HU4.out (by rw [HX5.out]; decide)).mono ?_
              rintro e w6 ⟨u6, rfl, hS⟩
              have HD6 := Lib.hid (HD4.out.later Q hS.below)
              have hso := hS.out.anti (F' := R) (fun k hk => HD4.out.both.ref.1 k hk)
              refine ⟨_, rfl, (blk_cell HD6.out.blk 1 _ rfl).1, ?_⟩
              refine wpAnyH_all (rs := [5]) (by kernel_rfl) (by simp) (fun i hi => ?_)
              obtain rfl := List.mem_singleton.1 hi
              refine wpOp_calls (f := 15) (args := #[.pointer (some ⟨r, 0, none⟩), .int .i64 at_, u6]) rfl rfl (by kernel_rfl) ?_
              refine (rd_write HD6.out.both.ref HFAIR.out at_ u6 (Pg.sectors X) hso (by rw [HX8.out]; decide) HWORDS.out.1).mono ?_
              rintro e w7 ⟨R7, rfl, hR7, ht7, hm7⟩
              have HD7 := Lib.hid (HD6.out.right Q hR7 ht7 hm7)
              refine ⟨_, rfl, (blk_cell HD7.out.blk 1 _ rfl).1, ?_⟩
              refine held_of_takes (fuel := 0) (by kernel_rfl) (fun _ _ _ _ _ h => h) (blk_cell HD7.out.blk 1 _ rfl).1 [6] _ _ (by kernel_rfl) ?_
              refine Takes.val (.int .i64 (Dv.write D at_ (Pg.sectors X)).2) rfl rfl (fun _ _ => by kernel_rfl) ?_
              refine wpAnyH_done (P := Tryd.prog) (S := fun W9 => W9.cell? ⟨t, 1, none⟩ = some (.int .i64 at_)) (by kernel_rfl) ?_ 0
              refine NoPanic.normal ?_
              clear hS hso hR7 ht7 hm7
              go_simp
              go_wp2_with fail
              go_meet
              rw [HWR.out]
              exact ⟨rfl, R7, HD7⟩
            · have HWR : Hid (Pg.write D at_ kind body = (D, E)) := Lib.hid (by
                unfold Pg.write; rw [← HP.out]; exact if_pos hE0)
              have hE1 : (E == 0) = false := beq_eq_false_iff_ne.2 hE0
              go_wp2_with fail
              go_meet
              rw [HWR.out]
              exact ⟨rfl, R, HD2⟩
          case rest =>
            obtain ⟨rfl, R2, HDX⟩ := hcut
            clear HD2 HU e1
            have f1 : wc.cell? ⟨t, 1, none⟩ = some (.int .i64 at_) := (blk_cell HDX.out.blk 1 _ rfl).1
            have f2 : wc.cell? ⟨t, 2, none⟩ = some (.int .i64 kind) := (blk_cell HDX.out.blk 2 _ rfl).1
            have f3 : wc.cell? ⟨t, 3, none⟩ = some (.slice ab lb cb) := (blk_cell HDX.out.blk 3 _ rfl).1
            have hb9 : Below wc.heap.size wc (wc.alloc (.cells #[.slice ab lb cb] 23)) := (Below.refl _ wc).alloc (Nat.le_refl _) _
            have hso := bso_lit (F := F) wc #[.slice ab lb cb] [body] 1 rfl (by decide) (fun k hk => Q.lt HDX.out.both.dev k hk) (fun j9 hj9 => by
              match j9, hj9 with
              | 0, _ => exact ⟨_, rfl, bout_of HBODY.out.1 HBODY.out.2 HDX.out.both.high HDX.out.both.below⟩)
            have HD9 := Lib.hid (HDX.out.later Q hb9)
            have cW := P.write g D F at_ kind _ [body] _ HD9.out.both.dev HFAIR.out hso (by rw [List.flatten_singleton, ← HLS.out.1]; omega) (show 1 ≤ 1000 by decide) HWORDS.out.1 HWORDS.out.2.1 (P.env HE.out HD9.out.both.below)
            rw [List.flatten_singleton] at cW
            have HSW := Lib.hid (Pg.small_write HSM.out at_ kind body)
            obtain ⟨D2, E2, hwr⟩ : ∃ D2 E2, (D2, E2) = Pg.write D at_ kind body := ⟨_, _, rfl⟩
            rw [← hwr] at HSW HD9 cW ⊢
            clear hb9 hso hwr HDX HP
            go_wp2_with fail
            refine cW.mono ?_
            rintro e w7 ⟨F7, rfl, hD7, ht7, hm7⟩
            have HXE := Lib.hid (And.intro (HD9.out.left hD7 ht7 hm7).both HSW.out)
            clear cW hD7 ht7 hm7 f1 f2 f3
            go_wp2_with fail
            go_meet
            exact ⟨_, _, _, HXE⟩
      have d0' : (dd == 0) = false := beq_eq_false_iff_ne.2 d0
      by_cases d1 : dd = 1
      · subst d1
        as_aux_lemma =>
          have hfair := small_fair HSM.out (by omega)
          have HFAIR := Lib.hid hfair
          have HSW := Lib.hid (Dv.small_read HSM.out at_ 8)
          have HSZ := Lib.hid (HDU.out.both.ref.sizes at_)
          have cL := P.read g D F at_ wa HDU.out.both.dev hfair HWORDS.out.1 (P.env HE.out HDU.out.both.below)
          rw [Pg.read_is] at cL
          obtain ⟨D2, ls, er, hrd⟩ : ∃ D2 ls er, (D2, ls, er) = Dv.read D at_ 8 := ⟨_, _, _, rfl⟩
          have HRD := Lib.hid hrd
          rw [← hrd] at HSW HSZ cL
          obtain ⟨m, c, ok, hun⟩ : ∃ m c ok, (m, c, ok) = Pg.unp ls.flatten := ⟨_, _, _, rfl⟩
          have HUN := Lib.hid hun
          simp only [← hun] at cL
          obtain ⟨fe, hfe⟩ : ∃ fe : Int, fe = if er = 0 then (if ok = true then 0 else 33) else er := ⟨_, rfl⟩
          have HFE := Lib.hid hfe
          rw [← hfe] at cL
          clear hfair hrd hun hfe
          go_wp2_with fail
          refine cL.mono ?_
          rintro e w2 ⟨F2, u, rfl, hD2, ht2, hm2, hu⟩
          have HD2 := Lib.hid (HDU.out.left hD2 ht2 hm2)
          have HU := Lib.hid (And.intro hu.1 hu.2.1)
          have f1 : w2.cell? ⟨t, 1, none⟩ = some (.int .i64 at_) := (blk_cell HD2.out.blk 1 _ rfl).1
          have cR := rd_read HD2.out.both.ref HFAIR.out at_ 8 HWORDS.out.1 (by decide)
          rw [← HRD.out] at cR
          clear cL hD2 ht2 hm2 hu e0 e1 e2 e3 e4 e5 e6 e7 e8
          go_wp2_with fail
          refine cR.mono ?_
          rintro e w3 ⟨v, R2, rfl, hv, hR3, ht3, hm3, hk3⟩
          have HD3 := Lib.hid (HD2.out.right Q hR3 ht3 hm3)
          have HU3 := Lib.hid (And.intro (hk3 _ _ HU.out.1) HU.out.2)
          have HV := Lib.hid hv
          clear cR hR3 ht3 hm3 hk3 f1 HU
          obtain ⟨av, cv, rfl, hlv, hcv, hgv⟩ := hv
          obtain ⟨N, hN⟩ : ∃ N, N = ls.length := ⟨_, rfl⟩
          have HN := Lib.hid hN
          have HGV := Lib.hid hgv
          rw [← hN] at hlv ⊢
          have hN8 : N ≤ 8 := by rw [hN]; exact HSZ.out.1
          clear hN hgv HV
          go_wp2_with fail
          go_loopw [18, 19] (fun y i wr => ∃ k : Nat, k ≤ N ∧ i = .int .i64 k ∧ Hid (Buf w3 wr y (ls.take k).flatten)) (fun _ i _ => N - (intOf i).toNat)
          case atStart => exact ⟨0, Nat.zero_le _, rfl, Lib.hid (Buf.nil w3)⟩
          case round =>
            obtain ⟨k, hk, rfl, hB⟩ := hrel
            by_cases hlt : k < N
            · have hki : (k : Int) < N := by omega
              have k0 : k < ls.length := by rw [← HN.out]; exact hlt
              obtain ⟨bv, ov, hao, hbl, hcell⟩ := HGV.out.resolve_left (fun e => by rw [e] at k0; cases k0)
              subst hao
              obtain ⟨y1, hy1, hbin, hnil⟩ := hcell k k0
              have HS := Lib.hid (fl_snoc ls k k0)
              have hy2 := cell_later hB.out.2 hy1
              have hbin' := hbin.later hB.out.2
              have hl64 : ls[k].length = 64 := HSZ.out.2 _ (List.getElem_mem k0)
              have hpre : (ls.take k).flatten.length ≤ 512 := by
                have h9 := Pg.flat_64 (ls := ls.take k) (fun z hz => HSZ.out.2 z (List.mem_of_mem_take hz))
                rw [h9, List.length_take]; omega
              generalize ls[k] = z at *
              obtain ⟨a2, c2, rfl, hpc, hp9, hpg⟩ := hbin
              rw [hl64] at hbin' hy2 hpc hnil
              have hlen : (ls.take k).flatten.length + z.length ≤ 1000000000 := by omega
              have hBB := hB.out
              clear hpg hy1 hcell hB
              generalize (ls.take k).flatten = pre at *
              go_wp2_with (at_builtin; refine appBs hBB hbin' hnil hlen rfl _ _ rfl rfl rfl ?_; intro v' w9 hB2 _)
              go_roundw
              case rel => exact ⟨k + 1, by omega, by go_num, Lib.hid (by rw [HS.out]; exact hB2)⟩
              case measure => simp [intOf]; omega
            · have hki : ¬ (k : Int) < N := by omega
              have HE2 : Hid ((ls.take k).flatten = ls.flatten) := Lib.hid (by rw [show k = ls.length by rw [← HN.out]; omega, List.take_length])
              have hB2 := hB.out
              rw [HE2.out] at hB2
              have hB3 := hB2.in_
              have cU := rUnpack_w _ ls.flatten wr hB3.1 hB3.2
              rw [← HUN.out] at cU
              have HD4 := Lib.hid (HD3.out.later Q hB2.below)
              have HU4 := Lib.hid (And.intro (HU3.out.1.later hB2.below) HU3.out.2)
              clear hlt hk hB hB2 hB3 HE2 HU3
              go_wp2_with fail
              refine cU.mono ?_
              rintro e w5 ⟨u5, rfl, hb5, hx5, hn5⟩
              have HXE := Lib.hid (And.intro (HD4.out.later Q hb5).both HSW.out)
              have hcz := (HU4.out.1.later hb5).all HU4.out.2
              have hcy := hx5.all hn5
              clear cU hb5 hx5 hn5 HU4
              by_cases her : er = 0
              · subst her
                cases ok with
                | true =>
                  have hfe : fe = 0 := HFE.out
                  subst hfe
                  go_wp2_with fail
                  go_meet
                  exact ⟨_, _, _, HXE⟩
                | false =>
                  have hfe : fe = 33 := HFE.out
                  subst hfe
                  go_wp2_with fail
                  go_meet
                  exact ⟨_, _, _, HXE⟩
              · have her1 : (er == 0) = false := beq_eq_false_iff_ne.2 her
                have hfe : fe = er := by have := HFE.out; rw [if_neg her] at this; exact this
                subst hfe
                go_wp2_with fail
                go_meet
                exact ⟨_, _, _, HXE⟩
      have d1' : (dd == 1) = false := beq_eq_false_iff_ne.2 d1
      by_cases d2 : dd = 2
      · subst d2
        have hfair := small_fair HSM.out (by omega)
        have HFAIR := Lib.hid hfair
        have hmk : (Instr.makeSlice 23 (.int .i64 64) (.int .i64 64)).run Tryd.prog wa = .ok (.slice (some ⟨wa.heap.size, 0, none⟩) 64 64) (wa.alloc (.cells (madeCells #[.int .u8 0] 64) 5)) := run_make_row' (P := Tryd.prog) 23 5 (.int .u8 0) 1 Tryd.underlying23 bytes_info rfl .i64 .i64 64 (by omega) (by omega) wa
        have hm1 := Blk.made wa 64
        have hb1 : Below wa.heap.size wa (wa.alloc (.cells (madeCells #[.int .u8 0] 64) 5)) := (Below.refl _ wa).alloc (Nat.le_refl _) _
        have q4 := cell_later hb1 e4
        go_upto_region 36 with fail
        clear hfair e1 e2 e3 e5 e6 e7 e8
        generalize wa.alloc (.cells (madeCells #[.int .u8 0] 64) 5) = w1 at hm1 hb1 q4 ⊢
        obtain ⟨sb, hsb⟩ : ∃ sb, sb = wa.heap.size := ⟨_, rfl⟩
        have HSB : Hid (wa.heap.size ≤ sb) := Lib.hid (by omega)
        rw [← hsb] at hm1 ⊢
        clear hsb hmk e0 e4
        have h5 := hm1.cell 5 (by rw [List.length_replicate]; decide)
        have s5 := h5.1
        have g5 := h5.2
        obtain ⟨sec, hsec⟩ : ∃ sec, sec = (List.replicate 64 (0 : UInt8)).set 5 x := ⟨_, rfl⟩
        have hm2 : Blk (w1.setCell ⟨sb, 5, none⟩ (.int .u8 (x.toNat : Int))) sb sec := by rw [hsec]; exact hm1.set 5 x _ rfl
        have hsl : sec.length = 64 := by rw [hsec]; simp
        have hb2 : Below wa.heap.size wa (w1.setCell ⟨sb, 5, none⟩ (.int .u8 (x.toNat : Int))) := set_below hb1 HSB.out
        have HSL := Lib.hid hsl
        have HT2 : Hid (Tri Dev W (w1.setCell ⟨sb, 5, none⟩ (.int .u8 (x.toNat : Int))) g r t (Obj.cells #[.int .i64 2, .int .i64 at_, .int .i64 kind, .slice ab lb cb, .int .u8 (x.toNat : Int), .slice ac lc cc, .slice ak lk ck, .int .i64 torn, .int .i64 part] 48 (0, 0)) D D F R sb sec) := Lib.hid ⟨HDU.out.later Q hb2, hm2, fun hf => by have := Q.lt HDU.out.both.dev sb hf; have := HSB.out; omega, fun hf => by have := HDU.out.both.ref.1 sb hf; have := HSB.out; omega⟩
        clear h5 hm1 hb1 hsec hsl hm2 hb2
        go_upto_region 37 with fail
        clear s5 g5 q4 HDU
        generalize w1.setCell ⟨sb, 5, none⟩ (.int .u8 (x.toNat : Int)) = w2 at HT2 ⊢
        go_cut [182] from 49 to 208 (fun u182 wx => u182 = .bool false ∧ ∃ D2 F2 R2, Hid (Both Dev W wx g r D2 D2 F2 R2 ∧ Dv.Small (j + 1) D2))
        case first =>
          refine wp_region_noPanic ?_
          refine wp_region_held (S := fun W9 => W9.cell? ⟨t, 1, none⟩ = some (.int .i64 at_)) (by kernel_rfl) ?_
          change wpAnyH _ _ _ _ _ _ _ _ w2.drew
          have hb0 : Below w2.heap.size w2 w2.drew := (Below.refl _ w2).drew
          have HT4 := Lib.hid (HT2.out.later Q hb0)
          generalize w2.drew = w4 at HT4 ⊢
          clear hb0 HT2
          have s0 : w4.cell? ⟨t, 1, none⟩ = some (.int .i64 at_) := (blk_cell HT4.out.duo.blk 1 _ rfl).1
          refine held_of_takes (fuel := 5) (by kernel_rfl) (fun _ _ _ _ _ h => h) s0 [0, 1, 2, 3, 6, 7, 8, 9] _ _ (by kernel_rfl) ?_
          refine Takes.val (.pointer (some ⟨g, 0, none⟩)) rfl rfl (fun _ _ => by kernel_rfl) ?_
          refine Takes.val (.pointer (some ⟨t, 1, none⟩)) rfl rfl (fun _ _ => by kernel_rfl) ?_
          refine Takes.val (.int .i64 at_) rfl rfl (fun W9 h9 => exec_load (s := 171) rfl (by kernel_rfl) (load_int h9)) ?_
          refine Takes.val (.slice (some ⟨sb, 0, none⟩) 64 64) rfl rfl (fun _ _ => by kernel_rfl) ?_
          refine Takes.val (.pointer (some ⟨r, 0, none⟩)) rfl rfl (fun _ _ => by kernel_rfl) ?_
          refine Takes.val (.pointer (some ⟨t, 1, none⟩)) rfl rfl (fun _ _ => by kernel_rfl) ?_
          refine Takes.val (.int .i64 at_) rfl rfl (fun W9 h9 => exec_load (s := 177) rfl (by kernel_rfl) (load_int h9)) ?_
          refine Takes.val (.slice (some ⟨sb, 0, none⟩) 64 64) rfl rfl (fun _ _ => by kernel_rfl) ?_
          clear s0
          refine wpAnyH_all (rs := [4, 10]) (by kernel_rfl) (by simp) (fun i hi => ?_)
          simp only [List.mem_cons, List.not_mem_nil, or_false] at hi
          rcases hi with rfl | rfl
          · obtain ⟨T5, b1⟩ := HT4.out.box Q HSL.out

            refine wpOp_make (v := .slice (some ⟨w4.heap.size, 0, none⟩) 1 1) (w' := w4.alloc (.cells #[.slice (some ⟨sb, 0, none⟩) 64 64] 23)) rfl rfl (by kernel_rfl) ⟨(blk_cell T5.duo.blk 1 _ rfl).1, ?_⟩
            generalize w4.alloc (.cells #[.slice (some ⟨sb, 0, none⟩) 64 64] 23) = w5 at *
            generalize w4.heap.size = pw5 at *
            refine wpAnyH_all (rs := [5, 10]) (by kernel_rfl) (by simp) (fun i hi => ?_)
            simp only [List.mem_cons, List.not_mem_nil, or_false] at hi
            rcases hi with rfl | rfl
            · refine wpOp_calls (f := 20) (args := #[.pointer (some ⟨g, 0, none⟩), .int .i64 at_, .slice (some ⟨pw5, 0, none⟩) 1 1]) rfl rfl (by kernel_rfl) ?_
              refine (Q.write g D F at_ _ [sec] w5 T5.duo.both.dev HFAIR.out (b1.anti (fun k hk => .inl hk)) (show 1 ≤ 1000 by decide) HWORDS.out.1 (P.env HE.out T5.duo.both.below)).mono ?_
              rintro e w6 ⟨F2, rfl, hD2, ht2, hm2⟩
              have T6 := T5.left hD2 ht2 hm2

              refine ⟨_, rfl, (blk_cell T6.duo.blk 1 _ rfl).1, ?_⟩
              refine wpAnyH_all (rs := [10]) (by kernel_rfl) (by simp) (fun i hi => ?_)
              obtain rfl := List.mem_singleton.1 hi
              obtain ⟨T7, b2⟩ := T6.box Q HSL.out

              refine wpOp_make (v := .slice (some ⟨w6.heap.size, 0, none⟩) 1 1) (w' := w6.alloc (.cells #[.slice (some ⟨sb, 0, none⟩) 64 64] 23)) rfl rfl (by kernel_rfl) ⟨(blk_cell T7.duo.blk 1 _ rfl).1, ?_⟩
              generalize w6.alloc (.cells #[.slice (some ⟨sb, 0, none⟩) 64 64] 23) = w7 at *
              generalize w6.heap.size = pw7 at *
              refine wpAnyH_all (rs := [11]) (by kernel_rfl) (by simp) (fun i hi => ?_)
              obtain rfl := List.mem_singleton.1 hi
              refine wpOp_calls (f := 15) (args := #[.pointer (some ⟨r, 0, none⟩), .int .i64 at_, .slice (some ⟨pw7, 0, none⟩) 1 1]) rfl rfl (by kernel_rfl) ?_
              refine (rd_write T7.duo.both.ref HFAIR.out at_ _ [sec] (b2.anti (fun k hk => .inr hk)) (show 1 ≤ 1000 by decide) HWORDS.out.1).mono ?_
              rintro e w9 ⟨R2, rfl, hR2, ht3, hm3⟩
              have T9 := T7.right Q hR2 ht3 hm3
              refine ⟨_, rfl, (blk_cell T9.duo.blk 1 _ rfl).1, ?_⟩
              refine held_of_takes (fuel := 0) (by kernel_rfl) (fun _ _ _ _ _ h => h) (blk_cell T9.duo.blk 1 _ rfl).1 [12] _ _ (by kernel_rfl) ?_
              refine Takes.val (.bool false) rfl rfl (fun W9 _ => by go_simp) ?_
              refine wpAnyH_done (P := Tryd.prog) (S := fun W9 => W9.cell? ⟨t, 1, none⟩ = some (.int .i64 at_)) (by kernel_rfl) ?_ 0
              refine NoPanic.normal ?_
              have HXE := Lib.hid (And.intro T9.duo.both (Dv.small_write HSM.out at_ [sec] (show 1 ≤ 8 by decide)))
              clear T9 hR2 ht3 hm3 hD2 ht2 hm2
              go_simp
              go_wp2_with fail
              go_meet
              exact ⟨rfl, _, _, _, HXE⟩
            · obtain ⟨T6, b2⟩ := T5.box Q HSL.out
              have b1 := bs_later b1 ((Below.refl _ w5).alloc (Nat.le_refl _) (.cells #[.slice (some ⟨sb, 0, none⟩) 64 64] 23))
              refine wpOp_make (v := .slice (some ⟨w5.heap.size, 0, none⟩) 1 1) (w' := w5.alloc (.cells #[.slice (some ⟨sb, 0, none⟩) 64 64] 23)) rfl rfl (by kernel_rfl) ⟨(blk_cell T6.duo.blk 1 _ rfl).1, ?_⟩
              generalize w5.alloc (.cells #[.slice (some ⟨sb, 0, none⟩) 64 64] 23) = w6 at *
              generalize w5.heap.size = pw6 at *
              refine wpAnyH_all (rs := [5]) (by kernel_rfl) (by simp) (fun i hi => ?_)
              obtain rfl := List.mem_singleton.1 hi
              refine wpOp_calls (f := 20) (args := #[.pointer (some ⟨g, 0, none⟩), .int .i64 at_, .slice (some ⟨pw5, 0, none⟩) 1 1]) rfl rfl (by kernel_rfl) ?_
              refine (Q.write g D F at_ _ [sec] w6 T6.duo.both.dev HFAIR.out (b1.anti (fun k hk => .inl hk)) (show 1 ≤ 1000 by decide) HWORDS.out.1 (P.env HE.out T6.duo.both.below)).mono ?_
              rintro e w7 ⟨F2, rfl, hD2, ht2, hm2⟩
              have T7 := T6.left hD2 ht2 hm2
              have b2 := bs_left b2 ht2 hm2
              refine ⟨_, rfl, (blk_cell T7.duo.blk 1 _ rfl).1, ?_⟩
              refine wpAnyH_all (rs := [11]) (by kernel_rfl) (by simp) (fun i hi => ?_)
              obtain rfl := List.mem_singleton.1 hi
              refine wpOp_calls (f := 15) (args := #[.pointer (some ⟨r, 0, none⟩), .int .i64 at_, .slice (some ⟨pw6, 0, none⟩) 1 1]) rfl rfl (by kernel_rfl) ?_
              refine (rd_write T7.duo.both.ref HFAIR.out at_ _ [sec] (b2.anti (fun k hk => .inr hk)) (show 1 ≤ 1000 by decide) HWORDS.out.1).mono ?_
              rintro e w9 ⟨R2, rfl, hR2, ht3, hm3⟩
              have T9 := T7.right Q hR2 ht3 hm3
              refine ⟨_, rfl, (blk_cell T9.duo.blk 1 _ rfl).1, ?_⟩
              refine held_of_takes (fuel := 0) (by kernel_rfl) (fun _ _ _ _ _ h => h) (blk_cell T9.duo.blk 1 _ rfl).1 [12] _ _ (by kernel_rfl) ?_
              refine Takes.val (.bool false) rfl rfl (fun W9 _ => by go_simp) ?_
              refine wpAnyH_done (P := Tryd.prog) (S := fun W9 => W9.cell? ⟨t, 1, none⟩ = some (.int .i64 at_)) (by kernel_rfl) ?_ 0
              refine NoPanic.normal ?_
              have HXE := Lib.hid (And.intro T9.duo.both (Dv.small_write HSM.out at_ [sec] (show 1 ≤ 8 by decide)))
              clear T9 hR2 ht3 hm3 hD2 ht2 hm2
              go_simp
              go_wp2_with fail
              go_meet
              exact ⟨rfl, _, _, _, HXE⟩
          · obtain ⟨T5, b2⟩ := HT4.out.box Q HSL.out

            refine wpOp_make (v := .slice (some ⟨w4.heap.size, 0, none⟩) 1 1) (w' := w4.alloc (.cells #[.slice (some ⟨sb, 0, none⟩) 64 64] 23)) rfl rfl (by kernel_rfl) ⟨(blk_cell T5.duo.blk 1 _ rfl).1, ?_⟩
            generalize w4.alloc (.cells #[.slice (some ⟨sb, 0, none⟩) 64 64] 23) = w5 at *
            generalize w4.heap.size = pw5 at *
            refine wpAnyH_all (rs := [4]) (by kernel_rfl) (by simp) (fun i hi => ?_)
            obtain rfl := List.mem_singleton.1 hi
            obtain ⟨T6, b1⟩ := T5.box Q HSL.out
            have b2 := bs_later b2 ((Below.refl _ w5).alloc (Nat.le_refl _) (.cells #[.slice (some ⟨sb, 0, none⟩) 64 64] 23))
            refine wpOp_make (v := .slice (some ⟨w5.heap.size, 0, none⟩) 1 1) (w' := w5.alloc (.cells #[.slice (some ⟨sb, 0, none⟩) 64 64] 23)) rfl rfl (by kernel_rfl) ⟨(blk_cell T6.duo.blk 1 _ rfl).1, ?_⟩
            generalize w5.alloc (.cells #[.slice (some ⟨sb, 0, none⟩) 64 64] 23) = w6 at *
            generalize w5.heap.size = pw6 at *
            refine wpAnyH_all (rs := [5]) (by kernel_rfl) (by simp) (fun i hi => ?_)
            obtain rfl := List.mem_singleton.1 hi
            refine wpOp_calls (f := 20) (args := #[.pointer (some ⟨g, 0, none⟩), .int .i64 at_, .slice (some ⟨pw6, 0, none⟩) 1 1]) rfl rfl (by kernel_rfl) ?_
            refine (Q.write g D F at_ _ [sec] w6 T6.duo.both.dev HFAIR.out (b1.anti (fun k hk => .inl hk)) (show 1 ≤ 1000 by decide) HWORDS.out.1 (P.env HE.out T6.duo.both.below)).mono ?_
            rintro e w7 ⟨F2, rfl, hD2, ht2, hm2⟩
            have T7 := T6.left hD2 ht2 hm2
            have b2 := bs_left b2 ht2 hm2
            refine ⟨_, rfl, (blk_cell T7.duo.blk 1 _ rfl).1, ?_⟩
            refine wpAnyH_all (rs := [11]) (by kernel_rfl) (by simp) (fun i hi => ?_)
            obtain rfl := List.mem_singleton.1 hi
            refine wpOp_calls (f := 15) (args := #[.pointer (some ⟨r, 0, none⟩), .int .i64 at_, .slice (some ⟨pw5, 0, none⟩) 1 1]) rfl rfl (by kernel_rfl) ?_
            refine (rd_write T7.duo.both.ref HFAIR.out at_ _ [sec] (b2.anti (fun k hk => .inr hk)) (show 1 ≤ 1000 by decide) HWORDS.out.1).mono ?_
            rintro e w9 ⟨R2, rfl, hR2, ht3, hm3⟩
            have T9 := T7.right Q hR2 ht3 hm3
            refine ⟨_, rfl, (blk_cell T9.duo.blk 1 _ rfl).1, ?_⟩
            refine held_of_takes (fuel := 0) (by kernel_rfl) (fun _ _ _ _ _ h => h) (blk_cell T9.duo.blk 1 _ rfl).1 [12] _ _ (by kernel_rfl) ?_
            refine Takes.val (.bool false) rfl rfl (fun W9 _ => by go_simp) ?_
            refine wpAnyH_done (P := Tryd.prog) (S := fun W9 => W9.cell? ⟨t, 1, none⟩ = some (.int .i64 at_)) (by kernel_rfl) ?_ 0
            refine NoPanic.normal ?_
            have HXE := Lib.hid (And.intro T9.duo.both (Dv.small_write HSM.out at_ [sec] (show 1 ≤ 8 by decide)))
            clear T9 hR2 ht3 hm3 hD2 ht2 hm2
            go_simp
            go_wp2_with fail
            go_meet
            exact ⟨rfl, _, _, _, HXE⟩
        case rest =>
          obtain ⟨rfl, D2, F2, R2, HXE⟩ := hcut
          clear HT2
          go_wp2_with fail
          go_meet
          exact ⟨_, _, _, HXE⟩
      have d2' : (dd == 2) = false := beq_eq_false_iff_ne.2 d2
      by_cases d3 : dd = 3
      · subst d3
        as_aux_lemma =>
          have hfair := small_fair HSM.out (by omega)
          have cL := Q.flush g D F wa HDU.out.both.dev hfair (P.env HE.out HDU.out.both.below)
          go_wp2_with fail
          refine cL.mono ?_
          rintro e w2 ⟨F2, rfl, hD2, ht2, hm2⟩
          have HD2 := Lib.hid (HDU.out.left hD2 ht2 hm2)
          have f1 : w2.cell? ⟨t, 1, none⟩ = some (.int .i64 at_) := (blk_cell HD2.out.blk 1 _ rfl).1
          have f5 : w2.cell? ⟨t, 5, none⟩ = some (.slice ac lc cc) := (blk_cell HD2.out.blk 5 _ rfl).1
          have f6 : w2.cell? ⟨t, 6, none⟩ = some (.slice ak lk ck) := (blk_cell HD2.out.blk 6 _ rfl).1
          have f7 : w2.cell? ⟨t, 7, none⟩ = some (.int .i64 torn) := (blk_cell HD2.out.blk 7 _ rfl).1
          have f8 : w2.cell? ⟨t, 8, none⟩ = some (.int .i64 part) := (blk_cell HD2.out.blk 8 _ rfl).1
          have cR := rd_flush HD2.out.both.ref hfair
          clear cL hD2 ht2 hm2 e0 e1 e2 e3 e4 e5 e6 e7 e8 hfair
          go_wp2_with fail
          refine cR.mono ?_
          rintro e w3 ⟨R2, rfl, hR3, ht3, hm3⟩
          have HD3 := Lib.hid (HD2.out.right Q hR3 ht3 hm3)
          have HXE := Lib.hid (And.intro HD3.out.both (Dv.small_flush HSM.out))
          clear cR hR3 ht3 hm3 f1 f5 f6 f7 f8
          go_wp2_with fail
          go_meet
          exact ⟨_, _, _, HXE⟩
      have d3' : (dd == 3) = false := beq_eq_false_iff_ne.2 d3
      by_cases d4 : dd = 4
      · subst d4
        as_aux_lemma =>
          have hfair := small_fair HSM.out (by omega)
          have cL := Q.fail g D F (.slice ac lc cc) calls wa HDU.out.both.dev hfair (HCALLS.out.out HDU.out.both.high HDU.out.both.below) (by rw [← HLS.out.2.1]; omega) (P.env HE.out HDU.out.both.below)
          go_wp2_with fail
          refine cL.mono ?_
          rintro e w2 ⟨F2, x2, rfl, hD2, ht2, hm2⟩
          have HD2 := Lib.hid (HDU.out.left hD2 ht2 hm2)
          have f1 : w2.cell? ⟨t, 1, none⟩ = some (.int .i64 at_) := (blk_cell HD2.out.blk 1 _ rfl).1
          have f5 : w2.cell? ⟨t, 5, none⟩ = some (.slice ac lc cc) := (blk_cell HD2.out.blk 5 _ rfl).1
          have f6 : w2.cell? ⟨t, 6, none⟩ = some (.slice ak lk ck) := (blk_cell HD2.out.blk 6 _ rfl).1
          have f7 : w2.cell? ⟨t, 7, none⟩ = some (.int .i64 torn) := (blk_cell HD2.out.blk 7 _ rfl).1
          have f8 : w2.cell? ⟨t, 8, none⟩ = some (.int .i64 part) := (blk_cell HD2.out.blk 8 _ rfl).1
          have cR := rd_fail HD2.out.both.ref (.slice ac lc cc) calls (HCALLS.out.bad HD2.out.both.below)
          clear cL hD2 ht2 hm2 e0 e1 e2 e3 e4 e5 e6 e7 e8 hfair
          go_wp2_with fail
          refine cR.mono ?_
          rintro e w3 ⟨R2, rfl, hR3, ht3, hm3⟩
          have HD3 := Lib.hid (HD2.out.right Q hR3 ht3 hm3)
          have HXE := Lib.hid (And.intro HD3.out.both (Dv.small_fail HSM.out calls (by rw [← HLS.out.2.1]; exact hlc20)))
          clear cR hR3 ht3 hm3 f1 f5 f6 f7 f8
          go_wp2_with fail
          go_meet
          exact ⟨_, _, _, HXE⟩
      have d4' : (dd == 4) = false := beq_eq_false_iff_ne.2 d4
      by_cases d5 : dd = 5
      · subst d5
        as_aux_lemma =>
          have hfair := small_fair HSM.out (by omega)
          have cL := Q.crash g D F (.slice ak lk ck) keep torn part wa HDU.out.both.dev hfair (HKEEP.out.in_ HDU.out.both.high HDU.out.both.below) HWORDS.out.2.2.1 HWORDS.out.2.2.2 (P.env HE.out HDU.out.both.below)
          go_wp2_with fail
          refine cL.mono ?_
          rintro e w2 ⟨F2, x2, rfl, hD2, ht2, hm2⟩
          have HD2 := Lib.hid (HDU.out.left hD2 ht2 hm2)
          have f1 : w2.cell? ⟨t, 1, none⟩ = some (.int .i64 at_) := (blk_cell HD2.out.blk 1 _ rfl).1
          have f5 : w2.cell? ⟨t, 5, none⟩ = some (.slice ac lc cc) := (blk_cell HD2.out.blk 5 _ rfl).1
          have f6 : w2.cell? ⟨t, 6, none⟩ = some (.slice ak lk ck) := (blk_cell HD2.out.blk 6 _ rfl).1
          have f7 : w2.cell? ⟨t, 7, none⟩ = some (.int .i64 torn) := (blk_cell HD2.out.blk 7 _ rfl).1
          have f8 : w2.cell? ⟨t, 8, none⟩ = some (.int .i64 part) := (blk_cell HD2.out.blk 8 _ rfl).1
          have cR := rd_crash HD2.out.both.ref hfair (.slice ak lk ck) keep torn part (HKEEP.out.in_ HD2.out.both.ref.2.1 HD2.out.both.below)
          clear cL hD2 ht2 hm2 e0 e1 e2 e3 e4 e5 e6 e7 e8 hfair
          go_wp2_with fail
          refine cR.mono ?_
          rintro e w3 ⟨R2, rfl, hR3, ht3, hm3⟩
          have HD3 := Lib.hid (HD2.out.right Q hR3 ht3 hm3)
          have HXE := Lib.hid (And.intro HD3.out.both (Dv.small_crash HSM.out keep torn part))
          clear cR hR3 ht3 hm3 f1 f5 f6 f7 f8
          go_wp2_with fail
          go_meet
          exact ⟨_, _, _, HXE⟩
      have d5' : (dd == 5) = false := beq_eq_false_iff_ne.2 d5
      as_aux_lemma =>
        have HXE := Lib.hid (And.intro HDU.out.both (HSM.out.up (Nat.le_succ j)))
        go_wp2_with fail
        go_meet
        exact ⟨_, _, _, HXE⟩
    · have hji : ¬ (j : Int) < L := by omega
      have cR := P.read_nil 0 wo (P.env HE.out HX.out.1.below)
      go_wp2_with fail
      refine cR.mono ?_
      rintro e w4 ⟨x, y, rfl, hb4⟩
      have HB4 := Lib.hid (bt5 HX.out.1.below hb4)
      have cW := P.write_nil 0 1 (.slice none 0 0) w4 (P.env HE.out HB4.out)
      clear cR hb4
      go_wp2_with fail
      refine cW.mono ?_
      rintro e w5 ⟨rfl, hb5⟩
      go_wp2_with fail
      go_ret
      exact ⟨rfl, bt5 HB4.out hb5⟩
end
end Go.Proofs.YtlipgphmhkjnpaaDoor
