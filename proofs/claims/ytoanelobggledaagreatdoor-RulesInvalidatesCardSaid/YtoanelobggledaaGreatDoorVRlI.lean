/- Package rules, the document's side: which URIs hold no more. -/
import Derived.Test.YtoanelobggledaaGreatDoorVTgRef
import Derived.Test.YtoanelobggledaaGreatDoorVRl3
import Derived.Test.YtoanelobggledaaGreatDoorVRlH
import Derived.Test.YtoanelobggledaaGreatDoorVRpD
namespace Go.Proofs.YtoanelobggledaaGreatDoor
open Go.RowKit

set_option maxHeartbeats 6400000 in
set_option maxRecDepth 100000 in
theorem rInvalid_w (u : Tg.U) (m : List UInt8) (a b c : ByteArray) (st mi : Int) (fv bv : Value) (fs : List Fld.F) (w : World) (hf : FIn w fv fs) (sb : Sl bv) (hs : Mid fs) (hh : u.host.length ≤ 300) (hp : u.path.length ≤ 1000) (hk : u.port ≤ 9223372036854775807) :
    Calls Tryz.prog 33 #[uval u, .string (str m), mv a b st c mi fv bv] w fun e w' => (∃ v, e = .returned v ∧ UIn w' v (Rl.invalid u m st fs)) ∧ Below w.heap.size w w' := by
  obtain ⟨fa, fc, hfv, hx9⟩ := id hf
  obtain ⟨ba, bl, bc, rfl⟩ := sb
  clear hx9
  have cN := Lib.hid (fun nm W' (hb : Below w.heap.size w W') (hn : nm.length ≤ 100) => rOne_w a b c st mi fv (.slice ba bl bc) fs nm W' (hf.later hb) hs (by omega))
  rw [hfv] at cN ⊢
  clear hfv
  obtain ⟨W, hW⟩ : ∃ W, W = (w.alloc (.cells #[.string (str u.host), .int .i64 u.port, .string (str u.path)] 46)).alloc (.cells #[.string a, .string b, .int .i64 st, .string c, .int .i64 mi, .slice fa fs.length fc, .slice ba bl bc] 27) := ⟨_, rfl⟩
  have hbw : Below w.heap.size w W := by rw [hW]; exact ((Below.refl _ w).alloc (Nat.le_refl _) _).alloc (by simp) _
  have h3 := pair_at w (.cells #[.string (str u.host), .int .i64 u.port, .string (str u.path)] 46) (.cells #[.string a, .string b, .int .i64 st, .string c, .int .i64 mi, .slice fa fs.length fc, .slice ba bl bc] 27)
  rw [← hW] at h3
  have hO : OwnV w W w.heap.size (w.heap.size + 1) #[.string (str u.host), .int .i64 u.port, .string (str u.path)] #[.string a, .string b, .int .i64 st, .string c, .int .i64 mi, .slice fa fs.length fc, .slice ba bl bc] := ⟨h3.1, h3.2, hbw⟩
  have HI : Hid ((Rl.safe m || decide (st < 200) || decide (400 ≤ st)) = true → Rl.invalid u m st fs = []) := Lib.hid fun h => by
    unfold Rl.invalid; rw [if_pos (by simpa [or_assoc] using h)]
  have HJ : Hid ((Rl.safe m || decide (st < 200) || decide (400 ≤ st)) = false → uriL u fs 2 = Rl.invalid u m st fs) := Lib.hid fun h => by
    have h4 : ¬ (Rl.safe m = true ∨ st < 200 ∨ 400 ≤ st) := fun e => by
      have e2 : (Rl.safe m || decide (st < 200) || decide (400 ≤ st)) = true := by simpa [or_assoc] using e
      rw [h] at e2; cases e2
    unfold Rl.invalid; rw [if_neg h4]; rfl
  clear h3 hf
  unfold mv mcell at *
  generalize hfl : fs.length = fl at *
  clear hfl
  obtain ⟨m0, m1, m2, m3, m4, m5, m6⟩ := cells7_at hO.msg
  rw [uval_u]
  have HS1 : Hid (m = Rl.mGet ∨ m = Rl.mHead ∨ m = Rl.mOptions ∨ m = Rl.mTrace → Rl.safe m = true) := Lib.hid fun h => by unfold Rl.safe; exact decide_eq_true h
  have HS0 : Hid (¬ (m = Rl.mGet ∨ m = Rl.mHead ∨ m = Rl.mOptions ∨ m = Rl.mTrace) → Rl.safe m = false) := Lib.hid fun h => by unfold Rl.safe; exact decide_eq_false h
  obtain ⟨sf, hsf⟩ : ∃ sf, sf = Rl.safe m := ⟨_, rfl⟩
  rw [← hsf] at HI HJ HS1 HS0
  clear hsf
  go_enter Tryz.func33, Tryz.ntmps33
  go_upto_region 1 with fail
  rw [← hW]
  clear hW
  generalize w.heap.size + 1 = gB at *
  obtain ⟨gA, hgA⟩ : ∃ gA, gA = w.heap.size := ⟨_, rfl⟩
  rw [← hgA] at hO ⊢
  have HGA := Lib.hid hgA
  clear hgA
  go_cut [41] (fun u41 wx => u41 = .bool (sf || decide (st < 200) || decide (400 ≤ st)) ∧ W = wx)
  case first =>
    by_cases h1 : m = Rl.mGet
    · have hs1 := HS1.out (.inl h1)
      subst hs1
      have e1 : ((str m).toList == [71, 69, 84]) = true := by rw [str_toList, h1]; rfl
      generalize str m = sm at *
      clear h1 HS1 HS0 HI HJ
      go_wp2_with fail
      go_meet
      case rel => exact ⟨by simp, rfl⟩
    by_cases h2 : m = Rl.mHead
    · have hs1 := HS1.out (.inr (.inl h2))
      subst hs1
      have e1 : ((str m).toList == [71, 69, 84]) = false := by rw [str_toList]; exact beq_eq_false_iff_ne.2 h1
      have e2 : ((str m).toList == [72, 69, 65, 68]) = true := by rw [str_toList, h2]; rfl
      generalize str m = sm at *
      clear h1 h2 HS1 HS0 HI HJ
      go_wp2_with fail
      go_meet
      case rel => exact ⟨by simp, rfl⟩
    by_cases h3 : m = Rl.mOptions
    · have hs1 := HS1.out (.inr (.inr (.inl h3)))
      subst hs1
      have e1 : ((str m).toList == [71, 69, 84]) = false := by rw [str_toList]; exact beq_eq_false_iff_ne.2 h1
      have e2 : ((str m).toList == [72, 69, 65, 68]) = false := by rw [str_toList]; exact beq_eq_false_iff_ne.2 h2
      have e3 : ((str m).toList == [79, 80, 84, 73, 79, 78, 83]) = true := by rw [str_toList, h3]; rfl
      generalize str m = sm at *
      clear h1 h2 h3 HS1 HS0 HI HJ
      go_wp2_with fail
      go_meet
      case rel => exact ⟨by simp, rfl⟩
    by_cases h4 : m = Rl.mTrace
    · have hs1 := HS1.out (.inr (.inr (.inr h4)))
      subst hs1
      have e1 : ((str m).toList == [71, 69, 84]) = false := by rw [str_toList]; exact beq_eq_false_iff_ne.2 h1
      have e2 : ((str m).toList == [72, 69, 65, 68]) = false := by rw [str_toList]; exact beq_eq_false_iff_ne.2 h2
      have e3 : ((str m).toList == [79, 80, 84, 73, 79, 78, 83]) = false := by rw [str_toList]; exact beq_eq_false_iff_ne.2 h3
      have e4 : ((str m).toList == [84, 82, 65, 67, 69]) = true := by rw [str_toList, h4]; rfl
      generalize str m = sm at *
      clear h1 h2 h3 h4 HS1 HS0 HI HJ
      go_wp2_with fail
      go_meet
      case rel => exact ⟨by simp, rfl⟩
    have hs0 := HS0.out (by simp [h1, h2, h3, h4])
    subst hs0
    have e1 : ((str m).toList == [71, 69, 84]) = false := by rw [str_toList]; exact beq_eq_false_iff_ne.2 h1
    have e2 : ((str m).toList == [72, 69, 65, 68]) = false := by rw [str_toList]; exact beq_eq_false_iff_ne.2 h2
    have e3 : ((str m).toList == [79, 80, 84, 73, 79, 78, 83]) = false := by rw [str_toList]; exact beq_eq_false_iff_ne.2 h3
    have e4 : ((str m).toList == [84, 82, 65, 67, 69]) = false := by rw [str_toList]; exact beq_eq_false_iff_ne.2 h4
    generalize str m = sm at *
    clear h1 h2 h3 h4 HS1 HS0 HI HJ
    by_cases g1 : st < 200
    · have g1b : decide (st < 200) = true := decide_eq_true g1
      go_wp2_with fail
      go_meet
      case rel => exact ⟨by simp [g1], rfl⟩
    · have g1b : decide (st < 200) = false := decide_eq_false g1
      go_wp2_with fail
      go_meet
      case rel => exact ⟨by simp; omega, rfl⟩
  case rest =>
    obtain ⟨rfl, rfl⟩ := hcut
    generalize hsm : str m = sm at *
    clear hsm HS1 HS0
    cases hq : (sf || decide (st < 200) || decide (400 ≤ st)) with
    | true =>
      have HR := Lib.hid (HI.out hq)
      clear HI HJ hq
      go_wp2_with fail
      go_ret
      exact ⟨⟨_, rfl, by rw [HR.out]; exact ⟨none, 0, rfl, .inl rfl⟩⟩, hbw⟩
    | false =>
      have HI2 := Lib.hid (HJ.out hq)
      clear HI HJ hq
      clear m0 m1 m2 m3 m4 m5 m6 hbw
      have hU := UBuf.one W u #[.string (str u.host), .int .i64 u.port, .string (str u.path)] rfl
      go_upto_region 4 with (refine ldU hO.uri rfl (.tmp 3) rfl rfl ?_)
      change Code.wp _ _ _ _ (W.alloc (.cells #[.string (str u.host), .int .i64 u.port, .string (str u.path)] 46))
      generalize W.alloc (.cells #[.string (str u.host), .int .i64 u.port, .string (str u.path)] 46) = w3 at *
      have hU0 : ∃ v7, v7 = Value.slice (some ⟨W.heap.size, 0, none⟩) 1 1 ∧ UBuf W w3 v7 [u] := ⟨_, rfl, hU⟩
      have hL := SBuf.lit_p w3 [Rl.kLoc, Rl.kCLoc] #[.string ⟨#[108, 111, 99, 97, 116, 105, 111, 110]⟩, .string ⟨#[99, 111, 110, 116, 101, 110, 116, 45, 108, 111, 99, 97, 116, 105, 111, 110]⟩] rfl (by decide)
      have hU4 := hU.after hL.2
      have hN4 := heap_alloc_new w3 (.cells #[.string ⟨#[108, 111, 99, 97, 116, 105, 111, 110]⟩, .string ⟨#[99, 111, 110, 116, 101, 110, 116, 45, 108, 111, 99, 97, 116, 105, 111, 110]⟩] 9)
      clear hU0 hU
      generalize W.heap.size = gU at *
      go_upto_region 5 with fail
      generalize w3.alloc (.cells #[.string ⟨#[108, 111, 99, 97, 116, 105, 111, 110]⟩, .string ⟨#[99, 111, 110, 116, 101, 110, 116, 45, 108, 111, 99, 97, 116, 105, 111, 110]⟩] 9) = w4 at *
      generalize w3.heap.size = gN at *
      have HO := Lib.hid hO
      have HU4 := Lib.hid hU4
      clear hL hO hU4
      go_wp2_with fail
      go_loopw [7, 9] (fun v i wr => ∃ k : Nat, k ≤ 2 ∧ i = .int .i64 k ∧ Hid (UBuf W wr v (uriL u fs k)) ∧ wr.heap[gN]? = some (.cells #[.string ⟨#[108, 111, 99, 97, 116, 105, 111, 110]⟩, .string ⟨#[99, 111, 110, 116, 101, 110, 116, 45, 108, 111, 99, 97, 116, 105, 111, 110]⟩] 9 (0, 0))) (fun _ i _ => 2 - (intOf i).toNat)
      case atStart => exact ⟨0, by omega, rfl, HU4, hN4⟩
      case round =>
        clear hN4
        obtain ⟨k, hk9, rfl, HV, hN⟩ := hrel
        have hO := HO.out.later HV.out.2
        by_cases hlt : k < 2
        · have hkl : k < ([Rl.kLoc, Rl.kCLoc] : List (List UInt8)).length := hlt
          obtain ⟨nm, hnm⟩ : ∃ nm, nm = ([Rl.kLoc, Rl.kCLoc] : List (List UInt8))[k] := ⟨_, rfl⟩
          have hcell : wr.cell? ⟨gN, k, none⟩ = some (.string (str nm)) := (row_at hN k).trans (by rw [hnm]; exact names2_at k hlt)
          have hnl : nm.length ≤ 100 := by
            rw [hnm]
            have : ∀ q ∈ ([Rl.kLoc, Rl.kCLoc] : List (List UInt8)), q.length ≤ 100 := by decide
            exact this _ (List.getElem_mem hkl)
          have cN1 := fun p : LateOf wr => late p (cN.out nm p.w (hO.below.trans (p.h.mono hO.below.size)) hnl)
          have HLK : Hid (uriL u fs (k + 1) = Rl.addU (uriL u fs k) (Rl.lead u fs nm)) := Lib.hid (by rw [hnm]; exact uriL_succ u fs k hlt)
          have HLN := Lib.hid (uriL_len u fs k)
          obtain ⟨m0, m1, m2, m3, m4, m5, m6⟩ := cells7_at hO.msg
          have x0 := fun p : LateOf wr => p.cell m0
          have x1 := fun p : LateOf wr => p.cell m1
          have x2 := fun p : LateOf wr => p.cell m2
          have x3 := fun p : LateOf wr => p.cell m3
          have x4 := fun p : LateOf wr => p.cell m4
          have x5 := fun p : LateOf wr => p.cell m5
          have x6 := fun p : LateOf wr => p.cell m6
          have x7 := fun p : LateOf wr => p.cell hcell
          have HUc := Lib.hid hO.uri
          have hol : ∀ r, Rl.one fs nm = some r → r.length ≤ 500 := fun r hr => one_small hs hr
          clear hnm hkl
          generalize hsn : str nm = sn at *
          clear hsn hnl m0 m1 m2 m3 m4 m5 m6 hcell
          generalize uriL u fs k = LK at *
          cases ho : Rl.one fs nm with
          | none =>
            rw [ho, onv_none] at cN1
            have HLE : Hid (uriL u fs (k + 1) = LK) := Lib.hid (by rw [HLK.out]; unfold Rl.lead; rw [ho]; rfl)
            clear HLK ho hol HLN
            go_wp2_with fail
            refine wp_region_late (by kernel_rfl) (by kernel_rfl) ?_
            iterate 5 quiet_step (fail)
            quiet_step ((go_at_call 36; with_reducible exact cN1 _))
            repeat (quiet_step (fail))
            refine wpQuiet_nil ?_
            intro w5 hw'
            have hb5 : Below wr.heap.size wr w5 := by obtain ⟨p, rfl⟩ := hw'; exact p.h
            have HBc := Lib.hid (HV.out.after hb5)
            have hNc := blk_keep hN hb5
            clear hw' x0 x1 x2 x3 x4 x5 x6 x7 hb5 HV hN
            go_wp2_with fail
            go_roundw
            case rel => exact ⟨k + 1, by omega, by go_num, by rw [HLE.out]; exact HBc, hNc⟩
            case measure => simp [intOf]; omega
          | some r =>
            rw [ho, onv_some] at cN1
            have hrl := hol r ho
            have cR0 := fun W' => rResolve_s u r W' (by omega) (by omega) hk (by omega)
            obtain ⟨⟨z, er⟩, hve⟩ : ∃ q, Tg.resolve u r = q := ⟨_, rfl⟩
            have HLD : Hid (Rl.lead u fs nm = if er = 0 ∧ z.host = u.host ∧ z.port = u.port then some z else none) := Lib.hid (by unfold Rl.lead; rw [ho]; simp only [hve])
            rw [hve] at cR0
            have e1 : ures (z, er) = .tuple #[.agg #[.string (str z.host), .int .i64 z.port, .string (str z.path)], .int .i64 er] := rfl
            rw [e1, uval_u] at cR0
            have hb1 := str_beq z.host u.host
            clear ho hol hrl hve e1
            generalize hsr : str r = sr at *
            clear hsr
            go_wp2_with fail
            refine wp_region_late (by kernel_rfl) (by kernel_rfl) ?_
            iterate 5 quiet_step (fail)
            quiet_step ((go_at_call 36; with_reducible exact cN1 _))
            repeat (quiet_step (fail))
            refine wpQuiet_nil ?_
            intro w5 hw'
            have hb5 : Below wr.heap.size wr w5 := by obtain ⟨p, rfl⟩ := hw'; exact p.h
            have hB5 := HV.out.after hb5
            have hN5 := blk_keep hN hb5
            have hU5 := blk_keep HUc.out hb5
            clear hw' x0 x1 x2 x3 x4 x5 x6 x7 hb5 HV hN HUc cN1
            have cR1 := cR0 w5
            clear cR0
            go_wp2_with (refine ldU hU5 rfl (.tmp 3) rfl rfl ?_)
            refine cR1.mono ?_
            rintro e w55 ⟨rfl, hx5⟩
            have hS5 := Res.start w55 (.string (str z.host)) (.int .i64 z.port) (.string (str z.path))
            have hB6 := (hB5.after hx5).after hS5.below
            have hN6 := blk_keep (blk_keep hN5 hx5) hS5.below
            have hU6 := blk_keep (blk_keep hU5 hx5) hS5.below
            go_upto_region 11 with fail
            generalize w55.alloc (.cells #[.string (str z.host), .int .i64 z.port, .string (str z.path)] 46) = w6 at *
            generalize w55.heap.size = gZ at *
            have hZ6 := hS5.cell
            clear hB5 hN5 hU5 hx5 hS5 cR1
            obtain ⟨c0, c1, c2⟩ := box_cell hU6
            obtain ⟨d0, d1, d2⟩ := box_cell hZ6
            have HZ6 := Lib.hid hZ6
            clear hZ6 hU6
            by_cases he : er = 0
            case neg =>
              have f1 : (er == 0) = false := beq_eq_false_iff_ne.2 he
              have f2 : (er != 0) = true := by simp [bne, f1]
              have HLE : Hid (uriL u fs (k + 1) = LK) := Lib.hid (by rw [HLK.out, HLD.out, if_neg (fun e => he e.1)]; rfl)
              have HBc := Lib.hid hB6
              have hNc := hN6
              clear HLK HLD hb1 hB6 he HLN
              go_wp2_with fail
              go_roundw
              case rel => exact ⟨k + 1, by omega, by go_num, by rw [HLE.out]; exact HBc, hNc⟩
              case measure => simp [intOf]; omega
            subst he
            by_cases hh2 : z.host = u.host
            case neg =>
              have f1 : ((str z.host).toList == (str u.host).toList) = false := by rw [hb1]; exact decide_eq_false hh2
              have f2 : ((str z.host).toList != (str u.host).toList) = true := by simp [bne, f1]
              have HLE : Hid (uriL u fs (k + 1) = LK) := Lib.hid (by rw [HLK.out, HLD.out, if_neg (fun e => hh2 e.2.1)]; rfl)
              have HBc := Lib.hid hB6
              have hNc := hN6
              clear HLK HLD hb1 hB6 hh2 HLN
              go_wp2_with fail
              go_roundw
              case rel => exact ⟨k + 1, by omega, by go_num, by rw [HLE.out]; exact HBc, hNc⟩
              case measure => simp [intOf]; omega
            have f1 : ((str z.host).toList == (str u.host).toList) = true := by rw [hb1]; exact decide_eq_true hh2
            have f2 : ((str z.host).toList != (str u.host).toList) = false := by simp [bne, f1]
            by_cases hp2 : z.port = u.port
            case neg =>
              have g1 : (z.port == u.port) = false := beq_eq_false_iff_ne.2 hp2
              have g2 : (z.port != u.port) = true := by simp [bne, g1]
              have HLE : Hid (uriL u fs (k + 1) = LK) := Lib.hid (by rw [HLK.out, HLD.out, if_neg (fun e => hp2 e.2.2)]; rfl)
              have HBc := Lib.hid hB6
              have hNc := hN6
              clear HLK HLD hb1 hB6 hh2 hp2 HLN
              go_wp2_with fail
              go_roundw
              case rel => exact ⟨k + 1, by omega, by go_num, by rw [HLE.out]; exact HBc, hNc⟩
              case measure => simp [intOf]; omega
            have g1 : (z.port == u.port) = true := by rw [hp2]; simp
            have g2 : (z.port != u.port) = false := by simp [bne, g1]
            have HLD2 : Hid (Rl.lead u fs nm = some z) := Lib.hid (by rw [HLD.out, if_pos ⟨rfl, hh2, hp2⟩])
            have HY1 : Hid (z ∈ LK → uriL u fs (k + 1) = LK) := Lib.hid fun h => by rw [HLK.out, HLD2.out]; unfold Rl.addU; simp [h]
            have HY2 : Hid (¬ z ∈ LK → uriL u fs (k + 1) = LK ++ [z]) := Lib.hid fun h => by rw [HLK.out, HLD2.out]; unfold Rl.addU; simp [h]
            obtain ⟨ao, cp, hva, hcu⟩ := id hB6.uin
            have HCU := Lib.hid hcu
            obtain ⟨n, hnq⟩ : ∃ n, n = LK.length := ⟨_, rfl⟩
            have HNQ := Lib.hid hnq
            rw [← hnq] at hva
            have hnn9 : n ≤ 3 := by rw [hnq]; exact HLN.out
            subst hva
            have HB6 := Lib.hid hB6
            have HN6 := Lib.hid hN6
            clear HLK HLD HLD2 hcu hnq hB6 hN6 hb1 hh2 hp2
            go_cut [81] (fun u81 wx => u81 = .bool false ∧ w6 = wx)
            case first =>
              go_wp2_with fail
              go_meet
              case rel => exact ⟨rfl, rfl⟩
            case rest =>
              obtain ⟨rfl, rfl⟩ := hcut
              clear f1 f2 g1 g2 c0 c1 c2 d0 d1 d2
              go_wp2_with fail
              go_loopw [14, 15] (fun v i wq => ∃ (th : Bool) (q : Nat), v = .bool th ∧ q ≤ n ∧ i = .int .i64 q ∧ Below w6.heap.size w6 wq ∧ Hid (th = true ↔ z ∈ LK.take q)) (fun _ i _ => n - (intOf i).toNat)
              case atStart => exact ⟨false, 0, rfl, by omega, rfl, Below.refl _ _, Lib.hid (by simp)⟩
              case round =>
                obtain ⟨th, q, rfl, hq9, rfl, hbq, HT⟩ := hrel
                by_cases hqn : q < n
                · have hql : q < LK.length := by have := HNQ.out; omega
                  obtain ⟨b', o', rfl, hbl, hcell⟩ : ∃ b o, ao = some ⟨b, o, none⟩ ∧ b < w6.heap.size ∧ (w6.cell? ⟨b, o + q * 3, none⟩ = some (.string (str LK[q].host)) ∧ w6.cell? ⟨b, o + q * 3 + 1, none⟩ = some (.int .i64 LK[q].port) ∧ w6.cell? ⟨b, o + q * 3 + 2, none⟩ = some (.string (str LK[q].path))) := by
                    rcases HCU.out with h | ⟨b, o, h4, h5, h6⟩
                    · exfalso; rw [h] at hql; cases hql
                    · exact ⟨b, o, h4, h5, h6 q hql⟩
                  have k0 := (hbq.cell (p := ⟨b', o' + q * 3, none⟩) hbl).trans hcell.1
                  have k1 := (hbq.cell (p := ⟨b', o' + q * 3 + 1, none⟩) hbl).trans hcell.2.1
                  have k2 := (hbq.cell (p := ⟨b', o' + q * 3 + 2, none⟩) hbl).trans hcell.2.2
                  obtain ⟨d0, d1, d2⟩ := box_cell (blk_keep HZ6.out hbq)
                  have HTK : Hid (∀ t : Bool, (t = true ↔ (th = true ∨ LK[q] = z)) → (t = true ↔ z ∈ LK.take (q + 1))) := Lib.hid fun t ht => by
                    rw [ht, HT.out, List.take_succ_eq_append_getElem hql, List.mem_append, List.mem_singleton]
                    exact or_congr Iff.rfl eq_comm
                  have hQ := fun W => eql_uri LK[q] z W
                  have hG := fun x y W => guard_uri .eql (.inl rfl) x y LK[q] z W
                  rw [uval_u, uval_u] at hQ
                  simp only [uval_u] at hG
                  have hdn : ∀ m, Below w6.heap.size w6 (wr.drewN m) := fun m => hbq.trans ((bdrewN wr m).mono hbq.size)
                  have HEQ : Hid (decide (LK[q] = z) = true ↔ LK[q] = z) := Lib.hid decide_eq_true_iff
                  generalize hdq : decide (LK[q] = z) = dq at *
                  clear hdq
                  generalize (LK[q] = z) = PE at *
                  generalize str LK[q].host = l0 at *
                  generalize LK[q].port = l1 at *
                  generalize str LK[q].path = l2 at *
                  clear hcell hbl hql HT hbq
                  cases th with
                  | true =>
                    have HY := Lib.hid (HTK.out true (by simp))
                    clear HTK HEQ hQ hG k0 k1 k2
                    go_wp2_with fail
                    go_quiet (fail)
                    go_wp2_with fail
                    go_roundw
                    case rel => exact ⟨true, q + 1, rfl, by omega, by go_num, hdn _, Lib.hid (by have := HY.out; simpa using this)⟩
                    case measure => simp [intOf]; omega
                  | false =>
                    have HY := Lib.hid (HTK.out dq (by rw [HEQ.out]; simp))
                    clear HTK HEQ
                    go_wp2_with fail
                    go_quiet (fail)
                    go_wp2_with fail
                    go_roundw
                    case rel => exact ⟨dq, q + 1, rfl, by omega, by go_num, hdn _, HY⟩
                    case measure => simp [intOf]; omega
                · have HTF : Hid (th = true ↔ z ∈ LK) := Lib.hid (by have := HT.out; rw [List.take_of_length_le (by have := HNQ.out; omega)] at this; exact this)
                  have hB7 := HB6.out.after hbq
                  have hN7 := blk_keep HN6.out hbq
                  have hZ7 := blk_keep HZ6.out hbq
                  clear HT hbq HCU HZ6
                  by_cases hin : z ∈ LK
                  · have hth : th = true := HTF.out.2 hin
                    subst hth
                    have HLE := Lib.hid (HY1.out hin)
                    have HB7 := Lib.hid hB7
                    clear hin HTF HY1 HY2 hB7
                    go_wp2_with fail
                    go_roundw
                    case rel => exact ⟨k + 1, by omega, by go_num, by rw [HLE.out]; exact HB7, hN7⟩
                    case measure => simp [intOf]; omega
                  · have hth : th = false := by
                      cases th with
                      | false => rfl
                      | true => exact absurd (HTF.out.1 rfl) hin
                    subst hth
                    have HLE := Lib.hid (HY2.out hin)
                    clear hin HTF HY1 HY2
                    rw [HNQ.out] at *
                    go_wp2_with (first | refine ldU hZ7 rfl (.tmp 12) rfl rfl ?_ | (at_builtin; refine appU hB7 z (by have := HLN.out; omega) rfl _ _ rfl _ _ _ rfl rfl rfl rfl rfl ?_; intro v9 w9 hB9 hK9; have hN9 := hK9 gN _ hN7 (fun cs fz he => by injection he with _ h2; exact absurd h2 (by decide)); have HB9 := Lib.hid hB9; clear hB9 hK9))
                    go_roundw
                    case rel => exact ⟨k + 1, by omega, by go_num, by rw [HLE.out]; exact HB9, hN9⟩
                    case measure => simp [intOf]; omega
        · have HE : Hid (uriL u fs k = Rl.invalid u m st fs) := Lib.hid (by rw [show k = 2 by omega]; exact HI2.out)
          have hB := HV.out
          rw [HE.out] at hB
          have hI := Lib.hid (And.intro hB.uin (HO.out.below.trans (hB.2.mono HO.out.below.size)))
          clear hB HV
          go_wp2_with fail
          go_ret
          exact ⟨⟨_, rfl, hI.out.1⟩, hI.out.2⟩
end Go.Proofs.YtoanelobggledaaGreatDoor

