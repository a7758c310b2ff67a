/- Package rules, the document's side: what is updated; who is told that nothing has changed. -/
import Derived.Test.YtoanelobggledaaGreatDoorVRl3
import Derived.Test.YtoanelobggledaaGreatDoorVRlB
import Derived.Test.YtoanelobggledaaGreatDoorVRlD4
namespace Go.Proofs.YtoanelobggledaaGreatDoor
open Go.RowKit

set_option maxHeartbeats 12800000 in
set_option maxRecDepth 100000 in
theorem rUnchanged_w (a b c a' b' c' : ByteArray) (st mi st' mi' : Int) (fv bv fv' bv' : Value) (fs fs' : List Fld.F) (w : World) (hf : FIn w fv fs) (hs : Mid fs) (hf' : FIn w fv' fs') (hs' : Mid fs') :
    Calls Tryz.prog 35 #[mv a b st c mi fv bv, mv a' b' st' c' mi' fv' bv'] w fun e w' => e = .returned (.bool (Rl.unchanged D0 a.data.toList fs st' fs')) ∧ Below w.heap.size w w' := by
  obtain ⟨fa, fc, hfv, hx9⟩ := id hf
  clear hx9
  subst hfv
  obtain ⟨fa', fc', hfv', hx9⟩ := id hf'
  clear hx9
  subst hfv'
  have hk := hs.got Rl.kINM
  have cH := fun W' (hb : Below w.heap.size w W') => rHas_w a b c st mi (.slice fa fs.length fc) bv fs Rl.kINM W' (hf.later hb) hs (by decide)
  have cG := fun W' (hb : Below w.heap.size w W') => rGet_w (.slice fa fs.length fc) fs Rl.kINM W' (hf.later hb) hs.small (by decide)
  have cP := fun v W' (hv : SIn W' v (Fld.get fs Rl.kINM)) => rSplit_s v (Fld.get fs Rl.kINM) W' hv (by omega) (fun l hl => by have := hk.2 l hl; omega)
  have cO := fun W' (hb : Below w.heap.size w W') => rOne_w a' b' c' st' mi' (.slice fa' fs'.length fc') bv' fs' Rl.kETag W' (hf'.later hb) hs' (by decide)
  have cX := fun W' (hb : Below w.heap.size w W') => rMoment_w a b c st mi (.slice fa fs.length fc) bv fs Rl.kIMS W' (hf.later hb) hs (by decide)
  have cY := fun W' (hb : Below w.heap.size w W') => rMoment_w a' b' c' st' mi' (.slice fa' fs'.length fc') bv' fs' Fr.kMod W' (hf'.later hb) hs' (by decide)
  rw [show str Rl.kINM = ⟨#[105, 102, 45, 110, 111, 110, 101, 45, 109, 97, 116, 99, 104]⟩ from rfl] at cH cG
  rw [show str Rl.kETag = ⟨#[101, 116, 97, 103]⟩ from rfl] at cO
  rw [show str Rl.kIMS = ⟨#[105, 102, 45, 109, 111, 100, 105, 102, 105, 101, 100, 45, 115, 105, 110, 99, 101]⟩ from rfl] at cX
  rw [show str Fr.kMod = ⟨#[108, 97, 115, 116, 45, 109, 111, 100, 105, 102, 105, 101, 100]⟩ from rfl] at cY
  have zA := fun v h => one_small hs' (n := Rl.kETag) (v := v) h
  have hpl := Vr.piece_len (ls := Fld.get fs Rl.kINM) (m := 500) hk.2
  have hpn := Oct.splitAll_len (Fld.get fs Rl.kINM) (fun l hl => by have := hk.2 l hl; omega)
  have hpm : (Oct.splitAll (Fld.get fs Rl.kINM)).length ≤ 900000000 := by omega
  have HA1 : Hid (a.data.toList = Rl.mGet ↔ a = ⟨#[71, 69, 84]⟩) := Lib.hid ⟨fun h => by rw [← str_of a, h]; rfl, fun e => by rw [e]; rfl⟩
  have HA2 : Hid (a.data.toList = Rl.mHead ↔ a = ⟨#[72, 69, 65, 68]⟩) := Lib.hid ⟨fun h => by rw [← str_of a, h]; rfl, fun e => by rw [e]; rfl⟩
  have HL : Hid (∀ p, Rl.like fs' p = match Rl.one fs' Rl.kETag with | some t => Rl.bare t == Rl.bare p | none => false) := Lib.hid fun p => rfl
  have HR : Hid (Rl.unchanged D0 a.data.toList fs st' fs' = if st' ≠ 200 ∨ ¬ (a = ⟨#[71, 69, 84]⟩ ∨ a = ⟨#[72, 69, 65, 68]⟩) then false
    else if Rl.has fs Rl.kINM = true then (Oct.splitAll (Fld.get fs Rl.kINM)).any fun p => p == [42] || Rl.like fs' p
    else match Fr.moment D0 fs Rl.kIMS, Fr.moment D0 fs' Fr.kMod with
      | some a, some b => decide (b ≤ a)
      | _, _ => false) := Lib.hid ((show Rl.unchanged D0 a.data.toList fs st' fs' = _ from rfl).trans (ite_congr (propext (or_congr Iff.rfl (not_congr (or_congr HA1.out HA2.out)))) (fun _ => rfl) (fun _ => rfl)))
  generalize Rl.unchanged D0 a.data.toList fs st' fs' = R at *
  generalize Rl.has fs Rl.kINM = hi at *
  generalize Oct.splitAll (Fld.get fs Rl.kINM) = PS at *
  generalize Fr.moment D0 fs Rl.kIMS = MX at *
  generalize Fr.moment D0 fs' Fr.kMod = MY at *
  generalize Rl.one fs' Rl.kETag = TG at *
  generalize hlk : Rl.like fs' = LK at *
  have HPL := Lib.hid hpl
  generalize hgs : Fld.get fs Rl.kINM = gs at *
  clear hgs hpl hpn hk HA1 HA2 hlk hf hs hf' hs'
  generalize fs.length = fl at *
  generalize fs'.length = fl' at *
  clear fs fs'
  obtain ⟨W, hW⟩ : ∃ W, W = (w.alloc (.cells #[.string a, .string b, .int .i64 st, .string c, .int .i64 mi, .slice fa fl fc, bv] 27)).alloc (.cells #[.string a', .string b', .int .i64 st', .string c', .int .i64 mi', .slice fa' fl' fc', bv'] 27) := ⟨_, rfl⟩
  have hbw : Below w.heap.size w W := by rw [hW]; exact ((Below.refl _ w).alloc (Nat.le_refl _) _).alloc (by simp) _
  have q0 : W.heap[w.heap.size]? = some (.cells #[.string a, .string b, .int .i64 st, .string c, .int .i64 mi, .slice fa fl fc, bv] 27 (0, 0)) := by rw [hW]; exact blk_stay (heap_alloc_new w _) ((Below.refl _ _).alloc (Nat.le_refl _) _)
  have q1 : W.heap[w.heap.size + 1]? = some (.cells #[.string a', .string b', .int .i64 st', .string c', .int .i64 mi', .slice fa' fl' fc', bv'] 27 (0, 0)) := by rw [hW]; exact heap_alloc2_new w _ _
  have HM := Lib.hid (fun (W' : World) (hb : Below W.heap.size W W') => set7' (blk_stay q0 hb))
  have HN := Lib.hid (fun (W' : World) (hb : Below W.heap.size W W') => set7' (blk_stay q1 hb))
  have hWW := Below.refl W.heap.size W
  clear q0 q1
  unfold mv mcell at *
  by_cases h200 : st' = 200
  case neg =>
    have hne : (st' != 200) = true := by rw [bne, beq_eq_false_iff_ne.2 h200]; rfl
    rw [if_pos (.inl h200)] at HR
    obtain ⟨m0, m1, m2, m3, m4, m5, m6⟩ := HM.out W hWW
    obtain ⟨n0, n1, n2, n3, n4, n5, n6⟩ := HN.out W hWW
    go_enter Tryz.func35, Tryz.ntmps35
    go_upto_region 1 with fail
    rw [← hW]
    clear hW
    go_wp2_with fail
    go_ret
    exact ⟨by rw [HR.out]; rfl, hbw⟩
  subst h200
  by_cases hm : a = ⟨#[71, 69, 84]⟩ ∨ a = ⟨#[72, 69, 65, 68]⟩
  case neg =>
    have hn1 : (a.toList == [71, 69, 84]) = false := arr_nef fun e => hm (.inl e)
    have hn2 : (a.toList == [72, 69, 65, 68]) = false := arr_nef fun e => hm (.inr e)
    rw [if_pos (.inr hm)] at HR
    clear hm
    obtain ⟨m0, m1, m2, m3, m4, m5, m6⟩ := HM.out W hWW
    obtain ⟨n0, n1, n2, n3, n4, n5, n6⟩ := HN.out W hWW
    go_enter Tryz.func35, Tryz.ntmps35
    go_upto_region 1 with fail
    rw [← hW]
    clear hW
    go_wp2_with fail
    go_ret
    exact ⟨by rw [HR.out]; rfl, hbw⟩
  rw [if_neg (by simp [hm])] at HR
  obtain ⟨m0, m1, m2, m3, m4, m5, m6⟩ := HM.out W hWW
  obtain ⟨n0, n1, n2, n3, n4, n5, n6⟩ := HN.out W hWW
  go_enter Tryz.func35, Tryz.ntmps35
  go_upto_region 1 with fail
  rw [← hW]
  clear hW
  go_cut [28] (fun u28 wx => u28 = .bool false ∧ W = wx)
  case first =>
    rcases hm with rfl | rfl
    all_goals go_wp2_with fail
    all_goals go_meet
    all_goals (case rel => exact ⟨rfl, rfl⟩)
  case rest =>
    obtain ⟨rfl, rfl⟩ := hcut
    clear hm
    cases hi with
    | false =>
      rw [if_neg (by simp)] at HR
      clear cG cP cO HPL hpm zA HL
      cases MX with
      | none =>
        rw [mov_none] at cX
        cases MY with
        | none =>
          rw [mov_none] at cY
          go_wp2_with fail
          refine (cH W hbw).mono ?_
          rintro e w1 ⟨rfl, hxw1⟩
          have hbw1 := hbw.trans (hxw1.mono hbw.size)
          have hWw1 := hWW.trans (hxw1.mono hWW.size)
          clear hxw1 m0 m1 m2 m3 m4 m5 m6 n0 n1 n2 n3 n4 n5 n6
          obtain ⟨m0, m1, m2, m3, m4, m5, m6⟩ := HM.out w1 hWw1
          obtain ⟨n0, n1, n2, n3, n4, n5, n6⟩ := HN.out w1 hWw1
          go_wp2_with fail
          refine (cX w1 hbw1).mono ?_
          rintro e w2 ⟨rfl, hxw2⟩
          have hbw2 := hbw1.trans (hxw2.mono hbw1.size)
          have hWw2 := hWw1.trans (hxw2.mono hWw1.size)
          clear hxw2 m0 m1 m2 m3 m4 m5 m6 n0 n1 n2 n3 n4 n5 n6
          obtain ⟨m0, m1, m2, m3, m4, m5, m6⟩ := HM.out w2 hWw2
          obtain ⟨n0, n1, n2, n3, n4, n5, n6⟩ := HN.out w2 hWw2
          go_wp2_with fail
          refine (cY w2 hbw2).mono ?_
          rintro e w3 ⟨rfl, hxw3⟩
          have hbw3 := hbw2.trans (hxw3.mono hbw2.size)
          have hWw3 := hWw2.trans (hxw3.mono hWw2.size)
          clear hxw3 m0 m1 m2 m3 m4 m5 m6 n0 n1 n2 n3 n4 n5 n6
          obtain ⟨m0, m1, m2, m3, m4, m5, m6⟩ := HM.out w3 hWw3
          obtain ⟨n0, n1, n2, n3, n4, n5, n6⟩ := HN.out w3 hWw3
          go_wp2_with fail
          go_ret
          exact ⟨by rw [HR.out]; rfl, hbw3⟩
        | some y =>
          rw [mov_some] at cY
          go_wp2_with fail
          refine (cH W hbw).mono ?_
          rintro e w1 ⟨rfl, hxw1⟩
          have hbw1 := hbw.trans (hxw1.mono hbw.size)
          have hWw1 := hWW.trans (hxw1.mono hWW.size)
          clear hxw1 m0 m1 m2 m3 m4 m5 m6 n0 n1 n2 n3 n4 n5 n6
          obtain ⟨m0, m1, m2, m3, m4, m5, m6⟩ := HM.out w1 hWw1
          obtain ⟨n0, n1, n2, n3, n4, n5, n6⟩ := HN.out w1 hWw1
          go_wp2_with fail
          refine (cX w1 hbw1).mono ?_
          rintro e w2 ⟨rfl, hxw2⟩
          have hbw2 := hbw1.trans (hxw2.mono hbw1.size)
          have hWw2 := hWw1.trans (hxw2.mono hWw1.size)
          clear hxw2 m0 m1 m2 m3 m4 m5 m6 n0 n1 n2 n3 n4 n5 n6
          obtain ⟨m0, m1, m2, m3, m4, m5, m6⟩ := HM.out w2 hWw2
          obtain ⟨n0, n1, n2, n3, n4, n5, n6⟩ := HN.out w2 hWw2
          go_wp2_with fail
          refine (cY w2 hbw2).mono ?_
          rintro e w3 ⟨rfl, hxw3⟩
          have hbw3 := hbw2.trans (hxw3.mono hbw2.size)
          have hWw3 := hWw2.trans (hxw3.mono hWw2.size)
          clear hxw3 m0 m1 m2 m3 m4 m5 m6 n0 n1 n2 n3 n4 n5 n6
          obtain ⟨m0, m1, m2, m3, m4, m5, m6⟩ := HM.out w3 hWw3
          obtain ⟨n0, n1, n2, n3, n4, n5, n6⟩ := HN.out w3 hWw3
          go_wp2_with fail
          go_ret
          exact ⟨by rw [HR.out]; rfl, hbw3⟩
      | some x =>
        rw [mov_some] at cX
        cases MY with
        | none =>
          rw [mov_none] at cY
          go_wp2_with fail
          refine (cH W hbw).mono ?_
          rintro e w1 ⟨rfl, hxw1⟩
          have hbw1 := hbw.trans (hxw1.mono hbw.size)
          have hWw1 := hWW.trans (hxw1.mono hWW.size)
          clear hxw1 m0 m1 m2 m3 m4 m5 m6 n0 n1 n2 n3 n4 n5 n6
          obtain ⟨m0, m1, m2, m3, m4, m5, m6⟩ := HM.out w1 hWw1
          obtain ⟨n0, n1, n2, n3, n4, n5, n6⟩ := HN.out w1 hWw1
          go_wp2_with fail
          refine (cX w1 hbw1).mono ?_
          rintro e w2 ⟨rfl, hxw2⟩
          have hbw2 := hbw1.trans (hxw2.mono hbw1.size)
          have hWw2 := hWw1.trans (hxw2.mono hWw1.size)
          clear hxw2 m0 m1 m2 m3 m4 m5 m6 n0 n1 n2 n3 n4 n5 n6
          obtain ⟨m0, m1, m2, m3, m4, m5, m6⟩ := HM.out w2 hWw2
          obtain ⟨n0, n1, n2, n3, n4, n5, n6⟩ := HN.out w2 hWw2
          go_wp2_with fail
          refine (cY w2 hbw2).mono ?_
          rintro e w3 ⟨rfl, hxw3⟩
          have hbw3 := hbw2.trans (hxw3.mono hbw2.size)
          have hWw3 := hWw2.trans (hxw3.mono hWw2.size)
          clear hxw3 m0 m1 m2 m3 m4 m5 m6 n0 n1 n2 n3 n4 n5 n6
          obtain ⟨m0, m1, m2, m3, m4, m5, m6⟩ := HM.out w3 hWw3
          obtain ⟨n0, n1, n2, n3, n4, n5, n6⟩ := HN.out w3 hWw3
          go_wp2_with fail
          go_ret
          exact ⟨by rw [HR.out]; rfl, hbw3⟩
        | some y =>
          rw [mov_some] at cY
          go_wp2_with fail
          refine (cH W hbw).mono ?_
          rintro e w1 ⟨rfl, hxw1⟩
          have hbw1 := hbw.trans (hxw1.mono hbw.size)
          have hWw1 := hWW.trans (hxw1.mono hWW.size)
          clear hxw1 m0 m1 m2 m3 m4 m5 m6 n0 n1 n2 n3 n4 n5 n6
          obtain ⟨m0, m1, m2, m3, m4, m5, m6⟩ := HM.out w1 hWw1
          obtain ⟨n0, n1, n2, n3, n4, n5, n6⟩ := HN.out w1 hWw1
          go_wp2_with fail
          refine (cX w1 hbw1).mono ?_
          rintro e w2 ⟨rfl, hxw2⟩
          have hbw2 := hbw1.trans (hxw2.mono hbw1.size)
          have hWw2 := hWw1.trans (hxw2.mono hWw1.size)
          clear hxw2 m0 m1 m2 m3 m4 m5 m6 n0 n1 n2 n3 n4 n5 n6
          obtain ⟨m0, m1, m2, m3, m4, m5, m6⟩ := HM.out w2 hWw2
          obtain ⟨n0, n1, n2, n3, n4, n5, n6⟩ := HN.out w2 hWw2
          go_wp2_with fail
          refine (cY w2 hbw2).mono ?_
          rintro e w3 ⟨rfl, hxw3⟩
          have hbw3 := hbw2.trans (hxw3.mono hbw2.size)
          have hWw3 := hWw2.trans (hxw3.mono hWw2.size)
          clear hxw3 m0 m1 m2 m3 m4 m5 m6 n0 n1 n2 n3 n4 n5 n6
          obtain ⟨m0, m1, m2, m3, m4, m5, m6⟩ := HM.out w3 hWw3
          obtain ⟨n0, n1, n2, n3, n4, n5, n6⟩ := HN.out w3 hWw3
          go_wp2_with fail
          go_ret
          exact ⟨by rw [HR.out]; rfl, hbw3⟩
    | true =>
      rw [if_pos rfl] at HR
      clear cX cY
      obtain ⟨cnd, hcnd⟩ : ∃ cnd : List UInt8 → Bool, cnd = fun p => p == [42] || LK p := ⟨_, rfl⟩
      have hC : ∀ p, cnd p = (p == [42] || LK p) := fun p => by rw [hcnd]
      have HTR : Hid (∀ k (hk : k < PS.length), cnd PS[k] = true → R = true) := Lib.hid fun k hk h => by
        rw [HR.out, List.any_eq_true]
        exact ⟨PS[k], List.getElem_mem hk, by rw [← hC]; exact h⟩
      have HFA : Hid ((∀ j (hj : j < PS.length), cnd PS[j] = false) → R = false) := Lib.hid fun h => by
        rw [HR.out, List.any_eq_false]
        intro p hp
        obtain ⟨j, hj, rfl⟩ := List.getElem_of_mem hp
        have := h j hj
        rw [hC] at this
        rw [this]; decide
      clear HR hcnd
      go_wp2_with fail
      refine (cH W hbw).mono ?_
      rintro e w1 ⟨rfl, hxw1⟩
      have hbw1 := hbw.trans (hxw1.mono hbw.size)
      have hWw1 := hWW.trans (hxw1.mono hWW.size)
      clear hxw1 m0 m1 m2 m3 m4 m5 m6 n0 n1 n2 n3 n4 n5 n6
      obtain ⟨m0, m1, m2, m3, m4, m5, m6⟩ := HM.out w1 hWw1
      obtain ⟨n0, n1, n2, n3, n4, n5, n6⟩ := HN.out w1 hWw1
      go_wp2_with fail
      refine (cG w1 hbw1).mono ?_
      rintro e w2 ⟨v2, rfl, hB2⟩
      have hbw2 := hbw1.trans (hB2.2.mono hbw1.size)
      have hWw2 := hWw1.trans (hB2.2.mono hWw1.size)
      have cP2 := cP v2 w2 hB2.sin
      clear hB2 cP cG cH m0 m1 m2 m3 m4 m5 m6 n0 n1 n2 n3 n4 n5 n6
      obtain ⟨m0, m1, m2, m3, m4, m5, m6⟩ := HM.out w2 hWw2
      obtain ⟨n0, n1, n2, n3, n4, n5, n6⟩ := HN.out w2 hWw2
      go_wp2_with fail
      refine cP2.mono ?_
      rintro e w3 ⟨v3, rfl, hB3⟩
      have hbw3 := hbw2.trans (hB3.2.mono hbw2.size)
      have hWw3 := hWw2.trans (hB3.2.mono hWw2.size)
      obtain ⟨ao, cp, rfl, hx9⟩ := hB3.sin
      have HS3 := Lib.hid hB3.sin
      clear hx9 hB3 cP2 m0 m1 m2 m3 m4 m5 m6 n0 n1 n2 n3 n4 n5 n6
      obtain ⟨m0, m1, m2, m3, m4, m5, m6⟩ := HM.out w3 hWw3
      obtain ⟨n0, n1, n2, n3, n4, n5, n6⟩ := HN.out w3 hWw3
      obtain ⟨n, hnn⟩ : ∃ n, n = PS.length := ⟨_, rfl⟩
      have HNN := Lib.hid hnn
      rw [← hnn] at hpm HS3 ⊢
      clear hnn
      cases TG with
      | none =>
        rw [onv_none] at cO
        have HLn : Hid (∀ p, LK p = false) := Lib.hid fun p => HL.out p
        go_wp2_with fail
        refine (cO w3 hbw3).mono ?_
        rintro e w4 ⟨rfl, hx4⟩
        have hbw4 := hbw3.trans (hx4.mono hbw3.size)
        have HS4 := Lib.hid (HS3.out.later hx4)
        clear hx4 hbw3 HS3 m0 m1 m2 m3 m4 m5 m6 n0 n1 n2 n3 n4 n5 n6 cO
        go_wp2_with fail
        go_loop [8] (fun i => ∃ k : Nat, k ≤ n ∧ i = .int .i64 k ∧ Hid (∀ j (hj : j < PS.length), j < k → cnd PS[j] = false)) (fun i => n - (intOf i).toNat)
        case atStart => exact ⟨0, by omega, rfl, Lib.hid (fun j _ h => absurd h (by omega))⟩
        case round =>
          obtain ⟨k, hk, rfl, HJ⟩ := hrel
          by_cases hlt : k < n
          · have hkl : k < PS.length := by have := HNN.out; omega
            obtain ⟨b'', o'', rfl, hbl, hcell⟩ : ∃ b o, ao = some ⟨b, o, none⟩ ∧ b < w4.heap.size ∧ w4.cell? ⟨b, o + k, none⟩ = some (.string (str PS[k])) := by
              obtain ⟨a', c', hv, h⟩ := HS4.out
              injection hv with h1 h2 h3
              subst h1
              rcases h with h | ⟨b, o, h4, h5, h6⟩
              · exfalso; rw [h] at hkl; cases hkl
              · exact ⟨b, o, h4, h5, h6 k hkl⟩
            have hTk := HTR.out k hkl
            have hpk := HPL.out _ (List.getElem_mem hkl)
            obtain ⟨p, hp⟩ : ∃ p, p = PS[k] := ⟨_, rfl⟩
            have HP := Lib.hid hp
            rw [← hp] at hcell hTk hpk
            clear hp
            by_cases hst : p = [42]
            · have HR2 : Hid (R = true) := Lib.hid (hTk (by rw [hC, hst]; rfl))
              rw [hst, show str [42] = (⟨#[42]⟩ : ByteArray) from rfl] at hcell
              clear hTk hst
              go_wp2_with fail
              go_ret
              exact ⟨by rw [HR2.out]; rfl, hbw4⟩
            have hne : ((str p).toList == [42]) = false := str_nel hst
            have HJ2 : Hid (∀ j (hj : j < PS.length), j < k + 1 → cnd PS[j] = false) := Lib.hid fun j hj h => by
              by_cases e : j = k
              · subst e; rw [← HP.out]; exact (by rw [hC, beq_eq_false_iff_ne.2 hst, HLn.out]; rfl)
              · exact HJ.out j hj (by omega)
            generalize str p = sp at *
            clear hTk hst
            go_wp2_with fail
            go_round
            case rel => exact ⟨k + 1, by omega, by go_num, HJ2⟩
            case measure => simp [intOf]; omega
          · have HR2 : Hid (R = false) := Lib.hid (HFA.out fun j hj => HJ.out j hj (by have := HNN.out; omega))
            go_wp2_with fail
            go_ret
            exact ⟨by rw [HR2.out]; rfl, hbw4⟩
      | some t =>
        rw [onv_some] at cO
        have HLn : Hid (∀ p, LK p = (Rl.bare t == Rl.bare p)) := Lib.hid fun p => HL.out p
        have kT := fun W' => rbare_w t (by have := zA t rfl; omega) W'
        go_wp2_with fail
        refine (cO w3 hbw3).mono ?_
        rintro e w4 ⟨rfl, hx4⟩
        have hbw4 := hbw3.trans (hx4.mono hbw3.size)
        have HS4 := Lib.hid (HS3.out.later hx4)
        clear hx4 hbw3 HS3 m0 m1 m2 m3 m4 m5 m6 n0 n1 n2 n3 n4 n5 n6 cO
        go_wp2_with fail
        go_loop [8] (fun i => ∃ k : Nat, k ≤ n ∧ i = .int .i64 k ∧ Hid (∀ j (hj : j < PS.length), j < k → cnd PS[j] = false)) (fun i => n - (intOf i).toNat)
        case atStart => exact ⟨0, by omega, rfl, Lib.hid (fun j _ h => absurd h (by omega))⟩
        case round =>
          obtain ⟨k, hk, rfl, HJ⟩ := hrel
          by_cases hlt : k < n
          · have hkl : k < PS.length := by have := HNN.out; omega
            obtain ⟨b'', o'', rfl, hbl, hcell⟩ : ∃ b o, ao = some ⟨b, o, none⟩ ∧ b < w4.heap.size ∧ w4.cell? ⟨b, o + k, none⟩ = some (.string (str PS[k])) := by
              obtain ⟨a', c', hv, h⟩ := HS4.out
              injection hv with h1 h2 h3
              subst h1
              rcases h with h | ⟨b, o, h4, h5, h6⟩
              · exfalso; rw [h] at hkl; cases hkl
              · exact ⟨b, o, h4, h5, h6 k hkl⟩
            have hTk := HTR.out k hkl
            have hpk := HPL.out _ (List.getElem_mem hkl)
            obtain ⟨p, hp⟩ : ∃ p, p = PS[k] := ⟨_, rfl⟩
            have HP := Lib.hid hp
            rw [← hp] at hcell hTk hpk
            clear hp
            by_cases hst : p = [42]
            · have HR2 : Hid (R = true) := Lib.hid (hTk (by rw [hC, hst]; rfl))
              rw [hst, show str [42] = (⟨#[42]⟩ : ByteArray) from rfl] at hcell
              clear hTk hst
              go_wp2_with fail
              go_ret
              exact ⟨by rw [HR2.out]; rfl, hbw4⟩
            have hne : ((str p).toList == [42]) = false := str_nel hst
            have kP := fun W' => rbare_w p (by omega) W'
            by_cases he : Rl.bare t = Rl.bare p
            · have HR2 : Hid (R = true) := Lib.hid (hTk (by rw [hC, HLn.out, he, beq_self_eq_true, Bool.or_true]))
              rw [← he] at kP
              generalize str (Rl.bare t) = sb at *
              clear hTk hst he
              generalize str p = sp at *
              go_wp2_with fail
              refine (kP w4).mono ?_
              rintro e w9 ⟨rfl, rfl⟩
              go_wp2_with fail
              refine (kT w4).mono ?_
              rintro e w9 ⟨rfl, rfl⟩
              go_wp2_with fail
              go_ret
              exact ⟨by rw [HR2.out]; rfl, hbw4⟩
            · have HJ2 : Hid (∀ j (hj : j < PS.length), j < k + 1 → cnd PS[j] = false) := Lib.hid fun j hj h => by
                by_cases e : j = k
                · subst e; rw [← HP.out]; exact (by rw [hC, beq_eq_false_iff_ne.2 hst, HLn.out, beq_eq_false_iff_ne.2 he]; rfl)
                · exact HJ.out j hj (by omega)
              have hx := str_ne (fun e => he e.symm : Rl.bare p ≠ Rl.bare t)
              generalize str (Rl.bare t) = sb at *
              generalize str (Rl.bare p) = sq at *
              clear hTk hst he
              generalize str p = sp at *
              go_wp2_with fail
              refine (kP w4).mono ?_
              rintro e w9 ⟨rfl, rfl⟩
              go_wp2_with fail
              refine (kT w4).mono ?_
              rintro e w9 ⟨rfl, rfl⟩
              go_wp2_with fail
              go_round
              case rel => exact ⟨k + 1, by omega, by go_num, HJ2⟩
              case measure => simp [intOf]; omega
          · have HR2 : Hid (R = false) := Lib.hid (HFA.out fun j hj => HJ.out j hj (by have := HNN.out; omega))
            go_wp2_with fail
            go_ret
            exact ⟨by rw [HR2.out]; rfl, hbw4⟩
end Go.Proofs.YtoanelobggledaaGreatDoor

