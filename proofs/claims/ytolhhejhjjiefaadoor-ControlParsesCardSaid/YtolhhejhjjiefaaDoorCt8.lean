/- The document's own answer for package control: Parse. -/
import Derived.Test.YtolhhejhjjiefaaDoorCt3
import Derived.Test.YtolhhejhjjiefaaDoorCt7
namespace Go.Proofs.YtolhhejhjjiefaaDoor
open Go.RowKit

theorem decide_str (nm k : List UInt8) : ((str nm).toList == k) = decide (nm = k) := by
  rw [str_toList]; by_cases h : nm = k
  · rw [h, beq_self_eq_true, decide_eq_true rfl]
  · rw [beq_eq_false_iff_ne.2 h, decide_eq_false h]
/-- A directive put in, part by part. -/
def sayB (c : Ctl.C) (e0 e1 e2 e3 e4 e5 e6 e7 e8 e9 e10 : Bool) (n : Int) : Ctl.C :=
  ⟨c.ns || e0, c.nc || e1, c.pu || e2, c.pr || e3, c.mu || e4, c.px || e5, c.oi || e6, if e7 then Ctl.first c.ma n else c.ma, if e8 then Ctl.first c.sa n else c.sa, if e9 then Ctl.first c.ms n else c.ms, if e10 then Ctl.first c.mf n else c.mf⟩
theorem say_B (c : Ctl.C) (nm : List UInt8) (n : Int) : Ctl.say c nm n = sayB c (decide (nm = Ctl.kNS)) (decide (nm = Ctl.kNC)) (decide (nm = Ctl.kPU)) (decide (nm = Ctl.kPR)) (decide (nm = Ctl.kMU)) (decide (nm = Ctl.kPX)) (decide (nm = Ctl.kOI)) (decide (nm = Ctl.kMA)) (decide (nm = Ctl.kSA)) (decide (nm = Ctl.kMS)) (decide (nm = Ctl.kMF)) n := by
  unfold Ctl.say sayB; simp only [decide_eq_true_eq]

/-- A field of the block turns. -/
theorem PAt.put {W w : World} {g : Nat} {v : Value} {ps : List (List UInt8)} {c d : Ctl.C} (h : PAt W w g v ps c) (k : Nat) (u : Value) (hd : (ccells c).setIfInBounds k u = ccells d) : PAt W (w.setCell ⟨g, k, none⟩ u) g v ps d :=
  h.turn ((Apart.refl w g g).put k u) (h.said.put k u hd)

set_option maxHeartbeats 12800000 in
set_option maxRecDepth 100000 in
theorem rCParse_w (va : Value) (ls : List (List UInt8)) (w : World) (hv : SIn w va ls) (hn : ls.length ≤ 1000) (hl : ∀ l ∈ ls, l.length ≤ 1000000) :
    Calls Tryd.prog 10 #[va] w fun e w' => e = .returned (cval (Ctl.parse ls)) ∧ Below w.heap.size w w' := by
  have HSA := Lib.hid (fun (w2 : World) (hb : Below w.heap.size w w2) => rSplit_s va ls w2 (hv.later hb) hn hl)
  have hplen : (Oct.splitAll ls).length ≤ 1000001000 := by have := Oct.splitAll_len ls hl; omega
  have HPM : Hid (∀ p ∈ Oct.splitAll ls, p.length ≤ 1000000) := fun p hp => Ctl.splitAll_piece hl hp
  have HR : Hid (Ctl.parse ls = Ctl.sayAll (Oct.splitAll ls)) := Lib.hid rfl
  obtain ⟨ps, hps⟩ : ∃ ps, ps = Oct.splitAll ls := ⟨_, rfl⟩
  rw [← hps] at hplen HPM HR HSA
  clear hn hl hv hps
  go_enter Tryd.func10, Tryd.ntmps10
  go_upto_region 1 with fail
  have hb1 : Below w.heap.size w (w.alloc (.cells (ccells Ctl.zeroC) 25)) := (Below.refl _ w).alloc (Nat.le_refl _) _
  have hr1 : CAt (w.alloc (.cells (ccells Ctl.zeroC) 25)) w.heap.size Ctl.zeroC := heap_alloc_new w _
  have hs1 : (w.alloc (.cells (ccells Ctl.zeroC) 25)).heap.size = w.heap.size + 1 := by simp
  change Below w.heap.size w (w.alloc (.cells #[.bool false, .bool false, .bool false, .bool false, .bool false, .bool false, .bool false, .int .i64 0, .int .i64 0, .int .i64 0, .int .i64 0] 25)) at hb1
  change CAt (w.alloc (.cells #[.bool false, .bool false, .bool false, .bool false, .bool false, .bool false, .bool false, .int .i64 0, .int .i64 0, .int .i64 0, .int .i64 0] 25)) w.heap.size Ctl.zeroC at hr1
  change (w.alloc (.cells #[.bool false, .bool false, .bool false, .bool false, .bool false, .bool false, .bool false, .int .i64 0, .int .i64 0, .int .i64 0, .int .i64 0] 25)).heap.size = w.heap.size + 1 at hs1
  generalize w.alloc (.cells #[.bool false, .bool false, .bool false, .bool false, .bool false, .bool false, .bool false, .int .i64 0, .int .i64 0, .int .i64 0, .int .i64 0] 25) = w2 at *
  go_upto_region 2 with fail
  have hb23 : Below w2.heap.size w2 (w2.alloc (.cells (ccells Ctl.none0) 25)) := (Below.refl _ w2).alloc (Nat.le_refl _) _
  have hc3 : CAt (w2.alloc (.cells (ccells Ctl.none0) 25)) w2.heap.size Ctl.none0 := heap_alloc_new w2 _
  have hs3 : (w2.alloc (.cells (ccells Ctl.none0) 25)).heap.size = w2.heap.size + 1 := by simp
  have hgt : w.heap.size < w2.heap.size := by omega
  have hr3 := hr1.later hb23
  change CAt (w2.alloc (.cells #[.bool false, .bool false, .bool false, .bool false, .bool false, .bool false, .bool false, .int .i64 (-1), .int .i64 (-1), .int .i64 (-1), .int .i64 (-1)] 25)) w.heap.size Ctl.zeroC at hr3
  change CAt (w2.alloc (.cells #[.bool false, .bool false, .bool false, .bool false, .bool false, .bool false, .bool false, .int .i64 (-1), .int .i64 (-1), .int .i64 (-1), .int .i64 (-1)] 25)) w2.heap.size Ctl.none0 at hc3
  change Below w2.heap.size w2 (w2.alloc (.cells #[.bool false, .bool false, .bool false, .bool false, .bool false, .bool false, .bool false, .int .i64 (-1), .int .i64 (-1), .int .i64 (-1), .int .i64 (-1)] 25)) at hb23
  change (w2.alloc (.cells #[.bool false, .bool false, .bool false, .bool false, .bool false, .bool false, .bool false, .int .i64 (-1), .int .i64 (-1), .int .i64 (-1), .int .i64 (-1)] 25)).heap.size = w2.heap.size + 1 at hs3
  have hb3 := hb1.trans (hb23.mono hb1.size)
  generalize w2.alloc (.cells #[.bool false, .bool false, .bool false, .bool false, .bool false, .bool false, .bool false, .int .i64 (-1), .int .i64 (-1), .int .i64 (-1), .int .i64 (-1)] 25) = W3 at *
  obtain ⟨g, hg⟩ : ∃ g, g = w.heap.size + 1 := ⟨_, rfl⟩
  rw [hs1, ← hg] at hc3 hs3 hgt
  rw [← hg]
  clear hs1 hb1 hr1 hb23 hg
  go_wp2_with fail
  refine (HSA.out W3 hb3).mono ?_
  rintro e w4 ⟨v, rfl, hown, hb4⟩
  rw [hs3] at hown
  have hP0 : PAt w w4 g v ps Ctl.none0 := ⟨hr3.later hb4, hc3.later hb4, hgt, hown, hb3.trans (hb4.mono hb3.size)⟩
  clear hs3 hb3 hr3 hc3 hown hb4 HSA hgt
  obtain ⟨ao, cp, rfl, hao⟩ := hP0.sin
  obtain ⟨n, hnn⟩ : ∃ n, n = ps.length := ⟨_, rfl⟩
  have HNN := Lib.hid hnn
  rw [← hnn] at hP0 hplen ⊢
  clear hnn hao
  have HG : Hid (∀ w5 c k (hk : k < n), PAt w w5 g (.slice ao n cp) ps c → ∃ b o, ao = some ⟨b, o, none⟩ ∧ w5.cell? ⟨b, o + k, none⟩ = some (.string (str (ps[k]'(by rw [← HNN.out]; exact hk))))) := by
    intro w5 c k hk hP
    obtain ⟨ao', cap', hv, h⟩ := hP.sin
    injection hv with h1 h2 h3
    subst h1
    rcases h with h | ⟨b, o, h4, h5, h6⟩
    · exfalso; rw [HNN.out, h] at hk; cases hk
    · exact ⟨b, o, h4, h6 k (by rw [← HNN.out]; exact hk)⟩
  go_wp2_with fail
  go_loopw [5] (fun i wr => ∃ k : Nat, k ≤ n ∧ i = .int .i64 k ∧ PAt w wr g (.slice ao n cp) ps (Ctl.sayAll (ps.take k))) (fun i _ => n - (intOf i).toNat)
  case atStart => exact ⟨0, by omega, rfl, hP0⟩
  case round =>
    clear hP0
    obtain ⟨k, hk, rfl, hP⟩ := hrel
    obtain ⟨wo, rfl⟩ : ∃ wo : World, wo = wr := ⟨_, rfl⟩
    by_cases hlt : k < n
    · have hkl : k < ps.length := by have := HNN.out; omega
      have HSn := Lib.hid (Ctl.sayAll_snoc ps k hkl)
      obtain ⟨b, o, rfl, hcell⟩ := HG.out wo _ k hlt hP
      have hD := rdirective_w ps[k] wo (HPM.out _ (List.getElem_mem hkl))
      generalize hp : ps[k] = p at *
      generalize Ctl.sayAll (ps.take k) = c at *
      cases hd : Ctl.directive p with
      | none =>
        have HE := Lib.hid (Ctl.step_none (c := c) hd)
        rw [hd, show dres none = .tuple #[.string ⟨#[]⟩, .int .i64 0, .bool false] from rfl] at hD
        clear hd hp
        generalize str p = s at *
        go_wp2_with fail
        refine hD.mono ?_
        rintro e w5 ⟨rfl, hb5⟩
        have hP5 := hP.after hb5
        clear hP hcell hb5 hD
        go_wp2_with fail
        go_roundw
        case rel => exact ⟨k + 1, by omega, by go_num, by rw [HSn.out, HE.out]; exact hP5⟩
        case measure => simp [intOf]; omega
      | some x =>
        obtain ⟨nm, m⟩ := x
        have HE := Lib.hid (Ctl.step_some (c := c) hd)
        have HB := Lib.hid (say_B c nm m)
        rw [hd, show dres (some (nm, m)) = .tuple #[.string (str nm), .int .i64 m, .bool true] from rfl] at hD
        have E0 := decide_str nm [110, 111, 45, 115, 116, 111, 114, 101]
        have E1 := decide_str nm [110, 111, 45, 99, 97, 99, 104, 101]
        have E2 := decide_str nm [112, 117, 98, 108, 105, 99]
        have E3 := decide_str nm [112, 114, 105, 118, 97, 116, 101]
        have E4 := decide_str nm [109, 117, 115, 116, 45, 114, 101, 118, 97, 108, 105, 100, 97, 116, 101]
        have E5 := decide_str nm [112, 114, 111, 120, 121, 45, 114, 101, 118, 97, 108, 105, 100, 97, 116, 101]
        have E6 := decide_str nm [111, 110, 108, 121, 45, 105, 102, 45, 99, 97, 99, 104, 101, 100]
        have E7 := decide_str nm [109, 97, 120, 45, 97, 103, 101]
        have E8 := decide_str nm [115, 45, 109, 97, 120, 97, 103, 101]
        have E9 := decide_str nm [109, 97, 120, 45, 115, 116, 97, 108, 101]
        have E10 := decide_str nm [109, 105, 110, 45, 102, 114, 101, 115, 104]
        have HK : Hid (Ctl.say c nm m = sayB c (decide (nm = [110, 111, 45, 115, 116, 111, 114, 101])) (decide (nm = [110, 111, 45, 99, 97, 99, 104, 101])) (decide (nm = [112, 117, 98, 108, 105, 99])) (decide (nm = [112, 114, 105, 118, 97, 116, 101])) (decide (nm = [109, 117, 115, 116, 45, 114, 101, 118, 97, 108, 105, 100, 97, 116, 101])) (decide (nm = [112, 114, 111, 120, 121, 45, 114, 101, 118, 97, 108, 105, 100, 97, 116, 101])) (decide (nm = [111, 110, 108, 121, 45, 105, 102, 45, 99, 97, 99, 104, 101, 100])) (decide (nm = [109, 97, 120, 45, 97, 103, 101])) (decide (nm = [115, 45, 109, 97, 120, 97, 103, 101])) (decide (nm = [109, 97, 120, 45, 115, 116, 97, 108, 101])) (decide (nm = [109, 105, 110, 45, 102, 114, 101, 115, 104])) m) := HB.out
        generalize decide (nm = [110, 111, 45, 115, 116, 111, 114, 101]) = q0 at *
        generalize decide (nm = [110, 111, 45, 99, 97, 99, 104, 101]) = q1 at *
        generalize decide (nm = [112, 117, 98, 108, 105, 99]) = q2 at *
        generalize decide (nm = [112, 114, 105, 118, 97, 116, 101]) = q3 at *
        generalize decide (nm = [109, 117, 115, 116, 45, 114, 101, 118, 97, 108, 105, 100, 97, 116, 101]) = q4 at *
        generalize decide (nm = [112, 114, 111, 120, 121, 45, 114, 101, 118, 97, 108, 105, 100, 97, 116, 101]) = q5 at *
        generalize decide (nm = [111, 110, 108, 121, 45, 105, 102, 45, 99, 97, 99, 104, 101, 100]) = q6 at *
        generalize decide (nm = [109, 97, 120, 45, 97, 103, 101]) = q7 at *
        generalize decide (nm = [115, 45, 109, 97, 120, 97, 103, 101]) = q8 at *
        generalize decide (nm = [109, 97, 120, 45, 115, 116, 97, 108, 101]) = q9 at *
        generalize decide (nm = [109, 105, 110, 45, 102, 114, 101, 115, 104]) = q10 at *
        clear hd hp HB
        generalize str p = s at *
        generalize str nm = sn at *
        obtain ⟨c0, c1, c2, c3, c4, c5, c6, c7, c8, c9, c10⟩ := c
        obtain ⟨z7, hz7⟩ : ∃ z, z = (q7 && decide (c7 < 0)) := ⟨_, rfl⟩
        have HZ7 := Lib.hid hz7
        obtain ⟨z8, hz8⟩ : ∃ z, z = (q8 && decide (c8 < 0)) := ⟨_, rfl⟩
        have HZ8 := Lib.hid hz8
        obtain ⟨z9, hz9⟩ : ∃ z, z = (q9 && decide (c9 < 0)) := ⟨_, rfl⟩
        have HZ9 := Lib.hid hz9
        obtain ⟨z10, hz10⟩ : ∃ z, z = (q10 && decide (c10 < 0)) := ⟨_, rfl⟩
        have HZ10 := Lib.hid hz10
        have HL : Hid (sayB ⟨c0, c1, c2, c3, c4, c5, c6, c7, c8, c9, c10⟩ q0 q1 q2 q3 q4 q5 q6 q7 q8 q9 q10 m = ⟨c0 || q0, c1 || q1, c2 || q2, c3 || q3, c4 || q4, c5 || q5, c6 || q6, cond z7 m c7, cond z8 m c8, cond z9 m c9, cond z10 m c10⟩) := by
          have key : ∀ (q z : Bool) (p : Int), z = (q && decide (p < 0)) → (if q then Ctl.first p m else p) = cond z m p := by
            intro q z p h
            subst h
            unfold Ctl.first
            cases q <;> by_cases hp : p < 0 <;> simp [hp]
          show (⟨_, _, _, _, _, _, _, _, _, _, _⟩ : Ctl.C) = _
          rw [key q7 z7 c7 hz7, key q8 z8 c8 hz8, key q9 z9 c9 hz9, key q10 z10 c10 hz10]
        clear hz7 hz8 hz9 hz10
        go_wp2_with fail
        refine hD.mono ?_
        rintro e w5 ⟨rfl, hb5⟩
        have hP5 := hP.after hb5
        clear hP hcell hb5 hD
        go_upto_region 8 with fail
        go_cut [] (fun wx => PAt w wx g (.slice (some ⟨b, o, none⟩) n cp) ps ⟨c0 || q0, c1, c2, c3, c4, c5, c6, c7, c8, c9, c10⟩)
        case first =>
          have hc := hP5.said.cell 0
          have hf := hP5.said.free 0
          rw [show (ccells _)[0]? = some (.bool c0) from rfl] at hc
          cases c0 with
          | true =>
            go_wp2_with fail
            go_meet
            case rel => exact hP5.put 0 (.bool true) rfl
          | false =>
            go_wp2_with fail
            go_meet
            case rel => exact hP5.put 0 (.bool q0) rfl
        case rest =>
        have hQ0 := hcut
        clear hcut hP5
        go_upto_region 9 with fail
        go_cut [] (fun wx => PAt w wx g (.slice (some ⟨b, o, none⟩) n cp) ps ⟨c0 || q0, c1 || q1, c2, c3, c4, c5, c6, c7, c8, c9, c10⟩)
        case first =>
          have hc := hQ0.said.cell 1
          have hf := hQ0.said.free 1
          rw [show (ccells _)[1]? = some (.bool c1) from rfl] at hc
          cases c1 with
          | true =>
            go_wp2_with fail
            go_meet
            case rel => exact hQ0.put 1 (.bool true) rfl
          | false =>
            go_wp2_with fail
            go_meet
            case rel => exact hQ0.put 1 (.bool q1) rfl
        case rest =>
        have hQ1 := hcut
        clear hcut hQ0
        go_upto_region 10 with fail
        go_cut [] (fun wx => PAt w wx g (.slice (some ⟨b, o, none⟩) n cp) ps ⟨c0 || q0, c1 || q1, c2 || q2, c3, c4, c5, c6, c7, c8, c9, c10⟩)
        case first =>
          have hc := hQ1.said.cell 2
          have hf := hQ1.said.free 2
          rw [show (ccells _)[2]? = some (.bool c2) from rfl] at hc
          cases c2 with
          | true =>
            go_wp2_with fail
            go_meet
            case rel => exact hQ1.put 2 (.bool true) rfl
          | false =>
            go_wp2_with fail
            go_meet
            case rel => exact hQ1.put 2 (.bool q2) rfl
        case rest =>
        have hQ2 := hcut
        clear hcut hQ1
        go_upto_region 11 with fail
        go_cut [] (fun wx => PAt w wx g (.slice (some ⟨b, o, none⟩) n cp) ps ⟨c0 || q0, c1 || q1, c2 || q2, c3 || q3, c4, c5, c6, c7, c8, c9, c10⟩)
        case first =>
          have hc := hQ2.said.cell 3
          have hf := hQ2.said.free 3
          rw [show (ccells _)[3]? = some (.bool c3) from rfl] at hc
          cases c3 with
          | true =>
            go_wp2_with fail
            go_meet
            case rel => exact hQ2.put 3 (.bool true) rfl
          | false =>
            go_wp2_with fail
            go_meet
            case rel => exact hQ2.put 3 (.bool q3) rfl
        case rest =>
        have hQ3 := hcut
        clear hcut hQ2
        go_upto_region 12 with fail
        go_cut [] (fun wx => PAt w wx g (.slice (some ⟨b, o, none⟩) n cp) ps ⟨c0 || q0, c1 || q1, c2 || q2, c3 || q3, c4 || q4, c5, c6, c7, c8, c9, c10⟩)
        case first =>
          have hc := hQ3.said.cell 4
          have hf := hQ3.said.free 4
          rw [show (ccells _)[4]? = some (.bool c4) from rfl] at hc
          cases c4 with
          | true =>
            go_wp2_with fail
            go_meet
            case rel => exact hQ3.put 4 (.bool true) rfl
          | false =>
            go_wp2_with fail
            go_meet
            case rel => exact hQ3.put 4 (.bool q4) rfl
        case rest =>
        have hQ4 := hcut
        clear hcut hQ3
        go_upto_region 13 with fail
        go_cut [] (fun wx => PAt w wx g (.slice (some ⟨b, o, none⟩) n cp) ps ⟨c0 || q0, c1 || q1, c2 || q2, c3 || q3, c4 || q4, c5 || q5, c6, c7, c8, c9, c10⟩)
        case first =>
          have hc := hQ4.said.cell 5
          have hf := hQ4.said.free 5
          rw [show (ccells _)[5]? = some (.bool c5) from rfl] at hc
          cases c5 with
          | true =>
            go_wp2_with fail
            go_meet
            case rel => exact hQ4.put 5 (.bool true) rfl
          | false =>
            go_wp2_with fail
            go_meet
            case rel => exact hQ4.put 5 (.bool q5) rfl
        case rest =>
        have hQ5 := hcut
        clear hcut hQ4
        go_upto_region 14 with fail
        go_cut [] (fun wx => PAt w wx g (.slice (some ⟨b, o, none⟩) n cp) ps ⟨c0 || q0, c1 || q1, c2 || q2, c3 || q3, c4 || q4, c5 || q5, c6 || q6, c7, c8, c9, c10⟩)
        case first =>
          have hc := hQ5.said.cell 6
          have hf := hQ5.said.free 6
          rw [show (ccells _)[6]? = some (.bool c6) from rfl] at hc
          cases c6 with
          | true =>
            go_wp2_with fail
            go_meet
            case rel => exact hQ5.put 6 (.bool true) rfl
          | false =>
            go_wp2_with fail
            go_meet
            case rel => exact hQ5.put 6 (.bool q6) rfl
        case rest =>
        have hQ6 := hcut
        clear hcut hQ5
        go_upto_region 15 with fail
        go_cut [84] (fun x wx => x = .bool z7 ∧ PAt w wx g (.slice (some ⟨b, o, none⟩) n cp) ps ⟨c0 || q0, c1 || q1, c2 || q2, c3 || q3, c4 || q4, c5 || q5, c6 || q6, c7, c8, c9, c10⟩)
        case first =>
          have hc := hQ6.said.cell 7
          rw [show (ccells _)[7]? = some (.int .i64 c7) from rfl] at hc
          cases q7 with
          | false =>
            go_wp2_with fail
            go_meet
            case rel => exact ⟨by rw [HZ7.out]; rfl, hQ6⟩
          | true =>
            go_wp2_with fail
            go_meet
            case rel => exact ⟨by rw [HZ7.out]; simp, hQ6⟩
        case rest =>
        obtain ⟨rfl, hR7⟩ := hcut
        clear hQ6
        go_upto_if 84 with fail
        go_cut [] (fun wx => PAt w wx g (.slice (some ⟨b, o, none⟩) n cp) ps ⟨c0 || q0, c1 || q1, c2 || q2, c3 || q3, c4 || q4, c5 || q5, c6 || q6, cond z7 m c7, c8, c9, c10⟩)
        case first =>
          have hf := hR7.said.free 7
          have hc := hR7.said.cell 7
          rw [show (ccells _)[7]? = some (.int .i64 c7) from rfl] at hc
          cases z7 with
          | false =>
            go_wp2_with fail
            go_meet
            case rel => exact hR7
          | true =>
            go_wp2_with fail
            go_meet
            case rel => exact hR7.put 7 (.int .i64 m) rfl
        case rest =>
        have hQ7 := hcut
        clear hcut hR7
        go_upto_region 17 with fail
        go_cut [93] (fun x wx => x = .bool z8 ∧ PAt w wx g (.slice (some ⟨b, o, none⟩) n cp) ps ⟨c0 || q0, c1 || q1, c2 || q2, c3 || q3, c4 || q4, c5 || q5, c6 || q6, cond z7 m c7, c8, c9, c10⟩)
        case first =>
          have hc := hQ7.said.cell 8
          rw [show (ccells _)[8]? = some (.int .i64 c8) from rfl] at hc
          cases q8 with
          | false =>
            go_wp2_with fail
            go_meet
            case rel => exact ⟨by rw [HZ8.out]; rfl, hQ7⟩
          | true =>
            go_wp2_with fail
            go_meet
            case rel => exact ⟨by rw [HZ8.out]; simp, hQ7⟩
        case rest =>
        obtain ⟨rfl, hR8⟩ := hcut
        clear hQ7
        go_upto_if 93 with fail
        go_cut [] (fun wx => PAt w wx g (.slice (some ⟨b, o, none⟩) n cp) ps ⟨c0 || q0, c1 || q1, c2 || q2, c3 || q3, c4 || q4, c5 || q5, c6 || q6, cond z7 m c7, cond z8 m c8, c9, c10⟩)
        case first =>
          have hf := hR8.said.free 8
          have hc := hR8.said.cell 8
          rw [show (ccells _)[8]? = some (.int .i64 c8) from rfl] at hc
          cases z8 with
          | false =>
            go_wp2_with fail
            go_meet
            case rel => exact hR8
          | true =>
            go_wp2_with fail
            go_meet
            case rel => exact hR8.put 8 (.int .i64 m) rfl
        case rest =>
        have hQ8 := hcut
        clear hcut hR8
        go_upto_region 19 with fail
        go_cut [102] (fun x wx => x = .bool z9 ∧ PAt w wx g (.slice (some ⟨b, o, none⟩) n cp) ps ⟨c0 || q0, c1 || q1, c2 || q2, c3 || q3, c4 || q4, c5 || q5, c6 || q6, cond z7 m c7, cond z8 m c8, c9, c10⟩)
        case first =>
          have hc := hQ8.said.cell 9
          rw [show (ccells _)[9]? = some (.int .i64 c9) from rfl] at hc
          cases q9 with
          | false =>
            go_wp2_with fail
            go_meet
            case rel => exact ⟨by rw [HZ9.out]; rfl, hQ8⟩
          | true =>
            go_wp2_with fail
            go_meet
            case rel => exact ⟨by rw [HZ9.out]; simp, hQ8⟩
        case rest =>
        obtain ⟨rfl, hR9⟩ := hcut
        clear hQ8
        go_upto_if 102 with fail
        go_cut [] (fun wx => PAt w wx g (.slice (some ⟨b, o, none⟩) n cp) ps ⟨c0 || q0, c1 || q1, c2 || q2, c3 || q3, c4 || q4, c5 || q5, c6 || q6, cond z7 m c7, cond z8 m c8, cond z9 m c9, c10⟩)
        case first =>
          have hf := hR9.said.free 9
          have hc := hR9.said.cell 9
          rw [show (ccells _)[9]? = some (.int .i64 c9) from rfl] at hc
          cases z9 with
          | false =>
            go_wp2_with fail
            go_meet
            case rel => exact hR9
          | true =>
            go_wp2_with fail
            go_meet
            case rel => exact hR9.put 9 (.int .i64 m) rfl
        case rest =>
        have hQ9 := hcut
        clear hcut hR9
        go_upto_region 21 with fail
        go_cut [111] (fun x wx => x = .bool z10 ∧ PAt w wx g (.slice (some ⟨b, o, none⟩) n cp) ps ⟨c0 || q0, c1 || q1, c2 || q2, c3 || q3, c4 || q4, c5 || q5, c6 || q6, cond z7 m c7, cond z8 m c8, cond z9 m c9, c10⟩)
        case first =>
          have hc := hQ9.said.cell 10
          rw [show (ccells _)[10]? = some (.int .i64 c10) from rfl] at hc
          cases q10 with
          | false =>
            go_wp2_with fail
            go_meet
            case rel => exact ⟨by rw [HZ10.out]; rfl, hQ9⟩
          | true =>
            go_wp2_with fail
            go_meet
            case rel => exact ⟨by rw [HZ10.out]; simp, hQ9⟩
        case rest =>
        obtain ⟨rfl, hR10⟩ := hcut
        clear hQ9
        have hf := hR10.said.free 10
        have hc := hR10.said.cell 10
        rw [show (ccells _)[10]? = some (.int .i64 c10) from rfl] at hc
        cases z10 with
        | false =>
          go_wp2_with fail
          go_roundw
          case rel =>
            exact ⟨k + 1, by omega, by go_num, by rw [HSn.out, HE.out, HK.out, HL.out]; exact hR10⟩
          case measure => simp [intOf]; omega
        | true =>
          go_wp2_with fail
          go_roundw
          case rel => exact ⟨k + 1, by omega, by go_num, by rw [HSn.out, HE.out, HK.out, HL.out]; exact hR10.put 10 (.int .i64 m) rfl⟩
          case measure => simp [intOf]; omega
    · obtain rfl : k = n := by omega
      have HTA : Hid (ps.take k = ps) := List.take_of_length_le (by have := HNN.out; omega)
      rw [HTA.out, ← HR.out] at hP
      obtain ⟨c, hc⟩ : ∃ c, c = Ctl.parse ls := ⟨_, rfl⟩
      rw [← hc] at hP
      have HC := Lib.hid hc
      clear hc
      have hs := hP.said
      have hr := hP.res
      have HF := Lib.hid (hP.res.whole c)
      have HB := Lib.hid (Below.row (g := w.heap.size) hP.below (Nat.le_refl _) (ccells c))
      unfold CAt at hs hr
      clear hP
      generalize hcc : ccells c = cc at *
      have hsz : cc.size = 11 := by rw [← hcc]; rfl
      have hi : (Tryd.prog.info? 25).map (·.size) = some cc.size := by rw [hsz]; kernel_rfl
      have h1 : cc.all (·.oneCell') = true := by rw [← hcc]; exact ccells_one c
      have HF : Hid ((wo.setRow w.heap.size cc).heap[w.heap.size]? = some (.cells cc 25 (0, 0))) := Lib.hid (by have h := HF.out; unfold CAt at h; rw [hcc] at h; exact h)
      go_upto_region 23 with fail
      go_wp2_with (first
        | refine wpList_load_row rfl 25 _ rfl g rfl 25 cc (0, 0) _ hs Tryd.underlying25 rfl hi ?_
        | refine wpList_store_row rfl 25 _ _ rfl w.heap.size cc rfl rfl 25 (ccells Ctl.zeroC) hr hi hsz.symm h1 ?_)
      (try simp only [Exit.inBlock, Exit.then])
      refine bodyPost_ret (v := .agg cc) ?h1 ?h2 ?h3
      case h1 => exact results_cell_row rfl _ _ w.heap.size _ cc (0, 0) _ rfl HF.out Tryd.underlying25 rfl hi
      case h2 => rfl
      case h3 => exact ⟨by unfold cval; rw [← HC.out, hcc], HB.out⟩
end Go.Proofs.YtolhhejhjjiefaaDoor
