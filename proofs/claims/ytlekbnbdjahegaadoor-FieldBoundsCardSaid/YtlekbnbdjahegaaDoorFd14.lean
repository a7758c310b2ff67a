/- Package field: headers, read. -/
import Derived.Test.YtlekbnbdjahegaaDoorFd13
namespace Go.Proofs.YtlekbnbdjahegaaDoor
open Go.RowKit

theorem readLine_small (l : List UInt8) : (Fld.readLine l).1.length ≤ l.length ∧ (Fld.readLine l).2.length ≤ l.length := by
  unfold Fld.readLine
  split
  · exact ⟨Nat.zero_le _, Nat.zero_le _⟩
  · unfold Fld.cutField
    refine ⟨by simp only [List.length_take]; omega, ?_⟩
    have := Oct.trim_len (l.drop (Fld.colon l + 1))
    rw [List.length_drop] at this
    show (Oct.trim _).length ≤ _
    omega

set_option maxHeartbeats 3200000 in
set_option maxRecDepth 100000 in
theorem Parse_w (g c : Nat) (l : List UInt8) (w : World) (hl : l.length ≤ 1000000) (hlc : l.length ≤ c) (hc9 : c ≤ 9223372036854775807) (h : Oc w g l) (hm : MaxOk w) :
    Calls Tryd.prog 9 #[.slice (some ⟨g, 0, none⟩) l.length c] w fun e w' => ∃ v, e = .returned (.tuple #[v, .int .i64 (Fld.parse l).2.1, .int .i64 (Fld.parse l).2.2]) ∧ FBuf w w' v (Fld.parse l).1 := by
  obtain ⟨L, hL⟩ : ∃ L, L = l.length := ⟨_, rfl⟩
  have cY := fun (n : Nat) (w1 : World) (hb : Below w.heap.size w w1) => lineAt_yes g n c l w1 hl hlc hc9 (h.later hb) (hm.later hb)
  have cN := fun (n : Nat) (w1 : World) (hb : Below w.heap.size w w1) => lineAt_no g n c l w1 hl hlc hc9 (h.later hb) (hm.later hb)
  rw [← hL] at cY cN ⊢
  have HL := Lib.hid hL
  have HM := Lib.hid hm
  have hL9 : L ≤ 1000000 := by omega
  clear h hm hL hl hlc hc9
  go_enter Tryd.func9, Tryd.ntmps9
  go_wp2_with fail
  go_loopw [5, 6] (fun v i wr => ∃ (n : Nat) (acc : List Fld.F), i = .int .i64 n ∧ Fld.At l n acc ∧ FBuf w wr v acc) (fun _ i _ => L - (intOf i).toNat)
  case atStart => exact ⟨0, [], rfl, Fld.At.start l, FBuf.nil w⟩
  case round =>
    obtain ⟨n, acc, rfl, hA, hB⟩ := hrel
    have hn1 : n ≤ L := by have := hA.1; have := HL.out; omega
    have hn2 : n ≤ 65536 := hA.2.1
    have hac : acc.length ≤ 128 := hA.2.2.1
    have HA := Lib.hid hA
    rcases (show Lib.index ((l.take 65536).drop n) [13, 10] < 0 ∨ 0 ≤ Lib.index ((l.take 65536).drop n) [13, 10] by omega) with hneg | hpos
    · have HP := Lib.hid (hA.none hneg)
      have hc := cN n wr hB.2 hn1 hn2 hneg
      have HN : Hid (Below w.heap.size w wr) := hB.2
      rw [← HL.out] at HP
      by_cases h6 : 65536 < L
      · rw [if_pos h6] at hc HP
        clear hA hneg h6
        go_wp2_with (go_at_call 25; refine hc.mono ?_; rintro e w1 ⟨rfl, hb1⟩)
        go_ret3
        exact ⟨_, by rw [HP.out]; rfl, by rw [HP.out]; exact FBuf.nil_of (HN.out.trans (hb1.mono HN.out.size))⟩
      · rw [if_neg h6] at hc HP
        clear hA hneg h6
        go_wp2_with (go_at_call 25; refine hc.mono ?_; rintro e w1 ⟨rfl, hb1⟩)
        go_ret3
        exact ⟨_, by rw [HP.out]; rfl, by rw [HP.out]; exact FBuf.nil_of (HN.out.trans (hb1.mono HN.out.size))⟩
    · obtain ⟨i, hi⟩ : ∃ i : Nat, Lib.index ((l.take 65536).drop n) [13, 10] = i := ⟨_, (Int.toNat_of_nonneg hpos).symm⟩
      obtain ⟨he, he1, he2⟩ := Fld.head_some hA.1 hi
      have hc := cY n wr hB.2 hn1 hn2 i hi he1 (by have := HL.out; omega)
      by_cases h0 : i = 0
      · subst h0
        have HP := Lib.hid (hA.last he he1)
        have e0 : str ((l.take (n + 0)).drop n) = ⟨#[]⟩ := by
          rw [Nat.add_zero, List.drop_of_length_le (by rw [List.length_take]; omega)]; rfl
        rw [e0] at hc
        clear hA hpos hi he he2 e0
        go_wp2_with (go_at_call 25; refine hc.mono ?_; rintro e w1 ⟨rfl, hb1⟩)
        go_ret3
        exact ⟨_, by rw [HP.out]; rfl, by rw [HP.out]; exact hB.after hb1⟩
      · obtain ⟨ln, hln⟩ : ∃ ln, ln = (l.take (n + i)).drop n := ⟨_, rfl⟩
        have hll : ln.length = i := by rw [hln, List.length_drop, List.length_take]; have := HL.out; omega
        rw [← hln] at hc
        have hi9 : i ≤ 1000000 := by omega
        have hnL : n + i + 2 ≤ L := by have := HL.out; omega
        have cR := fun w1 (hm : MaxOk w1) => read_w ln w1 (by omega) hm
        have zr := readLine_small ln
        have cF := fun w1 => right_s (Fld.readLine ln) w1 (by omega) (by omega)
        have hxe : (str ln).toList.isEmpty = false := by
          rw [str_toList]; cases h : ln with
          | nil => rw [h] at hll; simp at hll; omega
          | cons _ _ => rfl
        have hxn : ¬ (str ln).toList = [] := by
          rw [str_toList]; intro h; rw [h] at hll; simp at hll; omega
        have hxs : ((str ln).size : Int) = (i : Int) := by rw [str_size, hll]
        have HR0 : Hid (Fld.right (Fld.readLine ln) = false → Fld.parse l = ([], 0, 10)) := fun hr => hA.form he he1 (by omega) (by rw [← hln]; exact Fld.readLine_no hr)
        have HR1 : Hid (Fld.right (Fld.readLine ln) = true → acc.length ≥ 128 → Fld.parse l = ([], 0, 13)) := fun hr hm => hA.many he he1 (by omega) (f := Fld.readLine ln) (by rw [← hln]; exact Fld.readLine_yes hr) hm
        have HR2 : Hid (Fld.right (Fld.readLine ln) = true → acc.length < 128 → Fld.At l (n + i + 2) (acc ++ [Fld.readLine ln])) := fun hr hm => hA.next he he2 (by omega) he1 (by omega) (by rw [← hln]; exact Fld.readLine_yes hr) hm
        obtain ⟨f, hf⟩ : ∃ f, f = Fld.readLine ln := ⟨_, rfl⟩
        rw [← hf] at cR cF HR0 HR1 HR2
        generalize str ln = s at *
        obtain ⟨fx, hfx⟩ : ∃ x, x = str f.1 := ⟨_, rfl⟩
        obtain ⟨fy, hfy⟩ : ∃ y, y = str f.2 := ⟨_, rfl⟩
        unfold fval at cR cF
        rw [← hfx, ← hfy] at cR cF
        have HX := Lib.hid hfx
        have HY := Lib.hid hfy
        have HB : Hid (Below w.heap.size w wr) := hB.2
        clear hA hpos hi he he2 hln hll zr hf hfx hfy h0
        go_wp2_with (go_at_call 25; refine hc.mono ?_; rintro e w1 ⟨rfl, hb1⟩)
        have hm1 : MaxOk w1 := (HM.out.later HB.out).later hb1
        refine (cR w1 hm1).mono ?_
        rintro e w2 ⟨rfl, hb2⟩
        cases hr : Fld.right f with
        | false =>
          rw [hr] at cF
          have HP := Lib.hid (HR0.out hr)
          clear hr hm1
          go_wp2_with (go_at_call 27; refine (cF _).mono ?_; rintro e w3 ⟨rfl, hb3⟩)
          obtain ⟨_, _, hb4⟩ := fcell hb3
          go_ret3
          exact ⟨_, by rw [HP.out]; rfl, by rw [HP.out]; exact FBuf.nil_of ((HB.out.trans (hb1.mono HB.out.size)).trans ((hb2.trans (hb4.mono hb2.size)).mono (Nat.le_trans HB.out.size hb1.size)))⟩
        | true =>
          rw [hr] at cF
          by_cases h128 : acc.length = 128
          · have HP := Lib.hid (HR1.out hr (by omega))
            obtain ⟨ao, ca, rfl, _⟩ := hB.fin
            rw [h128] at *
            clear hr hm1 HR0 HR1 HR2 h128
            go_wp2_with (go_at_call 27; refine (cF _).mono ?_; rintro e w3 ⟨rfl, hb3⟩)
            obtain ⟨_, _, hb4⟩ := fcell hb3
            go_ret3
            exact ⟨_, by rw [HP.out]; rfl, by rw [HP.out]; exact FBuf.nil_of ((HB.out.trans (hb1.mono HB.out.size)).trans ((hb2.trans (hb4.mono hb2.size)).mono (Nat.le_trans HB.out.size hb1.size)))⟩
          · have HP := Lib.hid (HR2.out hr (by omega))
            have b1 : ((acc.length : Int) == 128) = false := beq_eq_false_iff_ne.2 (by omega)
            have hal : acc.length ≤ 1000000000 := by omega
            obtain ⟨ao, ca, hv5, _⟩ := hB.fin
            obtain ⟨A, hA5⟩ : ∃ A, A = acc.length := ⟨_, rfl⟩
            rw [← hA5] at hv5 b1
            have HA5 := Lib.hid hA5
            subst hv5
            clear hr hm1 HR0 HR1 HR2 h128 hA5
            go_wp2_with (first
              | (go_at_call 27; refine (cF _).mono ?_; rintro e w3 ⟨rfl, hb3⟩; obtain ⟨f0, f1, hb4⟩ := fcell hb3; have hB3 := hB.after (hb1.trans ((hb2.trans (hb4.mono hb2.size)).mono hb1.size)))
              | (at_builtin; refine appF hB3 f hal rfl _ _ rfl fx fy HX.out HY.out rfl rfl ?_; intro v' w4 hB4))
            go_roundw
            case rel => exact ⟨n + i + 2, acc ++ [f], by go_num, HP.out, hB4⟩
            case measure => simp [intOf]; omega
end Go.Proofs.YtlekbnbdjahegaaDoor
