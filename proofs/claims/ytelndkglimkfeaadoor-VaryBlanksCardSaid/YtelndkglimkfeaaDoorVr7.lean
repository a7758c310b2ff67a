/- Layer 9's document: Part, Key, Match. -/
import Derived.Test.YtelndkglimkfeaaDoorVr6
namespace Go.Proofs.YtelndkglimkfeaaDoor
open Go.RowKit

theorem join_zero (ps : List (List UInt8)) : Lib.join (ps.take 0) [44] = [] := rfl
theorem join_step (ps : List (List UInt8)) (k : Nat) (h : k < ps.length) : str (Lib.join (ps.take (k + 1)) [44]) = if k = 0 then str (Lib.join (ps.take k) [44]) ++ str ps[k] else str (Lib.join (ps.take k) [44]) ++ ⟨#[44]⟩ ++ str ps[k] := by
  rw [List.take_succ_eq_append_getElem h]
  by_cases h0 : k = 0
  · subst h0
    rw [if_pos rfl]
    apply ByteArray.ext
    simp [str, Lib.join_one, Lib.join_nil]
  · rw [if_neg h0, Vr.join_snoc _ _ (by intro e; have := congrArg List.length e; rw [List.length_take, Nat.min_eq_left (Nat.le_of_lt h)] at this; exact h0 this)]
    apply ByteArray.ext
    simp [str]
theorem join_small (ps : List (List UInt8)) (k m : Nat) (h : Lib.lens ps + ps.length ≤ m) : (Lib.join (ps.take k) [44]).length ≤ m := by
  have h1 := Vr.join_length (ps.take k)
  have h2 := Lib.lens_take_le ps k
  have h3 := List.length_take_le' k ps
  omega

set_option maxHeartbeats 1600000 in
set_option maxRecDepth 100000 in
theorem rPart_w (nm : List UInt8) (va : Value) (fs : List Fld.F) (w : World) (hn : nm.length ≤ 1000000) (ha : FIn w va fs) (hs : shortS fs = true) :
    Calls Tryd.prog 29 #[.string (str nm), va] w fun e w' => e = .returned (.tuple #[.string (str (Vr.joined nm fs)), .bool (Vr.has nm fs)]) ∧ Below w.heap.size w w' := by
  obtain ⟨s1, s2⟩ := shortS_spec hs
  have hf := shortS_fits hs
  have cG := rGet_w va fs nm w ha hf.small hn
  have hgl : (Fld.get fs nm).length ≤ 30 := Nat.le_trans (Fld.get_length fs nm) s1
  have hgv : ∀ l ∈ Fld.get fs nm, l.length ≤ 500 := Fld.get_small (fun f h => (s2 f h).2)
  have cS := fun (v : Value) (w1 : World) (h : SIn w1 v (Fld.get fs nm)) => rSplit_s v (Fld.get fs nm) w1 h (by omega) (fun l h => Nat.le_trans (hgv l h) (by decide))
  have hls := Vr.splitAll_lens (Fld.get fs nm) 500 hgv
  have hpl := Vr.piece_len hgv
  have hhas : Vr.has nm fs = decide (0 < (Fld.get fs nm).length) := by
    unfold Vr.has
    cases h : Fld.get fs nm with
    | nil => rfl
    | cons x r => simp
  have HJ : Hid (Vr.joined nm fs = Lib.join (Oct.splitAll (Fld.get fs nm)) [44]) := Lib.hid rfl
  have HH := Lib.hid hhas
  obtain ⟨aa, ca, rfl, _⟩ := ha
  generalize str nm = sn at *
  clear hn hs hf s1 s2 hhas
  generalize Fld.get fs nm = G at *
  have hls2 : Lib.lens (Oct.splitAll G) + (Oct.splitAll G).length ≤ 40000 := Nat.le_trans hls (Nat.le_trans (Nat.mul_le_mul_right _ hgl) (by decide))
  generalize Oct.splitAll G = PS at *
  have HL := Lib.hid hls2
  have HP := Lib.hid hpl
  obtain ⟨m, hm⟩ : ∃ m, m = G.length := ⟨_, rfl⟩
  rw [← hm] at HH hgl
  have HM := Lib.hid hm
  clear hls hls2 hpl hgv hm
  go_enter Tryd.func29, Tryd.ntmps29
  go_wp2_with fail
  refine cG.mono ?_
  rintro e w1 ⟨v1, rfl, hB1⟩
  have hb1 := hB1.2
  have cS1 := cS v1 w1 hB1.sin
  obtain ⟨a1, c1, rfl, _⟩ := hB1.sin
  rw [← HM.out] at cS1 ⊢
  clear cS cG hB1
  go_wp2_with fail
  refine cS1.mono ?_
  rintro e w2 ⟨v2, rfl, hB2⟩
  have hb2 := hb1.trans (hB2.2.mono hb1.size)
  have hI := hB2.sin
  clear cS1 hB2
  obtain ⟨n, hnn⟩ : ∃ n, n = PS.length := ⟨_, rfl⟩
  have HN := Lib.hid hnn
  by_cases h0 : PS = []
  · have HE := Lib.hid h0
    obtain ⟨a2, c2, rfl, _⟩ := hI
    have e0 : PS.length = 0 := by rw [h0]; rfl
    rw [e0]
    clear h0 e0 hnn
    go_wp2_with fail
    refine wp_loop_rounds 1 ?_
    rw [rounds_succ]
    go_wp2_with fail
    go_ret2
    exact ⟨by rw [HJ.out, HE.out, HH.out]; simp; rfl, hb2⟩
  obtain ⟨b2, o2, c2, rfl, hc⟩ := hI.at_ h0
  rw [← hnn]
  have hn9 : n ≤ 40000 := by have := HL.out; omega
  have HC := Lib.hid (hc w2 (Below.refl _ _))
  clear hc hnn h0 hI
  go_wp2_with fail
  go_loopw [8, 9] (fun s i wr => ∃ k : Nat, k ≤ n ∧ i = .int .i64 k ∧ s = .string (str (Lib.join (PS.take k) [44])) ∧ wr = w2) (fun _ i _ => n - (intOf i).toNat)
  case atStart => exact ⟨0, by omega, rfl, rfl, rfl⟩
  case round =>
    obtain ⟨k, hk, rfl, rfl, rfl⟩ := hrel
    by_cases hlt : k < n
    · have ka : k < PS.length := by have := HN.out; omega
      have c1' := HC.out k ka
      have hz : (str PS[k]).size ≤ 500 := by rw [str_size]; exact HP.out _ (List.getElem_mem ka)
      have hj : (str (Lib.join (PS.take k) [44])).size ≤ 40000 := by rw [str_size]; exact join_small PS k 40000 HL.out
      have HS := Lib.hid (join_step PS k ka)
      generalize str PS[k] = x at *
      generalize str (Lib.join (PS.take k) [44]) = J at *
      by_cases hk0 : k = 0
      · have HK := Lib.hid hk0
        have g0 : ¬ (0 : Int) < (k : Int) := by omega
        have hsum : ¬ 9223372036854775807 < J.size + x.size := by omega
        clear hk0
        go_wp2_with fail
        go_roundw
        case rel => exact ⟨k + 1, by omega, by go_num, by rw [HS.out, if_pos HK.out], trivial⟩
        case measure => simp [intOf]; omega
      · have HK := Lib.hid hk0
        have g0 : (0 : Int) < (k : Int) := by omega
        have hsum1 : ¬ 9223372036854775807 < J.size + (⟨#[44]⟩ : ByteArray).size := by rw [show (⟨#[44]⟩ : ByteArray).size = 1 from rfl]; omega
        have hsum : ¬ 9223372036854775807 < (J ++ ⟨#[44]⟩ : ByteArray).size + x.size := by rw [ByteArray.size_append, show (⟨#[44]⟩ : ByteArray).size = 1 from rfl]; omega
        clear hk0
        go_wp2_with fail
        go_roundw
        case rel => exact ⟨k + 1, by omega, by go_num, by rw [HS.out, if_neg HK.out], trivial⟩
        case measure => simp [intOf]; omega
    · have hE : PS.take k = PS := List.take_of_length_le (by have := HN.out; omega)
      rw [hE]
      clear hE
      go_wp2_with fail
      go_ret2
      exact ⟨by rw [HJ.out, HH.out]; rfl, hb2⟩
end Go.Proofs.YtelndkglimkfeaaDoor
