/- Layer 9's document: Key, Match. -/
import Derived.Test.YtelndkglimkfeaaDoorVr7
namespace Go.Proofs.YtelndkglimkfeaaDoor
open Go.RowKit

theorem key_yes (ns : List (List UInt8)) (fs : List Fld.F) (k : Nat) (h : k < ns.length) (hh : Vr.has ns[k] fs = true) : str (Vr.key (ns.take (k + 1)) fs) = str (Vr.key (ns.take k) fs) ++ str (Oct.lower ns[k]) ++ ⟨#[58]⟩ ++ str (Vr.joined ns[k] fs) ++ ⟨#[10]⟩ := by
  rw [Vr.key_snoc ns fs k h]; unfold Vr.row Vr.part; rw [if_pos hh]
  apply ByteArray.ext; simp [str]
theorem key_no (ns : List (List UInt8)) (fs : List Fld.F) (k : Nat) (h : k < ns.length) (hh : Vr.has ns[k] fs = false) : str (Vr.key (ns.take (k + 1)) fs) = str (Vr.key (ns.take k) fs) ++ str (Oct.lower ns[k]) ++ ⟨#[10]⟩ := by
  rw [Vr.key_snoc ns fs k h]; unfold Vr.row Vr.part; rw [hh]
  apply ByteArray.ext; simp [str]
theorem size58 : (⟨#[58]⟩ : ByteArray).size = 1 := rfl
theorem size10 : (⟨#[10]⟩ : ByteArray).size = 1 := rfl

set_option maxHeartbeats 1600000 in
set_option maxRecDepth 100000 in
theorem rKey_w (vn : Value) (ns : List (List UInt8)) (va : Value) (fs : List Fld.F) (w : World) (hn : SIn w vn ns) (hnl : ns.length ≤ 20) (hnz : ∀ n ∈ ns, n.length ≤ 1000) (ha : FIn w va fs) (hs : shortS fs = true) :
    Calls Tryd.prog 15 #[vn, va] w fun e w' => e = .returned (.string (str (Vr.key ns fs))) ∧ Below w.heap.size w w' := by
  have HP : Hid (∀ (nm : List UInt8) (w1 : World), nm.length ≤ 1000000 → Below w.heap.size w w1 → Calls Tryd.prog 29 #[.string (str nm), va] w1 fun e w' => e = .returned (.tuple #[.string (str (Vr.joined nm fs)), .bool (Vr.has nm fs)]) ∧ Below w1.heap.size w1 w') :=
    Lib.hid (fun nm w1 hz hb => rPart_w nm va fs w1 hz (ha.later hb) hs)
  have hj := shortS_joined hs
  have hkl : ∀ k, (Vr.key (ns.take k) fs).length ≤ 20 * (1000 + 100000 + 2) := fun k =>
    Nat.le_trans (Vr.key_length (ns.take k) fs 1000 100000 (fun n h => hnz n (List.mem_of_mem_take h)) hj) (Nat.mul_le_mul_right _ (Nat.le_trans (List.length_take_le' k ns) hnl))
  have HJ := Lib.hid hj
  have HK := Lib.hid hkl
  have HZ := Lib.hid hnz
  obtain ⟨aa, ca, rfl, _⟩ := ha
  obtain ⟨n, hnn⟩ : ∃ n, n = ns.length := ⟨_, rfl⟩
  have HN := Lib.hid hnn
  by_cases h0 : ns = []
  · obtain ⟨ao, cap, rfl, _⟩ := hn
    have HE := Lib.hid h0
    have e0 : ns.length = 0 := by rw [h0]; rfl
    rw [e0]
    clear h0 hj hnz hkl hnn hnl e0 hs
    go_enter Tryd.func15, Tryd.ntmps15
    go_wp2_with fail
    refine wp_loop_rounds 1 ?_
    rw [rounds_succ]
    go_wp2_with fail
    go_ret
    exact ⟨by rw [HE.out]; rfl, Below.refl _ _⟩
  obtain ⟨bn, on, cn, rfl, hc⟩ := hn.at_ h0
  rw [← hnn]
  have hnl' : n ≤ 20 := by omega
  have HC := Lib.hid hc
  clear h0 hj hnz hkl hnn hnl hc hn hs
  go_enter Tryd.func15, Tryd.ntmps15
  go_wp2_with fail
  go_loopw [5, 6, 7, 8] (fun s i _ _ wr => ∃ k : Nat, k ≤ n ∧ i = .int .i64 k ∧ s = .string (str (Vr.key (ns.take k) fs)) ∧ Below w.heap.size w wr) (fun _ i _ _ _ => n - (intOf i).toNat)
  case atStart => exact ⟨0, by omega, rfl, rfl, Below.refl _ _⟩
  case round =>
    obtain ⟨k, hk, rfl, rfl, hbr⟩ := hrel
    by_cases hlt : k < n
    · have ka : k < ns.length := by have := HN.out; omega
      have c1 := HC.out wr hbr k ka
      have zk := HZ.out _ (List.getElem_mem ka)
      have cL := fun w => rLower_s (str ns[k]) w (by rw [str_size]; omega)
      rw [str_list] at cL
      have cP := fun (w1 : World) (hb : Below w.heap.size w w1) => HP.out ns[k] w1 (by omega) hb
      have hsz : (str (Oct.lower ns[k])).size ≤ 1000 := by rw [str_size, Oct.lower_length]; exact zk
      have hjz : (str (Vr.joined ns[k] fs)).size ≤ 100000 := by rw [str_size]; exact HJ.out _
      have hkz : (str (Vr.key (ns.take k) fs)).size ≤ 3000000 := by rw [str_size]; exact Nat.le_trans (HK.out k) (by decide)
      cases hh : Vr.has ns[k] fs with
      | true =>
        have HS := Lib.hid (key_yes ns fs k ka hh)
        rw [hh] at cP
        generalize str ns[k] = x at *
        generalize str (Oct.lower ns[k]) = y at *
        generalize str (Vr.joined ns[k] fs) = z at *
        generalize str (Vr.key (ns.take k) fs) = L at *
        have q1 : ¬ 9223372036854775807 < L.size + y.size := by omega
        have q2 : ¬ 9223372036854775807 < (L ++ y : ByteArray).size + (⟨#[58]⟩ : ByteArray).size := by rw [ByteArray.size_append, size58]; omega
        have q3 : ¬ 9223372036854775807 < (L ++ y ++ ⟨#[58]⟩ : ByteArray).size + z.size := by rw [ByteArray.size_append, ByteArray.size_append, size58]; omega
        have q4 : ¬ 9223372036854775807 < (L ++ y ++ ⟨#[58]⟩ ++ z : ByteArray).size + (⟨#[10]⟩ : ByteArray).size := by rw [ByteArray.size_append, ByteArray.size_append, ByteArray.size_append, size58, size10]; omega
        clear hh zk
        go_wp2_with fail
        refine (cL _).mono ?_
        rintro e w2 ⟨rfl, hb2⟩
        have hbr2 := hbr.trans (hb2.mono hbr.size)
        have c1' := (hb2.cell (p := ⟨bn, on + k, none⟩) (World.block_lt_of_cell? _ _ c1)).trans c1
        have cP2 := cP w2 hbr2
        go_wp2_with fail
        refine cP2.mono ?_
        rintro e w3 ⟨rfl, hb3⟩
        go_wp2_with fail
        go_roundw
        case rel => exact ⟨k + 1, by omega, by go_num, by rw [HS.out], hbr2.trans (hb3.mono hbr2.size)⟩
        case measure => simp [intOf]; omega
      | false =>
        have HS := Lib.hid (key_no ns fs k ka hh)
        rw [hh] at cP
        generalize str ns[k] = x at *
        generalize str (Oct.lower ns[k]) = y at *
        generalize str (Vr.joined ns[k] fs) = z at *
        generalize str (Vr.key (ns.take k) fs) = L at *
        have q1 : ¬ 9223372036854775807 < L.size + y.size := by omega
        have q2 : ¬ 9223372036854775807 < (L ++ y : ByteArray).size + (⟨#[10]⟩ : ByteArray).size := by rw [ByteArray.size_append, size10]; omega
        clear hh zk
        go_wp2_with fail
        refine (cL _).mono ?_
        rintro e w2 ⟨rfl, hb2⟩
        have hbr2 := hbr.trans (hb2.mono hbr.size)
        have c1' := (hb2.cell (p := ⟨bn, on + k, none⟩) (World.block_lt_of_cell? _ _ c1)).trans c1
        have cP2 := cP w2 hbr2
        go_wp2_with fail
        refine cP2.mono ?_
        rintro e w3 ⟨rfl, hb3⟩
        go_wp2_with fail
        go_roundw
        case rel => exact ⟨k + 1, by omega, by go_num, by rw [HS.out], hbr2.trans (hb3.mono hbr2.size)⟩
        case measure => simp [intOf]; omega
    · have hE : ns.take k = ns := List.take_of_length_le (by have := HN.out; omega)
      rw [hE]
      clear hE
      go_wp2_with fail
      go_ret
      exact ⟨rfl, hbr⟩

set_option maxHeartbeats 1600000 in
set_option maxRecDepth 100000 in
theorem rMatch_w (vn : Value) (ns : List (List UInt8)) (va vb : Value) (fa fb : List Fld.F) (w : World) (hn : SIn w vn ns) (hnl : ns.length ≤ 20) (hnz : ∀ n ∈ ns, n.length ≤ 1000) (ha : FIn w va fa) (hb : FIn w vb fb) (sa : shortS fa = true) (sb : shortS fb = true) :
    Calls Tryd.prog 17 #[vn, va, vb] w fun e w' => e = .returned (.bool (Vr.fits ns fa fb)) ∧ Below w.heap.size w w' := by
  have HPA : Hid (∀ (nm : List UInt8) (w1 : World), nm.length ≤ 1000000 → Below w.heap.size w w1 → Calls Tryd.prog 29 #[.string (str nm), va] w1 fun e w' => e = .returned (.tuple #[.string (str (Vr.joined nm fa)), .bool (Vr.has nm fa)]) ∧ Below w1.heap.size w1 w') :=
    Lib.hid (fun nm w1 hz h => rPart_w nm va fa w1 hz (ha.later h) sa)
  have HPB : Hid (∀ (nm : List UInt8) (w1 : World), nm.length ≤ 1000000 → Below w.heap.size w w1 → Calls Tryd.prog 29 #[.string (str nm), vb] w1 fun e w' => e = .returned (.tuple #[.string (str (Vr.joined nm fb)), .bool (Vr.has nm fb)]) ∧ Below w1.heap.size w1 w') :=
    Lib.hid (fun nm w1 hz h => rPart_w nm vb fb w1 hz (hb.later h) sb)
  have HZ := Lib.hid hnz
  obtain ⟨aa, ca, rfl, _⟩ := ha
  obtain ⟨ab, cb, rfl, _⟩ := hb
  obtain ⟨n, hnn⟩ : ∃ n, n = ns.length := ⟨_, rfl⟩
  have HN := Lib.hid hnn
  by_cases h0 : ns = []
  · obtain ⟨ao, cap, rfl, _⟩ := hn
    have HE := Lib.hid h0
    have e0 : ns.length = 0 := by rw [h0]; rfl
    rw [e0]
    clear h0 hnz hnn hnl e0 sa sb
    go_enter Tryd.func17, Tryd.ntmps17
    go_wp2_with fail
    refine wp_loop_rounds 1 ?_
    rw [rounds_succ]
    go_wp2_with fail
    go_ret
    exact ⟨by rw [HE.out]; rfl, Below.refl _ _⟩
  obtain ⟨bn, on, cn, rfl, hc⟩ := hn.at_ h0
  rw [← hnn]
  have hnl' : n ≤ 20 := by omega
  have HC := Lib.hid hc
  clear h0 hnz hnn hnl hc hn sa sb
  go_enter Tryd.func17, Tryd.ntmps17
  go_wp2_with fail
  go_loopw [7] (fun i wr => ∃ k : Nat, k ≤ n ∧ i = .int .i64 k ∧ Hid (Vr.fits (ns.take k) fa fb = true) ∧ Below w.heap.size w wr) (fun i _ => n - (intOf i).toNat)
  case atStart => exact ⟨0, by omega, rfl, Lib.hid rfl, Below.refl _ _⟩
  case round =>
    obtain ⟨k, hk, rfl, HT, hbr⟩ := hrel
    by_cases hlt : k < n
    · have ka : k < ns.length := by have := HN.out; omega
      have c1 := HC.out wr hbr k ka
      have zk := HZ.out _ (List.getElem_mem ka)
      have cA := HPA.out ns[k] wr (by omega) hbr
      have cB := fun (w1 : World) (hb : Below w.heap.size w w1) => HPB.out ns[k] w1 (by omega) hb
      have HS := Lib.hid (Vr.fits_snoc ns fa fb k ka)
      have hpe := Vr.part_eq ns[k] fa fb
      by_cases hp : (Vr.part ns[k] fa == Vr.part ns[k] fb) = true
      · have HY := Lib.hid hp
        rw [hp] at hpe
        have h2 := hpe.symm
        rw [Bool.and_eq_true, beq_iff_eq, beq_iff_eq] at h2
        obtain ⟨h3, h4⟩ := h2
        rw [h3, h4] at cA
        generalize Vr.has ns[k] fb = t at *
        generalize str (Vr.joined ns[k] fb) = z at *
        generalize str ns[k] = x at *
        clear hp hpe h3 h4 zk
        go_wp2_with fail
        refine cA.mono ?_
        rintro e w2 ⟨rfl, hb2⟩
        have hbr2 := hbr.trans (hb2.mono hbr.size)
        have c1' := (hb2.cell (p := ⟨bn, on + k, none⟩) (World.block_lt_of_cell? _ _ c1)).trans c1
        have cB2 := cB w2 hbr2
        go_wp2_with fail
        refine cB2.mono ?_
        rintro e w3 ⟨rfl, hb3⟩
        go_wp2_with fail
        go_roundw
        case rel => exact ⟨k + 1, by omega, by go_num, Lib.hid (by rw [HS.out, HT.out, HY.out]; rfl), hbr2.trans (hb3.mono hbr2.size)⟩
        case measure => simp [intOf]; omega
      · have hp' : (Vr.part ns[k] fa == Vr.part ns[k] fb) = false := by simpa using hp
        have HY := Lib.hid (Vr.fits_miss ka hp')
        rw [hp'] at hpe
        by_cases h3 : Vr.has ns[k] fa = Vr.has ns[k] fb
        · have h4 : ¬ Vr.joined ns[k] fa = Vr.joined ns[k] fb := fun e => by rw [h3, e] at hpe; simp at hpe
          have hx : ((str (Vr.joined ns[k] fa)).toList == (str (Vr.joined ns[k] fb)).toList) = false := by rw [str_toList, str_toList]; exact beq_eq_false_iff_ne.2 h4
          rw [h3] at cA
          generalize Vr.has ns[k] fb = t at *
          generalize str (Vr.joined ns[k] fa) = y at *
          generalize str (Vr.joined ns[k] fb) = z at *
          generalize str ns[k] = x at *
          clear hp hp' hpe h3 h4 zk
          go_wp2_with fail
          refine cA.mono ?_
          rintro e w2 ⟨rfl, hb2⟩
          have hbr2 := hbr.trans (hb2.mono hbr.size)
          have c1' := (hb2.cell (p := ⟨bn, on + k, none⟩) (World.block_lt_of_cell? _ _ c1)).trans c1
          have cB2 := cB w2 hbr2
          go_wp2_with fail
          refine cB2.mono ?_
          rintro e w3 ⟨rfl, hb3⟩
          go_wp2_with fail
          go_ret
          exact ⟨by rw [HY.out]; rfl, hbr2.trans (hb3.mono hbr2.size)⟩
        · have h4 : Vr.has ns[k] fa = !(Vr.has ns[k] fb) := by revert h3; cases Vr.has ns[k] fa <;> cases Vr.has ns[k] fb <;> simp
          rw [h4] at cA
          clear hp hp' hpe h3 h4 zk
          cases Vr.has ns[k] fb
          all_goals
            generalize str (Vr.joined ns[k] fa) = y at *
            generalize str (Vr.joined ns[k] fb) = z at *
            generalize str ns[k] = x at *
            go_wp2_with fail
            refine cA.mono ?_
            rintro e w2 ⟨rfl, hb2⟩
            have hbr2 := hbr.trans (hb2.mono hbr.size)
            have c1' := (hb2.cell (p := ⟨bn, on + k, none⟩) (World.block_lt_of_cell? _ _ c1)).trans c1
            have cB2 := cB w2 hbr2
            go_wp2_with fail
            refine cB2.mono ?_
            rintro e w3 ⟨rfl, hb3⟩
            go_wp2_with fail
            go_ret
            exact ⟨by rw [HY.out]; rfl, hbr2.trans (hb3.mono hbr2.size)⟩
    · have hE : ns.take k = ns := List.take_of_length_le (by have := HN.out; omega)
      have HE := Lib.hid hE
      clear hE
      go_wp2_with fail
      go_ret
      exact ⟨by rw [← HE.out, HT.out]; rfl, hbr⟩
end Go.Proofs.YtelndkglimkfeaaDoor
