/- The statements of layer 8: MessageTakes. -/
import Derived.Test.YtlbjjeonchcgbaaGreatDoorMs12A
import Derived.Test.YtlbjjeonchcgbaaGreatDoorMsQ
import Derived.Test.YtlbjjeonchcgbaaGreatDoorMsA
import Derived.Deep.RegionHeld3
namespace Go.Proofs.YtlbjjeonchcgbaaGreatDoor
open Go.RowKit

set_option maxHeartbeats 6400000 in
set_option maxRecDepth 100000 in
theorem mtakes_w (P : Read8 MaxOk) (v : Value) (l : List UInt8) (asks : Bool) (mm : ByteArray) (cv : Value) (cs : List UInt8) (w : World) (h : BIn w v l) (hn : NilOk v) (_hmz : mm.size ≤ 9223372036854775807) (hc : BIn w cv cs) (_hcn : NilOk cv) (hE : MaxOk w) :
    Calls Tryz.prog 5 #[v, howval asks mm cv] w fun e w' => e = .returned (.bool true) ∧ Below w.heap.size w w' := by
  unfold howval
  obtain ⟨m, rfl⟩ : ∃ m, mm = str m := ⟨mm.data.toList, (str_of mm).symm⟩
  have HV := Lib.hid h
  have HNIL := Lib.hid hn
  have HCS := Lib.hid hc
  have HE := Lib.hid hE
  obtain ⟨ao, c, rfl, hlc, hc9, _⟩ := h
  obtain ⟨ca, cc, rfl, hcl, hcc9, _⟩ := hc
  have cA := fun (W : World) (hb : Below w.heap.size w W) => mawake_w P W (HE.out.later hb)
  have cN := fun (W : World) (hb : Below w.heap.size w W) => new_r asks m W (HE.out.later hb)
  obtain ⟨L, hL⟩ : ∃ L, L = l.length := ⟨_, rfl⟩
  obtain ⟨NC, hNC⟩ : ∃ NC, NC = cs.length := ⟨_, rfl⟩
  have HL := Lib.hid hL
  have HNC := Lib.hid hNC
  rw [← hL] at HV HNIL hlc ⊢
  rw [← hNC] at HCS hcl ⊢
  have hmz : (str m).size = m.length := str_size m
  have HMZ := Lib.hid hmz
  have HMM := Lib.hid (rfl : str m = str m)
  obtain ⟨hd, hhd⟩ : ∃ hd, decide (m = Ms.kHead) = hd := ⟨_, rfl⟩
  rw [hhd] at cN
  have HLQ := Lib.hid (fun (st : Ms.S) (b : List UInt8) => (by rw [Ms.go_asHead, hhd] : Ms.go asks m st b = Ms.go asks (Ms.asHead hd) st b))
  have HTK := Lib.hid (fun (B : Nat) (W : World) (g : Nat) (st : Ms.S) (hR : Rdr B asks hd W g st) (u : Value) (y : List UInt8) (hy : y.length ≤ 500000) (hu : BIn W u y) (hun : NilOk u) (hb : Below w.heap.size w W) => Take_w hR u y hy hu hun (HE.out.later hb))
  have cT := fun (E : Nat) (hEl : E ≤ L) (h4 : L ≤ 4000) (hm : m.length ≤ 100) (W : World) (hb : Below w.heap.size w W) => mTold_w (.slice ao E c) (l.take E) asks m W (by rw [List.length_take]; omega) (by omega) ((HV.out.cut E (by rw [← HL.out]; exact hEl)).later hb)
  generalize hmm : str m = mm at *
  clear hn hE P hL hNC hhd hmm hmz _hmz _hcn
  by_cases h4 : (4000 : Int) < L
  · clear cN cT HTK HLQ
    go_enter Tryz.func5, Tryz.ntmps5
    go_upto_region 1 with fail
    have bA : (w.alloc (.cells #[.bool asks, .string mm, .slice ca NC cc] 46)).heap[w.heap.size]? = some (.cells #[.bool asks, .string mm, .slice ca NC cc] 46 (0, 0)) := heap_alloc_new w _
    have hb : Below w.heap.size w (w.alloc (.cells #[.bool asks, .string mm, .slice ca NC cc] 46)) := (Below.refl _ w).alloc (Nat.le_refl _) _
    have hpw : w.heap.size < (w.alloc (.cells #[.bool asks, .string mm, .slice ca NC cc] 46)).heap.size := by simp
    generalize w.alloc (.cells #[.bool asks, .string mm, .slice ca NC cc] 46) = W0 at *
    obtain ⟨p, hpp⟩ : ∃ q, q = w.heap.size := ⟨_, rfl⟩
    rw [← hpp] at bA hpw ⊢
    have HPP := Lib.hid hpp
    have HPW := Lib.hid hpw
    clear hpp hpw
    go_wp2_with fail
    refine (cA _ hb).mono ?_
    rintro q1 w1 ⟨rfl, hq1⟩
    replace bA := blk_later bA hq1
    have HP1 : Hid (p < w1.heap.size) := Lib.hid (Nat.lt_of_lt_of_le HPW.out hq1.size)
    replace hb := bt5 hb hq1
    clear hq1 HPW
    obtain ⟨c0, c1, c2⟩ := set3 bA
    go_wp2_with fail
    refine (cA _ hb).mono ?_
    rintro e9 w9 ⟨rfl, hb9⟩
    have hB := bt5 hb hb9
    go_wp2_with fail
    go_ret
    exact ⟨rfl, by first | exact hB | (rw [HPP.out]; exact hB)⟩
  by_cases h5 : (100 : Int) < NC
  · clear cN cT HTK HLQ
    go_enter Tryz.func5, Tryz.ntmps5
    go_upto_region 1 with fail
    have bA : (w.alloc (.cells #[.bool asks, .string mm, .slice ca NC cc] 46)).heap[w.heap.size]? = some (.cells #[.bool asks, .string mm, .slice ca NC cc] 46 (0, 0)) := heap_alloc_new w _
    have hb : Below w.heap.size w (w.alloc (.cells #[.bool asks, .string mm, .slice ca NC cc] 46)) := (Below.refl _ w).alloc (Nat.le_refl _) _
    have hpw : w.heap.size < (w.alloc (.cells #[.bool asks, .string mm, .slice ca NC cc] 46)).heap.size := by simp
    generalize w.alloc (.cells #[.bool asks, .string mm, .slice ca NC cc] 46) = W0 at *
    obtain ⟨p, hpp⟩ : ∃ q, q = w.heap.size := ⟨_, rfl⟩
    rw [← hpp] at bA hpw ⊢
    have HPP := Lib.hid hpp
    have HPW := Lib.hid hpw
    clear hpp hpw
    go_wp2_with fail
    refine (cA _ hb).mono ?_
    rintro q1 w1 ⟨rfl, hq1⟩
    replace bA := blk_later bA hq1
    have HP1 : Hid (p < w1.heap.size) := Lib.hid (Nat.lt_of_lt_of_le HPW.out hq1.size)
    replace hb := bt5 hb hq1
    clear hq1 HPW
    obtain ⟨c0, c1, c2⟩ := set3 bA
    go_wp2_with fail
    refine (cA _ hb).mono ?_
    rintro e9 w9 ⟨rfl, hb9⟩
    have hB := bt5 hb hb9
    go_wp2_with fail
    go_ret
    exact ⟨rfl, by first | exact hB | (rw [HPP.out]; exact hB)⟩
  by_cases h6 : (100 : Int) < mm.size
  · clear cN cT HTK HLQ
    go_enter Tryz.func5, Tryz.ntmps5
    go_upto_region 1 with fail
    have bA : (w.alloc (.cells #[.bool asks, .string mm, .slice ca NC cc] 46)).heap[w.heap.size]? = some (.cells #[.bool asks, .string mm, .slice ca NC cc] 46 (0, 0)) := heap_alloc_new w _
    have hb : Below w.heap.size w (w.alloc (.cells #[.bool asks, .string mm, .slice ca NC cc] 46)) := (Below.refl _ w).alloc (Nat.le_refl _) _
    have hpw : w.heap.size < (w.alloc (.cells #[.bool asks, .string mm, .slice ca NC cc] 46)).heap.size := by simp
    generalize w.alloc (.cells #[.bool asks, .string mm, .slice ca NC cc] 46) = W0 at *
    obtain ⟨p, hpp⟩ : ∃ q, q = w.heap.size := ⟨_, rfl⟩
    rw [← hpp] at bA hpw ⊢
    have HPP := Lib.hid hpp
    have HPW := Lib.hid hpw
    clear hpp hpw
    go_wp2_with fail
    refine (cA _ hb).mono ?_
    rintro q1 w1 ⟨rfl, hq1⟩
    replace bA := blk_later bA hq1
    have HP1 : Hid (p < w1.heap.size) := Lib.hid (Nat.lt_of_lt_of_le HPW.out hq1.size)
    replace hb := bt5 hb hq1
    clear hq1 HPW
    obtain ⟨c0, c1, c2⟩ := set3 bA
    go_wp2_with fail
    refine (cA _ hb).mono ?_
    rintro e9 w9 ⟨rfl, hb9⟩
    have hB := bt5 hb hb9
    go_wp2_with fail
    go_ret
    exact ⟨rfl, by first | exact hB | (rw [HPP.out]; exact hB)⟩
  have hm100 : m.length ≤ 100 := by rw [HMZ.out] at h6; omega
  have HL4 : Hid (L ≤ 4000 ∧ NC ≤ 100) := Lib.hid ⟨by omega, by omega⟩
  replace cT := fun (E : Nat) (hEl : E ≤ L) => cT E hEl (by omega) hm100
  have HT := Lib.hid cT
  have b4 : decide ((4000 : Int) < (L : Int)) = false := decide_eq_false h4
  have b5 : decide ((100 : Int) < (NC : Int)) = false := decide_eq_false h5
  have b6 : decide ((100 : Int) < (mm.size : Int)) = false := decide_eq_false h6
  clear h4 h5 h6 cT hm100
  go_enter Tryz.func5, Tryz.ntmps5
  go_upto_region 1 with fail
  have bA : (w.alloc (.cells #[.bool asks, .string mm, .slice ca NC cc] 46)).heap[w.heap.size]? = some (.cells #[.bool asks, .string mm, .slice ca NC cc] 46 (0, 0)) := heap_alloc_new w _
  have hb : Below w.heap.size w (w.alloc (.cells #[.bool asks, .string mm, .slice ca NC cc] 46)) := (Below.refl _ w).alloc (Nat.le_refl _) _
  have hpw : w.heap.size < (w.alloc (.cells #[.bool asks, .string mm, .slice ca NC cc] 46)).heap.size := by simp
  generalize w.alloc (.cells #[.bool asks, .string mm, .slice ca NC cc] 46) = W0 at *
  obtain ⟨p, hpp⟩ : ∃ q, q = w.heap.size := ⟨_, rfl⟩
  rw [← hpp] at bA hpw ⊢
  have HPP := Lib.hid hpp
  have HPW := Lib.hid hpw
  clear hpp hpw
  go_wp2_with fail
  refine (cA _ hb).mono ?_
  rintro q1 w1 ⟨rfl, hq1⟩
  replace bA := blk_later bA hq1
  have HP1 : Hid (p < w1.heap.size) := Lib.hid (Nat.lt_of_lt_of_le HPW.out hq1.size)
  replace hb := bt5 hb hq1
  clear hq1 HPW
  obtain ⟨c0, c1, c2⟩ := set3 bA
  clear cA
  go_wp2_with fail
  refine (cN w1 hb).mono ?_
  rintro e2 w2 ⟨rfl, hb2, hR⟩
  obtain ⟨g, hg⟩ : ∃ g, g = w1.heap.size := ⟨_, rfl⟩
  rw [← hg] at hR ⊢
  have bA2 := blk_later bA hb2
  have hbw := bt5 hb hb2
  have HGB : Hid (p < g ∧ g < w2.heap.size ∧ w.heap.size ≤ g) := Lib.hid ⟨by rw [hg]; exact HP1.out, hR.2.2.2.choose_spec.choose_spec.2.2.2.2.row.lt, by rw [hg]; exact hb.size⟩
  obtain ⟨B2, hB2⟩ : ∃ B2, B2 = w2.heap.size := ⟨_, rfl⟩
  have HO0 : Hid (OctR w B2 w2 (.slice none 0 0) []) := Lib.hid (OctR.nil hbw (by rw [hB2]; exact hbw.size) (by rw [hB2]; exact Nat.le_refl _))
  rw [← hB2] at HGB
  have HR0 := Lib.hid hR
  clear cN hb2 hg c0 c1 c2 bA hb hB2 hbw hR
  go_upto_region 9 with fail
  go_loopw [6, 7, 8, 9] (fun x6 x7 x8 x9 wr => ∃ (acc : List UInt8) (K A I : Nat) (st : Ms.S), x7 = .int .i64 K ∧ x8 = .int .i64 A ∧ x9 = .int .i64 I ∧ I ≤ NC + 1 ∧ Hid (I ≤ NC ∨ A = L) ∧ Hid (Ms.So l asks m A K acc st) ∧ Hid (OctR w B2 wr x6 acc) ∧ Hid (Rdr g asks hd wr g st) ∧ wr.heap[p]? = some (.cells #[.bool asks, .string mm, .slice ca NC cc] 46 (0, 0))) (fun _ _ _ x9 _ => NC + 1 - (intOf x9).toNat)
  case atStart => exact ⟨[], 0, 0, 0, .first, rfl, rfl, rfl, Nat.zero_le _, Lib.hid (.inl (Nat.zero_le _)), Lib.hid (Ms.So.start l asks m), HO0, HR0, bA2⟩
  case round =>
    clear bA2 HO0 HR0
    obtain ⟨acc, K, A, I, st, rfl, rfl, rfl, hI9, HIK, HSO, HO, HR, hbA⟩ := hrel
    have hI0 : (0 : Int) ≤ (I : Int) := by omega
    by_cases hI : I ≤ NC
    case neg =>
      have hIi : ¬ (I : Int) ≤ (NC : Int) := by omega
      clear hI9
      have hAL : L = A := by have := HIK.out; omega
      subst hAL
      have hrun := HSO.out.run
      have hll : l.take L = l := by rw [HL.out]; exact List.take_length
      rw [hll] at hrun
      have cTT := fun (W : World) (hb : Below w.heap.size w W) => HT.out L (Nat.le_refl _) W hb
      rw [hll] at cTT
      unfold MTold at cTT
      have htd : Ms.told l asks m = Ms.toldOf (acc, K, st, 0) := by rw [Ms.told_go, hrun]
      unfold Ms.toldOf at htd
      rw [if_neg (by simp)] at htd
      rw [htd] at cTT
      simp only [] at cTT
      obtain ⟨SH, hSH⟩ : ∃ q, q = (Ms.headOf st).1.start := ⟨_, rfl⟩
      obtain ⟨FH, hFH⟩ : ∃ q, q = (Ms.headOf st).1.fields := ⟨_, rfl⟩
      obtain ⟨BH, hBH⟩ : ∃ q, q = (Ms.headOf st).2 := ⟨_, rfl⟩
      obtain ⟨DH, hDH⟩ : ∃ q, q = Ms.isDone st := ⟨_, rfl⟩
      rw [← hSH, ← hFH, ← hBH, ← hDH] at cTT
      have cE := cTT wr HO.out.own.below
      obtain ⟨ZA, hZA⟩ : ∃ q, q = str acc := ⟨_, rfl⟩
      have hcv0 := HO.out.own.in_.1.all HO.out.own.in_.2
      have HOX := Lib.hid (fun (W : World) (hb : Below wr.heap.size wr W) => ((HO.out.after hb).own.in_.1.all (HO.out.after hb).own.in_.2))
      have HWB := Lib.hid HO.out.own.below
      obtain ⟨c0, c1, c2⟩ := set3 hbA
      clear hSH hFH hBH hDH htd hll hrun cTT hcv0 HSO HR HT HTK HLQ HIK hbA HO
      go_upto_region 27 with fail
      go_wp2_with fail
      refine cE.mono ?_
      rintro e3 w3 ⟨⟨fv, bv, rfl, hf3, hx3, hn3⟩, hb3⟩
      obtain ⟨fa, fc, rfl⟩ : ∃ a c, fv = .slice a FH.length c := by obtain ⟨a, c, h, _⟩ := hf3; exact ⟨a, c, h⟩
      obtain ⟨ba, bc, rfl⟩ : ∃ a c, bv = .slice a acc.length c := by obtain ⟨a, c, h, _⟩ := hx3; exact ⟨a, c, h⟩
      rw [mval_s]
      clear cE hf3
      go_upto_region 28 with fail
      have Y9 := heap_alloc_new w3 (.cells #[.string (str SH.method), .string (str SH.target), .int .i64 SH.status, .string (str SH.reason), .int .i64 SH.minor, .slice fa FH.length fc, .slice ba acc.length bc] 28)
      have hb9 : Below w3.heap.size w3 (w3.alloc (.cells #[.string (str SH.method), .string (str SH.target), .int .i64 SH.status, .string (str SH.reason), .int .i64 SH.minor, .slice fa FH.length fc, .slice ba acc.length bc] 28)) := (Below.refl _ w3).alloc (Nat.le_refl _) _
      generalize w3.alloc (.cells #[.string (str SH.method), .string (str SH.target), .int .i64 SH.status, .string (str SH.reason), .int .i64 SH.minor, .slice fa FH.length fc, .slice ba acc.length bc] 28) = w9 at *
      have s1 := HOX.out w9 (bt5 hb3 hb9)
      have s2 := (hx3.later hb9).all hn3
      rw [← hZA] at s1 s2
      obtain ⟨k0, k1, k2, k3, k4, k5, k6⟩ := set7 Y9
      have hB := bt5 HWB.out (bt5 hb3 hb9)
      clear Y9 hb9 hb3 hx3 k0 k1 k2 k3 k4 k5 HOX c0 c1 c2
      go_wp2_with fail
      go_ret
      exact ⟨rfl, by first | exact hB | (rw [HPP.out]; exact hB)⟩
    case pos =>
      have hIi : (I : Int) ≤ (NC : Int) := by omega
      have HI := Lib.hid hI
      obtain ⟨E, hAE, hEL, HE1, HE2⟩ : ∃ E : Nat, A ≤ E ∧ E ≤ L ∧ (I = NC → E = L) ∧ (I < NC → ∃ (x b2 o2 : Nat), x < 256 ∧ ca = some ⟨b2, o2, none⟩ ∧ wr.cell? ⟨b2, o2 + I, none⟩ = some (.int .u8 x) ∧ min (L : Int) ((A : Int) + (x : Int)) = (E : Int)) := by
        have hA := HSO.out.le
        rw [← HL.out] at hA
        by_cases hlt : I < NC
        · obtain ⟨a3, c3, e3, l3, m3, h3⟩ := HCS.out.later HO.out.own.below
          injection e3 with e31 e32 e33
          rcases h3 with h3 | ⟨b2, o2, h3, hbl, hc⟩
          · have := HNC.out; rw [h3] at this; simp at this; omega
          · have hk : I < cs.length := by rw [← HNC.out]; exact hlt
            exact ⟨min L (A + cs[I].toNat), by omega, by omega, by omega, fun _ => ⟨cs[I].toNat, b2, o2, cs[I].toNat_lt, by rw [e31, h3], hc I hk, by omega⟩⟩
        · exact ⟨L, hA, Nat.le_refl _, fun _ => rfl, fun h => absurd h hlt⟩
      have HEE := Lib.hid HE1
      have HEF := Lib.hid HE2
      clear HE1 HE2 hI hI9
      obtain ⟨c0, c1, c2⟩ := set3 hbA
      have HBA := Lib.hid hbA
      clear c0 c1 hbA
      go_upto_region 11 with fail
      obtain ⟨tb, htb⟩ : ∃ tb, decide (I < NC) = tb := ⟨_, rfl⟩
      go_cut [66] (fun x66 wx => x66 = .bool tb ∧ wr = wx)
      case first =>
        by_cases hlt : I < NC
        · have hlti : (I : Int) < (NC : Int) := by omega
          have htb2 : tb = true := by rw [← htb]; exact decide_eq_true hlt
          subst htb2
          clear htb hlt
          go_wp2_with fail
          go_meet
          case rel => exact ⟨rfl, rfl⟩
        · have hlti : ¬ (I : Int) < (NC : Int) := by omega
          have htb2 : tb = false := by rw [← htb]; exact decide_eq_false hlt
          subst htb2
          clear htb hlt
          go_wp2_with fail
          go_meet
          case rel => exact ⟨rfl, rfl⟩
      case rest =>
      obtain ⟨rfl, rfl⟩ := hcut
      go_upto_if 66 with fail
      go_cut [8] (fun x8 wx => x8 = .int .i64 E ∧ wr = wx)
      case first =>
        cases tb with
        | true =>
          obtain ⟨x, b2, o2, h256, rfl, hcell, hm⟩ := HEF.out (of_decide_eq_true htb)
          have hlti : (I : Int) < (NC : Int) := by have := of_decide_eq_true htb; omega
          have hL4 := HL4.out
          have hw1 : IntKind.i64.wrap ((A : Int) + (x : Int)) = (A : Int) + (x : Int) := by rw [IntKind.wrap_i64]; omega
          clear htb hL4
          go_wp2_with fail
          go_meet
          case rel => exact ⟨rfl, rfl⟩
        | false =>
          have hNR : E = L := HEE.out (by have := of_decide_eq_false htb; have := HI.out; omega)
          subst hNR
          clear htb
          go_wp2_with fail
          go_meet
          case rel => exact ⟨rfl, rfl⟩
      case rest =>
      obtain ⟨rfl, rfl⟩ := hcut
      clear htb HEF
      obtain ⟨X, hX⟩ : ∃ X, X = (l.take E).drop K := ⟨_, rfl⟩
      have hEl : E ≤ l.length := by rw [← HL.out]; exact hEL
      obtain ⟨xa, xn, xc, hsl, hsb, hsn⟩ := slice_mid HV.out HNIL.out K E (Nat.le_trans HSO.out.took hAE) hEl
      rw [← hX] at hsb
      have hXl : X.length ≤ 4000 := by have := HL4.out; rw [hX, List.length_drop, List.length_take]; omega
      have hlenX : ([] : List UInt8).length + X.length ≤ 1000000000 := by show 0 + _ ≤ _; omega
      obtain ⟨⟨xs, nn, st2, ee⟩, hgo⟩ : ∃ y, Ms.go asks m st X = y := ⟨_, rfl⟩
      have hpc := HSO.out.piece hAE hEl
      rw [← hX, hgo] at hpc
      simp only [] at hpc
      have HNX : Hid (ee = 0 → Ms.So l asks m E (K + nn) (acc ++ xs) st2) := Lib.hid (fun h => by
        subst h
        exact HSO.out.next hAE hEl (by rw [← hX]; exact hgo))
      have HDN : Hid (ee ≠ 0 → Ms.isDone st = false) := Lib.hid (fun h => Ms.done_ok (asks := asks) (m := m) (b := X) (by rw [hgo]; exact h))
      have hnn : nn ≤ 4000 := by
        have h := Ms.go_len asks m st X
        rw [hgo] at h
        simp only [] at h
        omega
      have HTD : Hid (Ms.told (l.take E) asks m = Ms.toldOf (acc ++ xs, K + nn, st2, ee)) := Lib.hid (by rw [Ms.told_go, hpc])
      have hTK := HTK.out g
      rw [HLQ.out] at hgo
      have HGO := Lib.hid hgo
      have HX := Lib.hid hXl
      have hKi : (0 : Int) ≤ (K : Int) := by omega
      clear hX hpc hgo hXl c2
      have HVL : Hid (BIn w (.slice ao L c) l) := HV
      go_wp2_with (at_builtin; refine appBs (Buf.none_ wr wr (Below.refl _ _)) ((hsb w HVL.out).later (HO.out.own.below.alloc HO.out.own.below.size _)) hsn hlenX rfl (.tmp 82) (.tmp 86) rfl rfl rfl ?_; intro v3 w3 hB3 _)
      have hb3 := hB3.2
      have hin := hB3.in_
      rw [List.nil_append] at hin
      have cK := hTK w3 g st (HR.out.later hb3) v3 X (by have := HX.out; omega) hin.1 hin.2 (bt5 HO.out.own.below hb3)
      rw [HGO.out] at cK
      have HO3 := Lib.hid (HO.out.after hb3)
      have hbA3 := blk_later HBA.out hb3
      have HBA3 := Lib.hid hbA3
      clear hB3 hb3 hin hTK hbA3 HO HR HBA hsl hsb hsn hlenX HVL
      go_wp2_with fail
      refine cK.mono ?_
      intro xt w4 hT
      obtain ⟨ua, un, uc, n4, hx, hk4, hn40, hPB, hPG⟩ : ∃ (ua : Option Addr) (un uc n4 : Nat), xt = .returned (.tuple #[.slice ua un uc, .int .i64 n4, .int .i64 ee]) ∧ Kin g w3 w4 ∧ n4 ≤ 4000 ∧
          (ee ≠ 0 → ua = none ∧ un = 0 ∧ uc = 0 ∧ n4 = 0 ∧ RdrBad w4 g (Ms.isDone st) ee) ∧ (ee = 0 → n4 = nn ∧ BIn w4 (.slice ua un uc) xs ∧ NilOk (.slice ua un uc) ∧ Rdr g asks hd w4 g st2) := by
        obtain ⟨hk, ⟨h0, hx, hbad⟩ | ⟨h0, ⟨u, hx, hrow⟩, hR4⟩⟩ := hT
        · exact ⟨none, 0, 0, 0, hx, hk, by omega, fun _ => ⟨rfl, rfl, rfl, rfl, hbad⟩, fun h => absurd h h0⟩
        · have h0 : ee = 0 := h0
          have hi := own_in hrow
          obtain ⟨a, c, hv⟩ : ∃ a c, u = .slice a xs.length c := by obtain ⟨a, c, h, _⟩ := hi.1; exact ⟨a, c, h⟩
          subst hv
          subst h0
          exact ⟨a, xs.length, c, nn, hx, hk, hnn, fun h => absurd rfl h, fun _ => ⟨rfl, hi.1, hi.2, hR4⟩⟩
      subst hx
      have HPB := Lib.hid hPB
      have HPG := Lib.hid hPG
      have HO4 := Lib.hid (HO3.out.kin hk4 HGB.out.2.2)
      have hbA4 : w4.heap[p]? = some (.cells #[.bool asks, .string mm, .slice ca NC cc] 46 (0, 0)) := by
        rw [hk4.below.block p HGB.out.1]; exact HBA3.out
      have HBA4 := Lib.hid hbA4
      have HB4 := Lib.hid HO4.out.own.below
      clear hT hk4 hPB hPG cK HO3 HBA3 hbA4
      have cTT := fun (W : World) (hb : Below w4.heap.size w4 W) => HT.out E hEL W (bt5 HB4.out hb)
      unfold MTold at cTT
      have hnm := Ms.told_named (l.take E) asks m
      have hfl := told_fields (l.take E) asks m
      obtain ⟨⟨⟨s9, fs9, x9⟩, fr, k9, dn, f9⟩, hq⟩ : ∃ y, Ms.told (l.take E) asks m = y := ⟨_, rfl⟩
      rw [hq] at cTT hnm hfl
      have HFL : Hid (fs9.length ≤ 128) := Lib.hid hfl
      have HQ : Hid ((⟨s9, fs9, x9⟩, fr, k9, dn, f9) = Ms.toldOf (acc ++ xs, K + nn, st2, ee)) := Lib.hid (by rw [← hq]; exact HTD.out)
      have HNM : Hid (∀ f ∈ fs9, f.1 ≠ []) := Lib.hid hnm
      obtain ⟨z0, hz0⟩ : ∃ z, z = str s9.method := ⟨_, rfl⟩
      obtain ⟨z1, hz1⟩ : ∃ z, z = str s9.target := ⟨_, rfl⟩
      obtain ⟨zs, hzs⟩ : ∃ z, z = s9.status := ⟨_, rfl⟩
      obtain ⟨z3, hz3⟩ : ∃ z, z = str s9.reason := ⟨_, rfl⟩
      obtain ⟨zm, hzm⟩ : ∃ z, z = s9.minor := ⟨_, rfl⟩
      obtain ⟨N9, hN9⟩ : ∃ z, z = fs9.length := ⟨_, rfl⟩
      obtain ⟨X9, hX9⟩ : ∃ z, z = x9.length := ⟨_, rfl⟩
      have HTE : Hid (∀ W, Below w4.heap.size w4 W → Calls Tryz.prog 11 #[.slice ao E c, .bool asks, .string mm] W fun e w' => (∃ fa fc ba bc, e = .returned (.tuple #[.agg #[.string z0, .string z1, .int .i64 zs, .string z3, .int .i64 zm, .slice fa N9 fc, .slice ba X9 bc], .bool fr, .int .i64 k9, .bool dn, .int .i64 f9]) ∧ FIn w' (.slice fa N9 fc) fs9 ∧ BIn w' (.slice ba X9 bc) x9 ∧ NilOk (.slice ba X9 bc)) ∧ Below W.heap.size W w') := Lib.hid (fun W hb => by
        refine (cTT W hb).mono ?_
        rintro e w' ⟨⟨fv, bv, he, h1, h2, h3⟩, hb'⟩
        simp only [] at he h1 h2
        obtain ⟨fa, fc, hfv⟩ : ∃ a c, fv = .slice a N9 c := by rw [hN9]; obtain ⟨a, c, h, _⟩ := h1; exact ⟨a, c, h⟩
        obtain ⟨ba, bc, hbv⟩ : ∃ a c, bv = .slice a X9 c := by rw [hX9]; obtain ⟨a, c, h, _⟩ := h2; exact ⟨a, c, h⟩
        subst hfv hbv
        rw [mval_s, ← hz0, ← hz1, ← hzs, ← hz3, ← hzm] at he
        exact ⟨⟨fa, fc, ba, bc, he, h1, h2, h3⟩, hb'⟩)
      have HZ := Lib.hid (⟨hz0, hz1, hzs, hz3, hzm, hN9, hX9⟩ : z0 = str s9.method ∧ z1 = str s9.target ∧ zs = s9.status ∧ z3 = str s9.reason ∧ zm = s9.minor ∧ N9 = fs9.length ∧ X9 = x9.length)
      clear cTT hnm hfl hq hz0 hz1 hzs hz3 hzm hN9 hX9 HTD
      have hEi : (0 : Int) ≤ (E : Int) := by omega
      have hEc : (E : Int) ≤ (c : Int) := by omega
      go_upto_region 15 with fail
      go_cut [13, 14, 15, 16, 17] (fun x13 x14 x15 x16 x17 wx => ∃ W9 g9 fa9 fc9 ba9 bc9, W9 = wx ∧ x13 = .pointer (some ⟨g9, 0, none⟩) ∧ x14 = .bool fr ∧ x15 = .int .i64 k9 ∧ x16 = .bool dn ∧ x17 = .int .i64 f9 ∧ Told9 w4 W9 g9 N9 X9 fa9 ba9 fc9 bc9 z0 z1 z3 zs zm fs9)
      case first =>
        have HS := Lib.hid (fun (W : World) (hh : Below w4.heap.size w4 W) => (by have h := set3 (blk_later HBA4.out hh); exact ⟨h.1, h.2.1⟩ : W.cell? ⟨p, 0, none⟩ = some (.bool asks) ∧ W.cell? ⟨p, 1, none⟩ = some (.string mm)))
        have K0 : Hid (Below w4.heap.size w4 w4.drew) := Lib.hid ((Below.refl _ w4).drew)
        have KB : Hid (Below w4.heap.size w4 (w4.alloc (.cells #[.string ⟨#[]⟩, .string ⟨#[]⟩, .int .i64 0, .string ⟨#[]⟩, .int .i64 0, .slice none 0 0, .slice none 0 0] 28)).drew) := Lib.hid (((Below.refl _ w4).alloc (Nat.le_refl _) _).drew)
        have KZ : Hid ((w4.alloc (.cells #[.string ⟨#[]⟩, .string ⟨#[]⟩, .int .i64 0, .string ⟨#[]⟩, .int .i64 0, .slice none 0 0, .slice none 0 0] 28)).drew.heap[w4.heap.size]? = some (.cells #[.string ⟨#[]⟩, .string ⟨#[]⟩, .int .i64 0, .string ⟨#[]⟩, .int .i64 0, .slice none 0 0, .slice none 0 0] 28 (0, 0))) := Lib.hid (heap_alloc_new w4 _)
        go_region_held3 (fun w' => w'.cell? ⟨p, 0, none⟩ = some (.bool asks) ∧ w'.cell? ⟨p, 1, none⟩ = some (.string mm))
          (first
            | with_reducible exact HS.out _ K0.out | with_reducible exact HS.out _ KB.out
            | with_reducible exact HS.out _ HB5.out | with_reducible exact HS.out _ (HB5.out.alloc HB5.out.size _)
            | (have hh5 := HB5.out; with_reducible exact HS.out _ (hh5.trans ((put7_buts _ _ _ _ _ _ _ _ _).below hh5.size (Nat.le_refl _) (Nat.le_refl _)))))
          (first
            | (go_at_call 11; (with_reducible refine (HTE.out _ K0.out).mono ?_); rintro e w5 ⟨⟨fa9, fc9, ba9, bc9, rfl, hf9, hx9, hn9⟩, hb5⟩; have hb45 := bt5 K0.out hb5; have HB5 := Lib.hid hb45; have HR5 := Lib.hid hf9; clear hf9 hx9 hn9 hb5 hb45)
            | (go_at_call 11; (with_reducible refine (HTE.out _ KB.out).mono ?_); rintro e w5 ⟨⟨fa9, fc9, ba9, bc9, rfl, hf9, hx9, hn9⟩, hb5⟩; have hb45 := bt5 KB.out hb5; have HB5 := Lib.hid hb45; have hz := blk_later KZ.out hb5; obtain ⟨k0, k1, k2, k3, k4, k5, k6⟩ := set7 hz; have y0 := freeM hz 0; have y1 := freeM hz 1; have y2 := freeM hz 2; have y3 := freeM hz 3; have y4 := freeM hz 4; have y5 := freeM hz 5; have y6 := freeM hz 6; have HS5 := Lib.hid (And.intro hf9 hz); clear hz hf9 hx9 hn9 hb5 hb45))
        all_goals go_wp2_with fail
        all_goals go_meet
        all_goals (case rel => first
          | (have hr5 := HR5.out
             have ht := told9_new (X := X9) (ba := ba9) (bc := bc9) z0 z1 z3 zs zm hr5 HB5.out
             exact ⟨_, w5.heap.size, fa9, fc9, ba9, bc9, rfl, rfl, rfl, rfl, rfl, rfl, ht⟩)
          | (have hs5 := HS5.out
             obtain ⟨W, hW, h1⟩ := told9_put (X := X9) (ba := ba9) (bc := bc9) z0 z1 z3 zs zm HS5.out.1 HNM.out HB5.out (Nat.le_refl _) HS5.out.2
             exact ⟨W, _, fa9, fc9, ba9, bc9, hW, rfl, rfl, rfl, rfl, rfl, h1⟩))
      case rest =>
      obtain ⟨W9, g9, fa9, fc9, ba9, bc9, rfl, rfl, rfl, rfl, rfl, rfl, h9⟩ := hcut
      by_cases f0 : ee = 0
      case neg =>
        obtain ⟨rfl, rfl, rfl, rfl, hbad⟩ := HPB.out f0
        have hq := HQ.out
        unfold Ms.toldOf at hq
        rw [if_pos f0] at hq
        simp only [Prod.mk.injEq] at hq
        obtain ⟨_, _, _, hdn, hf9⟩ := hq
        subst hdn hf9
        have hdd := HDN.out f0
        have HB9 := Lib.hid (bt5 HB4.out h9.2.2.2.1)
        have hbad9 : RdrBad W9 g false f9 := by
          obtain ⟨a, rc, q1, q2, q3, q4, q5⟩ := hbad
          exact ⟨a, rc, by rw [q1]; exact hdd, q2, q3, q4, q5.later h9.2.2.2.1⟩
        have HBD := Lib.hid hbad9
        have be : (f9 != 0) = true := by rw [bne, beq_eq_false_iff_ne.2 f0]; rfl
        have cD := done_bad hbad9
        clear hbad hbad9 hdd h9 HPB HPG HTE HQ HNX
        go_wp2_with fail
        refine cD.mono ?_
        rintro e10 w10 ⟨rfl, rfl⟩
        obtain ⟨W7, hcv, hin7, hb7⟩ := octets_block W9 #[.int .u8 71, .int .u8 69, .int .u8 84, .int .u8 32, .int .u8 47, .int .u8 32, .int .u8 72, .int .u8 84, .int .u8 84, .int .u8 80, .int .u8 47, .int .u8 49, .int .u8 46, .int .u8 49, .int .u8 13, .int .u8 10, .int .u8 13, .int .u8 10] [71, 69, 84, 32, 47, 32, 72, 84, 84, 80, 47, 49, 46, 49, 13, 10, 13, 10] rfl (by decide)
        have hcv' : (convert 22 22 (.slice (some ⟨W9.heap.size, 0, none⟩) 18 18)).run Tryz.prog (W9.alloc (.cells #[.int .u8 71, .int .u8 69, .int .u8 84, .int .u8 32, .int .u8 47, .int .u8 32, .int .u8 72, .int .u8 84, .int .u8 84, .int .u8 80, .int .u8 47, .int .u8 49, .int .u8 46, .int .u8 49, .int .u8 13, .int .u8 10, .int .u8 13, .int .u8 10] 5)) = .ok (.slice (some ⟨W9.heap.size, 0, none⟩) 18 18) W7 := hcv
        have hbad7 : RdrBad W7 g false f9 := by
          obtain ⟨a, rc, q1, q2, q3, q4, q5⟩ := HBD.out
          exact ⟨a, rc, q1, q2, q3, q4, q5.later hb7⟩
        have cB := take_again hbad7 f0 (.slice (some ⟨W9.heap.size, 0, none⟩) 18 18)
        have HB7 := Lib.hid (bt5 HB9.out hb7)
        clear hcv hin7 hb7 hbad7 cD
        go_wp2_with fail
        refine cB.mono ?_
        rintro e8 w8 ⟨rfl, hb8⟩
        have hB := bt5 HB7.out hb8
        clear cB hcv'
        go_wp2_with fail
        go_ret
        exact ⟨rfl, by first | exact hB | (rw [HPP.out]; exact hB)⟩
      case pos =>
        obtain ⟨rfl, hxu, hxn, hR4⟩ := HPG.out f0
        subst f0
        have hq := HQ.out
        unfold Ms.toldOf at hq
        rw [if_neg (by simp)] at hq
        simp only [Prod.mk.injEq] at hq
        obtain ⟨hms, hfr, hk9, hdn, hf9⟩ := hq
        injection hms with hs9 hfs9 hx9
        subst hfr hf9 hdn
        have HSN0 := HNX.out rfl
        obtain ⟨K9, hK9⟩ : ∃ q, q = K + n4 := ⟨_, rfl⟩
        have hk9' : k9 = K9 := by rw [hk9, hK9]
        subst hk9'
        rw [← hK9] at HSN0
        have HSN := Lib.hid HSN0
        have hK4 : K ≤ 4000 := by have h1 := HSO.out.took; have h2 := HL4.out; omega
        have hwK : IntKind.i64.wrap ((K : Int) + (n4 : Int)) = (k9 : Int) := by rw [IntKind.wrap_i64]; omega
        have hwK2 : (K : Int) + (n4 : Int) = (k9 : Int) := by omega
        have HO9 := Lib.hid (HO4.out.after h9.2.2.2.1)
        have HR4 := Lib.hid hR4
        have cD := done_r (hR4.later h9.2.2.2.1)
        have hxu9 := hxu.later h9.2.2.2.1
        have hlen9 : acc.length + xs.length ≤ 1000000000 := by have h1 := HSN0.told; have h2 := HSN0.took; rw [List.length_append] at h1; have h3 := HL4.out; omega
        have HF9L : Hid (fs9.length ≤ 1000000000) := Lib.hid (by have := HFL.out; omega)
        obtain ⟨dv, hdv⟩ : ∃ q, Ms.isDone st2 = q := ⟨_, rfl⟩
        rw [hdv] at cD ⊢
        clear hK9 hk9 HSN0 HPB HPG HTE HQ HNX HDN hR4 hxu HNM
        go_wp2_with fail
        refine cD.mono ?_
        rintro e10 w10 ⟨rfl, rfl⟩
        clear cD
        go_upto_region 22 with (at_builtin; refine appU HO9.out hxu9 hxn hlen9 rfl (.tmp 141) (.tmp 142) rfl rfl rfl ?_; intro v7 w7 hO7 hg7)
        obtain ⟨va, vn, vc, hv7⟩ : ∃ a n c, v7 = .slice a n c := by obtain ⟨a, c, h, _⟩ := hO7.own.in_.1; exact ⟨a, _, c, h⟩
        subst hv7
        have HO7 := Lib.hid hO7
        have hR7 := HR4.out.pres HO4.out (Pres.grown h9.2.2.2.1 hg7)
        clear hO7 hxu9 hxn
        by_cases hbd : Ms.Body st2
        · have cH := head_yes hR7 hbd
          obtain ⟨b1, b2⟩ := head_start hbd
          rw [← b1, ← b2, ← hs9, ← hfs9] at cH
          simp only [mval_s] at cH
          have hfr : (Ms.headOf st2).2 = true := by cases st2 <;> first | rfl | exact absurd hbd (by intro h; cases h)
          rw [hfr]
          obtain ⟨e0, e1, e2, e3, e4, e5, _⟩ := HZ.out
          rw [← e0, ← e1, ← e2, ← e3, ← e4, ← e5] at cH
          clear b1 b2 e0 e1 e2 e3 e4 e5 hfr hs9 hfs9 hx9 hR7 hbd
          go_wp2_with fail
          refine cH.mono ?_
          rintro e8 w8 ⟨⟨fa21, fc21, rfl, hf21, _, hn21⟩, hb8⟩
          clear cH
          go_upto_region 24 with fail
          have Y10 := heap_alloc_new w8 (.cells #[.string z0, .string z1, .int .i64 zs, .string z3, .int .i64 zm, .slice fa21 N9 fc21, .slice none 0 0] 28)
          have hb10 : Below w8.heap.size w8 (w8.alloc (.cells #[.string z0, .string z1, .int .i64 zs, .string z3, .int .i64 zm, .slice fa21 N9 fc21, .slice none 0 0] 28)) := (Below.refl _ w8).alloc (Nat.le_refl _) _
          have hlt21 : w4.heap.size ≤ w8.heap.size := Nat.le_trans h9.2.2.2.1.size (Nat.le_trans hg7.size hb8.size)
          generalize w8.alloc (.cells #[.string z0, .string z1, .int .i64 zs, .string z3, .int .i64 zm, .slice fa21 N9 fc21, .slice none 0 0] 28) = w10 at *
          obtain ⟨g21, hg21⟩ : ∃ q, q = w8.heap.size := ⟨_, rfl⟩
          rw [← hg21] at Y10 hlt21 ⊢
          have hg9lt : g9 < w7.heap.size := Nat.lt_of_lt_of_le (lt_of_block h9.1) hg7.size
          have h9g : g9 ≠ g21 := by rw [hg21]; have := hb8.size; omega
          have HG21 := Lib.hid hg21
          clear hg21
          have y7 : w7.heap[g9]? = some (.cells #[.string z0, .string z1, .int .i64 zs, .string z3, .int .i64 zm, .slice fa9 N9 fc9, .slice ba9 X9 bc9] 28 (0, 0)) := by
            rw [hg7.block g9 (lt_of_block h9.1) (by
              intro he
              rcases HO9.out.own.row.2 with ⟨h0, _⟩ | ⟨j, cap, cur, hv, _, hh, _⟩
              · rw [h0] at he; cases he
              · rw [hv] at he
                simp only [Value.ownBlock, Option.some.injEq] at he
                subst he
                rw [h9.1] at hh
                injection hh with hh
                injection hh with _ hh _
                exact absurd hh (by decide))]
            exact h9.1
          have y10 := blk_later (blk_later y7 hb8) hb10
          have HO10 := Lib.hid ((HO7.out.after hb8).after hb10)
          have HP10 := Lib.hid (((Pres.grown h9.2.2.2.1 hg7).below hb8).below hb10)
          obtain ⟨k0, k1, k2, k3, k4, k5, k6⟩ := set7 y10
          obtain ⟨j0, j1, j2, j3, j4, j5, j6⟩ := set7 Y10
          have q9 := freeM y10 6
          have q21 := freeM Y10 6
          have hwg : w.heap.size ≤ w4.heap.size := HB4.out.size
          have j6' : (w10.setCell ⟨g9, 6, none⟩ (.slice va vn vc)).cell? ⟨g21, 6, none⟩ = some (.slice none 0 0) := by
            have hh : (w10.setCell ⟨g9, 6, none⟩ (.slice va vn vc)).heap[g21]? = some (.cells #[.string z0, .string z1, .int .i64 zs, .string z3, .int .i64 zm, .slice fa21 N9 fc21, .slice none 0 0] 28 (0, 0)) := by rw [Below.heap_setCell _ _ _ _ (by simp; omega)]; exact Y10
            exact (set7 hh).2.2.2.2.2.2
          have q21' : (w10.setCell ⟨g9, 6, none⟩ (.slice va vn vc)).frozen? ⟨g21, 6, none⟩ = false := by
            have hh : (w10.setCell ⟨g9, 6, none⟩ (.slice va vn vc)).heap[g21]? = some (.cells #[.string z0, .string z1, .int .i64 zs, .string z3, .int .i64 zm, .slice fa21 N9 fc21, .slice none 0 0] 28 (0, 0)) := by rw [Below.heap_setCell _ _ _ _ (by simp; omega)]; exact Y10
            exact freeM hh 6
          go_upto_region 25 with fail
          have y11 := putM y10 (.slice va vn vc)
          have Y11 : (w10.setCell ⟨g9, 6, none⟩ (.slice va vn vc)).heap[g21]? = some (.cells #[.string z0, .string z1, .int .i64 zs, .string z3, .int .i64 zm, .slice fa21 N9 fc21, .slice none 0 0] 28 (0, 0)) := by rw [Below.heap_setCell _ _ _ _ (by simp; omega)]; exact Y10
          have HO11 := Lib.hid (HO10.out.msg y10 (by have := h9.2.2.2.2; omega) 6 (.slice va vn vc))
          have HP11 := Lib.hid (HP10.out.put h9.2.2.2.2 6 (.slice va vn vc))
          have y12 : ((w10.setCell ⟨g9, 6, none⟩ (.slice va vn vc)).setCell ⟨g21, 6, none⟩ (.slice va vn vc)).heap[g9]? = some (.cells #[.string z0, .string z1, .int .i64 zs, .string z3, .int .i64 zm, .slice fa9 N9 fc9, .slice va vn vc] 28 (0, 0)) := by rw [Below.heap_setCell _ _ _ _ (by simp; omega)]; exact y11
          have Y12 := putM Y11 (.slice va vn vc)
          have HO12 := Lib.hid (HO11.out.msg Y11 (by omega) 6 (.slice va vn vc))
          have HP12 := Lib.hid (HP11.out.put hlt21 6 (.slice va vn vc))
          have hF9 : FIn ((w10.setCell ⟨g9, 6, none⟩ (.slice va vn vc)).setCell ⟨g21, 6, none⟩ (.slice va vn vc)) (.slice fa9 N9 fc9) fs9 := h9.2.1.far (row := u6.ownBlock) h9.2.2.1 (by have := hg7.size; have := hb8.size; have := hb10.size; simp; omega) (fun k hk => by
            rcases HO9.out.own.row.2 with ⟨h0, _⟩ | ⟨j, cap, cur, hv, _, hh, _⟩
            · rw [h0] at hk; cases hk
            · rw [hv] at hk
              simp only [Value.ownBlock, Option.some.injEq] at hk
              subst hk
              exact ⟨cur, (0, 0), hh, HO9.out.all j _ _ hv cur _ hh⟩) (fun k hk hne hr => by
            have hgg := HG21.out
            have s7 := hg7.size
            have s8 := hb8.size
            rw [Below.heap_setCell _ _ _ _ (by simp; omega), Below.heap_setCell _ _ _ _ (by simp; omega), hb10.block k (by omega), hb8.block k (by omega)]
            exact hg7.block k hk hr)
          have hF21 : FIn ((w10.setCell ⟨g9, 6, none⟩ (.slice va vn vc)).setCell ⟨g21, 6, none⟩ (.slice va vn vc)) (.slice fa21 N9 fc21) fs9 := hf21.far (g := g9) (row := none) (fun _ ad n c hv => by have := hn21 ad n c hv; omega) (by have := hb10.size; simp; omega) (fun k hk => by cases hk) (fun k hk hne _ => by
            have hgg := HG21.out
            rw [Below.heap_setCell _ _ _ _ (by simp; omega), Below.heap_setCell _ _ _ _ (by simp; omega), hb10.block k hk])
          have cS := (by
            have h := same_w s9 s9 (.slice fa21 N9 fc21) (.slice va vn vc) (.slice fa9 N9 fc9) (.slice va vn vc) fs9 fs9 (acc ++ xs) (acc ++ xs) _ hF21 hF9 HO12.out.own.in_.1 HO12.out.own.in_.2 HO12.out.own.in_.1 HO12.out.own.in_.2 HF9L.out
            rw [mval_s, mval_s, sameF_self, decide_eq_true (rfl : s9 = s9), decide_eq_true (rfl : acc ++ xs = acc ++ xs)] at h
            obtain ⟨e0, e1, e2, e3, e4, _, _⟩ := HZ.out
            rw [← e0, ← e1, ← e2, ← e3, ← e4] at h
            exact h : Calls Tryz.prog 12 #[.agg #[.string z0, .string z1, .int .i64 zs, .string z3, .int .i64 zm, .slice fa21 N9 fc21, .slice va vn vc], .agg #[.string z0, .string z1, .int .i64 zs, .string z3, .int .i64 zm, .slice fa9 N9 fc9, .slice va vn vc]] ((w10.setCell ⟨g9, 6, none⟩ (.slice va vn vc)).setCell ⟨g21, 6, none⟩ (.slice va vn vc)) fun e w' => e = .returned (.bool true) ∧ Below ((w10.setCell ⟨g9, 6, none⟩ (.slice va vn vc)).setCell ⟨g21, 6, none⟩ (.slice va vn vc)).heap.size ((w10.setCell ⟨g9, 6, none⟩ (.slice va vn vc)).setCell ⟨g21, 6, none⟩ (.slice va vn vc)) w')
          have HG9 := Lib.hid h9.2.2.2.2
          clear h9 hg7 hb8 hb10 y7 y10 y11 Y10 Y11 k0 k1 k2 k3 k4 k5 k6 j0 j1 j2 j3 j4 j5 j6 j6' q9 q21 q21' HO10 HO11 HP10 HP11 hg9lt hlt21 hwg h9g HG21 hF9 hF21 hf21 hn21
          generalize (w10.setCell ⟨g9, 6, none⟩ (.slice va vn vc)).setCell ⟨g21, 6, none⟩ (.slice va vn vc) = w12 at *
          obtain ⟨k0, k1, k2, k3, k4, k5, k6⟩ := set7 y12
          obtain ⟨j0, j1, j2, j3, j4, j5, j6⟩ := set7 Y12
          go_wp2_with fail
          refine cS.mono ?_
          rintro e13 w13 ⟨rfl, hb13⟩
          have HO13 := Lib.hid (HO12.out.after hb13)
          have HP13 := Lib.hid (HP12.out.below hb13)
          clear cS hb13 k0 k1 k2 k3 k4 k5 k6 j0 j1 j2 j3 j4 j5 j6 y12 Y12 HO12 HP12
          have HR13 := Lib.hid (HR4.out.pres HO4.out HP13.out)
          have HA13 := Lib.hid (HP13.out.keep HO4.out (Nat.lt_trans HGB.out.1 HGB.out.2.1) HBA4.out)
          have hwI : IntKind.i64.wrap ((I : Int) + 1) = (I : Int) + 1 := by have := HI.out; have := HL4.out; rw [IntKind.wrap_i64]; omega
          have HI2 : Hid (I + 1 ≤ NC ∨ E = L) := Lib.hid (by
            have := HI.out
            by_cases h : I = NC
            · exact .inr (HEE.out h)
            · left; omega)
          go_wp2_with fail
          go_roundw
          case rel => exact ⟨acc ++ xs, k9, E, I + 1, st2, rfl, rfl, by go_num, by have := HI.out; omega, HI2, HSN, HO13, HR13, HA13.out⟩
          case measure => have := HI.out; simp [intOf]; omega
        · have cH := head_no hR7 hbd
          have hfr : (Ms.headOf st2).2 = false := by cases st2 <;> first | rfl | exact absurd trivial hbd
          rw [hfr]
          clear hfr hs9 hfs9 hx9 hR7 hbd
          go_wp2_with fail
          refine cH.mono ?_
          rintro e8 w8 ⟨rfl, hb8⟩
          clear cH
          go_upto_region 24 with fail
          have Y10 := heap_alloc_new w8 (.cells #[.string ⟨#[]⟩, .string ⟨#[]⟩, .int .i64 0, .string ⟨#[]⟩, .int .i64 0, .slice none 0 0, .slice none 0 0] 28)
          have hb10 : Below w8.heap.size w8 (w8.alloc (.cells #[.string ⟨#[]⟩, .string ⟨#[]⟩, .int .i64 0, .string ⟨#[]⟩, .int .i64 0, .slice none 0 0, .slice none 0 0] 28)) := (Below.refl _ w8).alloc (Nat.le_refl _) _
          have hlt21 : w4.heap.size ≤ w8.heap.size := Nat.le_trans h9.2.2.2.1.size (Nat.le_trans hg7.size hb8.size)
          generalize w8.alloc (.cells #[.string ⟨#[]⟩, .string ⟨#[]⟩, .int .i64 0, .string ⟨#[]⟩, .int .i64 0, .slice none 0 0, .slice none 0 0] 28) = w10 at *
          obtain ⟨g21, hg21⟩ : ∃ q, q = w8.heap.size := ⟨_, rfl⟩
          rw [← hg21] at Y10 hlt21 ⊢
          have hg9lt : g9 < w7.heap.size := Nat.lt_of_lt_of_le (lt_of_block h9.1) hg7.size
          have h9g : g9 ≠ g21 := by rw [hg21]; have := hb8.size; omega
          have HG21 := Lib.hid hg21
          clear hg21
          have y7 : w7.heap[g9]? = some (.cells #[.string z0, .string z1, .int .i64 zs, .string z3, .int .i64 zm, .slice fa9 N9 fc9, .slice ba9 X9 bc9] 28 (0, 0)) := by
            rw [hg7.block g9 (lt_of_block h9.1) (by
              intro he
              rcases HO9.out.own.row.2 with ⟨h0, _⟩ | ⟨j, cap, cur, hv, _, hh, _⟩
              · rw [h0] at he; cases he
              · rw [hv] at he
                simp only [Value.ownBlock, Option.some.injEq] at he
                subst he
                rw [h9.1] at hh
                injection hh with hh
                injection hh with _ hh _
                exact absurd hh (by decide))]
            exact h9.1
          have y10 := blk_later (blk_later y7 hb8) hb10
          have HO10 := Lib.hid ((HO7.out.after hb8).after hb10)
          have HP10 := Lib.hid (((Pres.grown h9.2.2.2.1 hg7).below hb8).below hb10)
          obtain ⟨k0, k1, k2, k3, k4, k5, k6⟩ := set7 y10
          obtain ⟨j0, j1, j2, j3, j4, j5, j6⟩ := set7 Y10
          have q9 := freeM y10 6
          have q21 := freeM Y10 6
          have hwg : w.heap.size ≤ w4.heap.size := HB4.out.size
          have j6' : (w10.setCell ⟨g9, 6, none⟩ (.slice va vn vc)).cell? ⟨g21, 6, none⟩ = some (.slice none 0 0) := by
            have hh : (w10.setCell ⟨g9, 6, none⟩ (.slice va vn vc)).heap[g21]? = some (.cells #[.string ⟨#[]⟩, .string ⟨#[]⟩, .int .i64 0, .string ⟨#[]⟩, .int .i64 0, .slice none 0 0, .slice none 0 0] 28 (0, 0)) := by rw [Below.heap_setCell _ _ _ _ (by simp; omega)]; exact Y10
            exact (set7 hh).2.2.2.2.2.2
          have q21' : (w10.setCell ⟨g9, 6, none⟩ (.slice va vn vc)).frozen? ⟨g21, 6, none⟩ = false := by
            have hh : (w10.setCell ⟨g9, 6, none⟩ (.slice va vn vc)).heap[g21]? = some (.cells #[.string ⟨#[]⟩, .string ⟨#[]⟩, .int .i64 0, .string ⟨#[]⟩, .int .i64 0, .slice none 0 0, .slice none 0 0] 28 (0, 0)) := by rw [Below.heap_setCell _ _ _ _ (by simp; omega)]; exact Y10
            exact freeM hh 6
          go_upto_region 25 with fail
          have y11 := putM y10 (.slice va vn vc)
          have Y11 : (w10.setCell ⟨g9, 6, none⟩ (.slice va vn vc)).heap[g21]? = some (.cells #[.string ⟨#[]⟩, .string ⟨#[]⟩, .int .i64 0, .string ⟨#[]⟩, .int .i64 0, .slice none 0 0, .slice none 0 0] 28 (0, 0)) := by rw [Below.heap_setCell _ _ _ _ (by simp; omega)]; exact Y10
          have HO11 := Lib.hid (HO10.out.msg y10 (by have := h9.2.2.2.2; omega) 6 (.slice va vn vc))
          have HP11 := Lib.hid (HP10.out.put h9.2.2.2.2 6 (.slice va vn vc))
          have y12 : ((w10.setCell ⟨g9, 6, none⟩ (.slice va vn vc)).setCell ⟨g21, 6, none⟩ (.slice va vn vc)).heap[g9]? = some (.cells #[.string z0, .string z1, .int .i64 zs, .string z3, .int .i64 zm, .slice fa9 N9 fc9, .slice va vn vc] 28 (0, 0)) := by rw [Below.heap_setCell _ _ _ _ (by simp; omega)]; exact y11
          have Y12 := putM Y11 (.slice va vn vc)
          have HO12 := Lib.hid (HO11.out.msg Y11 (by omega) 6 (.slice va vn vc))
          have HP12 := Lib.hid (HP11.out.put hlt21 6 (.slice va vn vc))
          have HG9 := Lib.hid h9.2.2.2.2
          clear h9 hg7 hb8 hb10 y7 y10 y11 Y10 Y11 k0 k1 k2 k3 k4 k5 k6 j0 j1 j2 j3 j4 j5 j6 j6' q9 q21 q21' HO10 HO11 HP10 HP11 hg9lt hlt21 hwg h9g HG21 
          generalize (w10.setCell ⟨g9, 6, none⟩ (.slice va vn vc)).setCell ⟨g21, 6, none⟩ (.slice va vn vc) = w12 at *
          obtain ⟨k0, k1, k2, k3, k4, k5, k6⟩ := set7 y12
          obtain ⟨j0, j1, j2, j3, j4, j5, j6⟩ := set7 Y12
          have HO13 := HO12
          have HP13 := HP12
          clear y12 Y12
          have HR13 := Lib.hid (HR4.out.pres HO4.out HP13.out)
          have HA13 := Lib.hid (HP13.out.keep HO4.out (Nat.lt_trans HGB.out.1 HGB.out.2.1) HBA4.out)
          have hwI : IntKind.i64.wrap ((I : Int) + 1) = (I : Int) + 1 := by have := HI.out; have := HL4.out; rw [IntKind.wrap_i64]; omega
          have HI2 : Hid (I + 1 ≤ NC ∨ E = L) := Lib.hid (by
            have := HI.out
            by_cases h : I = NC
            · exact .inr (HEE.out h)
            · left; omega)
          go_wp2_with fail
          go_roundw
          case rel => exact ⟨acc ++ xs, k9, E, I + 1, st2, rfl, rfl, by go_num, by have := HI.out; omega, HI2, HSN, HO13, HR13, HA13.out⟩
          case measure => have := HI.out; simp [intOf]; omega
end Go.Proofs.YtlbjjeonchcgbaaGreatDoor
