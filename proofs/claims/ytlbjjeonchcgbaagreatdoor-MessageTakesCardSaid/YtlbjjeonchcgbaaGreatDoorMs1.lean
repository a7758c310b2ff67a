/- Package message: a message in memory; the document's Framing. -/
import Derived.Test.YtlbjjeonchcgbaaGreatDoorStBase
import Derived.Test.YtlbjjeonchcgbaaGreatDoorFdWith
import Derived.Test.YtlbjjeonchcgbaaGreatDoorMsMathC
namespace Go.Proofs.YtlbjjeonchcgbaaGreatDoor
open Go.RowKit

/-! A message in memory: seven cells. -/
def mcells (s : St.S) (fv bv : Value) : Array Value := #[.string (str s.method), .string (str s.target), .int .i64 s.status, .string (str s.reason), .int .i64 s.minor, fv, bv]
def mval (s : St.S) (fv bv : Value) : Value := .agg (mcells s fv bv)
theorem mval_s (s : St.S) (fv bv : Value) : mval s fv bv = .agg #[.string (str s.method), .string (str s.target), .int .i64 s.status, .string (str s.reason), .int .i64 s.minor, fv, bv] := rfl
theorem set7 {w : World} {g : Nat} {a b c d e f h : Value} {t : TypeId} (hh : w.heap[g]? = some (.cells #[a, b, c, d, e, f, h] t (0, 0))) :
    w.cell? ⟨g, 0, none⟩ = some a ∧ w.cell? ⟨g, 1, none⟩ = some b ∧ w.cell? ⟨g, 2, none⟩ = some c ∧ w.cell? ⟨g, 3, none⟩ = some d ∧ w.cell? ⟨g, 4, none⟩ = some e ∧ w.cell? ⟨g, 5, none⟩ = some f ∧ w.cell? ⟨g, 6, none⟩ = some h := by
  simp [World.cell?, hh]
/-- A block that lay in W lies there still. -/
theorem blk_later {W w : World} {g : Nat} {o : Obj} (h : W.heap[g]? = some o) (hb : Below W.heap.size W w) : w.heap[g]? = some o := by
  rw [hb.block g (by
    rcases Nat.lt_or_ge g W.heap.size with h1 | h1
    · exact h1
    · rw [Array.getElem?_eq_none h1] at h; cases h)]
  exact h

set_option maxHeartbeats 6400000 in
set_option maxRecDepth 100000 in
theorem framing_w (s : St.S) (fv bv : Value) (fs : List Fld.F) (m : List UInt8) (w : World) (hF : FIn w fv fs) (hS : Small fs) (hfl : fs.length ≤ 1000) (_hm : m.length ≤ 1000000) :
    Calls Tryz.prog 15 #[mval s fv bv, .string (str m)] w fun e w' => e = .returned (.tuple #[.int .i64 (Ms.framed s fs m).1, .int .i64 (Ms.framed s fs m).2.1, .int .i64 (Ms.framed s fs m).2.2]) ∧ Below w.heap.size w w' := by
  rw [mval_s]
  have hFl := Lib.hid (fun (W : World) (hb : Below w.heap.size w W) => hF.later hb)
  have cT := fun (W : World) (hb : Below w.heap.size w W) => rGet_w fv fs Ms.kTE W (hFl.out W hb) hS (by decide)
  have cC := fun (W : World) (hb : Below w.heap.size w W) => rGet_w fv fs Ms.kCL W (hFl.out W hb) hS (by decide)
  have zT := Fld.get_small (n := Ms.kTE) (fun f hf => (hS.2 f hf).2)
  have zC := Fld.get_small (n := Ms.kCL) (fun f hf => (hS.2 f hf).2)
  have nT : (Fld.get fs Ms.kTE).length ≤ 1000 := Nat.le_trans (Fld.get_length fs _) hfl
  have nC : (Fld.get fs Ms.kCL).length ≤ 1000 := Nat.le_trans (Fld.get_length fs _) hfl
  have HB := Lib.hid (@Ms.framed_bare s fs m)
  have HT := Lib.hid (@Ms.framed_te s fs m)
  have HC := Lib.hid (@Ms.framed_cl s fs m)
  have HN := Lib.hid (@Ms.framed_none s fs m)
  rw [show str Ms.kTE = ⟨#[84, 114, 97, 110, 115, 102, 101, 114, 45, 69, 110, 99, 111, 100, 105, 110, 103]⟩ from rfl] at cT
  rw [show str Ms.kCL = ⟨#[67, 111, 110, 116, 101, 110, 116, 45, 76, 101, 110, 103, 116, 104]⟩ from rfl] at cC
  generalize Ms.framed s fs m = fr at *
  generalize Fld.get fs Ms.kTE = te at *
  generalize Fld.get fs Ms.kCL = cl at *
  obtain ⟨sm, st, ss, sr, si⟩ := s
  simp only [] at HB HT HC HN ⊢
  obtain ⟨bb, hbb⟩ : ∃ bb, Ms.bare ss m = bb := ⟨_, rfl⟩
  rw [hbb] at HB HT HC HN
  have hmH : Hid (Ms.bare ss m = (decide (ss ≠ 0) && (decide (m = Ms.kHead) || decide (ss < 200) || decide (ss = 204) || decide (ss = 304)))) := Lib.hid rfl
  rw [hbb] at hmH
  have hM1 : m = Ms.kHead → str m = ⟨#[72, 69, 65, 68]⟩ := fun h => by rw [h]; rfl
  have hM2 : m ≠ Ms.kHead → ¬ (str m).toList = [72, 69, 65, 68] ∧ ((str m).toList == [72, 69, 65, 68]) = false ∧ ((str m).toList != [72, 69, 65, 68]) = true := fun h => list_no (by rw [str_list]; exact h)
  have HM1 := Lib.hid hM1
  have HM2 := Lib.hid hM2
  generalize str sm = a0 at *
  generalize str st = a1 at *
  generalize str sr = a3 at *
  generalize str m = mm at *
  clear hF hS hfl hbb hM1 hM2
  go_enter Tryz.func15, Tryz.ntmps15
  go_upto_region 1 with fail
  have h0 : (w.alloc (.cells #[.string a0, .string a1, .int .i64 ss, .string a3, .int .i64 si, fv, bv] 28)).heap[w.heap.size]? = some (.cells #[.string a0, .string a1, .int .i64 ss, .string a3, .int .i64 si, fv, bv] 28 (0, 0)) := heap_alloc_new w _
  have hb0 : Below w.heap.size w (w.alloc (.cells #[.string a0, .string a1, .int .i64 ss, .string a3, .int .i64 si, fv, bv] 28)) := (Below.refl _ w).alloc (Nat.le_refl _) _
  generalize w.alloc (.cells #[.string a0, .string a1, .int .i64 ss, .string a3, .int .i64 si, fv, bv] 28) = W0 at *
  generalize hgg : w.heap.size = g at h0 ⊢
  obtain ⟨_, _, c2, _, c4, c5, _⟩ := set7 h0
  have HH0 := Lib.hid h0
  have HB0 := Lib.hid hb0
  clear h0 hb0
  go_cut [39] (fun x39 wx => x39 = .bool bb ∧ W0 = wx)
  case first =>
    by_cases g0 : ss = 0
    · have hv : bb = false := by rw [hmH.out, g0]; rfl
      subst g0 hv
      clear HM1 HM2 HB HT HC HN cT cC
      go_wp2_with fail
      go_meet
      case rel => exact ⟨rfl, rfl⟩
    · have g0b : (ss != 0) = true := by simpa using g0
      by_cases g1 : m = Ms.kHead
      · have hv : bb = true := by rw [hmH.out, decide_eq_true g0, decide_eq_true g1]; rfl
        have hmm := HM1.out g1
        subst hmm hv
        clear HM1 HM2 HB HT HC HN cT cC
        go_wp2_with fail
        go_meet
        case rel => exact ⟨rfl, rfl⟩
      · obtain ⟨m1, m2, m3⟩ := HM2.out g1
        clear HM1 HM2 HB HT HC HN cT cC
        by_cases g2 : ss < 200
        · have hv : bb = true := by rw [hmH.out, decide_eq_true g0, decide_eq_true g2, Bool.or_true]; rfl
          subst hv
          go_wp2_with fail
          go_meet
          case rel => exact ⟨rfl, rfl⟩
        · by_cases g3 : ss = 204
          · have hv : bb = true := by rw [hmH.out, decide_eq_true g0, decide_eq_true g3, Bool.or_true]; rfl
            subst g3 hv
            go_wp2_with fail
            go_meet
            case rel => exact ⟨rfl, rfl⟩
          · have g3b : (ss == 204) = false := beq_eq_false_iff_ne.2 g3
            by_cases g4 : ss = 304
            · have hv : bb = true := by rw [hmH.out, decide_eq_true g0, decide_eq_true g4, Bool.or_true]; rfl
              subst g4 hv
              go_wp2_with fail
              go_meet
              case rel => exact ⟨rfl, rfl⟩
            · have g4b : (ss == 304) = false := beq_eq_false_iff_ne.2 g4
              have hv : bb = false := by rw [hmH.out, decide_eq_true g0, decide_eq_false g1, decide_eq_false g2, decide_eq_false g3, decide_eq_false g4]; rfl
              subst hv
              go_wp2_with fail
              go_meet
              case rel => exact ⟨rfl, rfl⟩
  case rest =>
    obtain ⟨rfl, rfl⟩ := hcut
    clear HM1 HM2 hmH
    cases bb with
    | true =>
      have HR := Lib.hid (HB.out rfl)
      clear HB HT HC HN cT cC
      go_wp2_with fail
      go_ret3
      rw [HR.out]
      exact ⟨rfl, by rw [← hgg] at *; exact HB0.out⟩
    | false =>
      have HTa := Lib.hid (HT.out rfl)
      have HCa := Lib.hid (HC.out rfl)
      have HNa := Lib.hid (HN.out rfl)
      clear HB HT HC HN
      go_wp2_with fail
      refine (cT _ HB0.out).mono ?_
      rintro e W1 ⟨vt, rfl, hT1⟩
      have h1 := blk_later HH0.out hT1.2
      have hb1 := bt5 HB0.out hT1.2
      clear c2 c4 c5 cT HB0 HH0
      obtain ⟨_, _, c2, _, c4, c5, _⟩ := set7 h1
      go_wp2_with fail
      refine (cC _ hb1).mono ?_
      rintro e W2 ⟨vc, rfl, hC2⟩
      have h2 := blk_later h1 hC2.2
      have hb2 := bt5 hb1 hC2.2
      have sT := hT1.sin.later hC2.2
      have sC := hC2.sin
      clear c2 c4 c5 cC hT1 hC2 hb1 h1
      have HSPT := Lib.hid (rSplit_s vt te W2 sT nT zT)
      have HSPC := Lib.hid (rSplit_s vc cl W2 sC nC zC)
      have HH2 := Lib.hid h2
      have HB2 := Lib.hid hb2
      have HNC := Lib.hid nC
      clear h2 hb2 nT nC hgg
      obtain ⟨aT, kT, rfl⟩ : ∃ a c, vt = .slice a te.length c := by obtain ⟨a, c, h, _⟩ := sT; exact ⟨a, c, h⟩
      obtain ⟨aC, kC, rfl⟩ : ∃ a c, vc = .slice a cl.length c := by obtain ⟨a, c, h, _⟩ := sC; exact ⟨a, c, h⟩
      clear sT sC
      have HZT := Lib.hid zT
      have HZC := Lib.hid zC
      clear zT zC
      by_cases t0 : te = []
      · have ht : te.length = 0 := by rw [t0]; rfl
        rw [ht]
        have HCb := Lib.hid (HCa.out t0)
        have HNb := Lib.hid (HNa.out t0)
        clear HSPT HTa HCa HNa
        by_cases k0 : cl = []
        · have hk : cl.length = 0 := by rw [k0]; rfl
          rw [hk]
          have HR0 := Lib.hid (HNb.out k0)
          obtain ⟨_, _, c2, _, c4, c5, _⟩ := set7 HH2.out
          clear HSPC HCb HNb ht hk t0 k0
          by_cases s0 : ss = 0
          · have HR := Lib.hid (HR0.out.trans (if_pos s0))
            clear HR0
            subst s0
            go_wp2_with fail
            go_ret3
            rw [HR.out]
            exact ⟨rfl, HB2.out⟩
          · have HR := Lib.hid (HR0.out.trans (if_neg s0))
            clear HR0
            have s0b : (ss == 0) = false := beq_eq_false_iff_ne.2 s0
            go_wp2_with fail
            go_ret3
            rw [HR.out]
            exact ⟨rfl, HB2.out⟩
        · have hk : 0 < cl.length := List.length_pos_iff.2 k0
          have HR1 := Lib.hid (HCb.out k0)
          have cS := HSPC.out
          have hZ := fun p (h : p ∈ Oct.splitAll cl) => Ms.splitAll_piece HZC.out h
          obtain ⟨lc, hlc⟩ : ∃ lc, Oct.splitAll cl = lc := ⟨_, rfl⟩
          rw [hlc] at cS hZ
          have HLC := Lib.hid hlc
          have HZ := Lib.hid hZ
          have hki : (0 : Int) < cl.length := by omega
          clear HSPC HCb HNb ht t0 k0 hlc hZ hk
          go_wp2_with fail
          refine cS.mono ?_
          rintro e W3 ⟨vl, rfl, hL3⟩
          have hb3 := bt5 HB2.out hL3.2
          have HB3 := Lib.hid hb3
          have sL := hL3.sin
          clear cS hL3 hb3
          obtain ⟨aL, kL, rfl, hcell⟩ := sL
          by_cases l0 : lc = []
          · have HR := Lib.hid (HR1.out.trans (Ms.sized_nil (HLC.out.trans l0)))
            clear HR1
            have hl : lc.length = 0 := by rw [l0]; rfl
            rw [hl]
            clear hcell HLC HZ
            go_wp2_with fail
            go_ret3
            rw [HR.out]
            exact ⟨rfl, HB3.out⟩
          · have hcell0 := hcell
            clear hcell
            obtain ⟨b, o, rfl, hbl, hcell⟩ := hcell0.resolve_left l0
            clear hcell0
            have hl : 0 < lc.length := List.length_pos_iff.2 l0
            obtain ⟨LN, hLN⟩ : ∃ LN, LN = lc.length := ⟨_, rfl⟩
            have HLN := Lib.hid hLN
            have HCELL := Lib.hid (fun (W : World) (hb : Below W3.heap.size W3 W) (j : Nat) (hj : j < lc.length) => (hb.cell (p := ⟨b, o + j, none⟩) hbl).trans (hcell j hj))
            have HL0 := Lib.hid hl
            have hLNb : (LN : Int) ≤ 2000000000 := by
              have h1 := Oct.splitAll_len cl HZC.out
              rw [HLC.out, ← hLN] at h1
              have h2 := HNC.out
              have h3 : 1000001 * cl.length ≤ 1000001 * 1000 := Nat.mul_le_mul_left _ h2
              omega
            rw [← hLN]
            have hl0 : (0 : Int) < LN := by omega
            have hlb : ((LN : Int) == 0) = false := beq_eq_false_iff_ne.2 (by omega)
            have hlz : ¬ (LN : Int) = 0 := by omega
            have hll : 1 ≤ LN := by omega
            clear hcell hl hLN l0
            go_upto_region 14 with fail
            go_wp2_with fail
            go_loopw [11] (fun x11 wr => ∃ k : Nat, x11 = .int .i64 k ∧ 1 ≤ k ∧ k ≤ LN ∧ Below W3.heap.size W3 wr ∧ ∀ j, j < k → ∀ (hj : j < lc.length), lc[j] = lc[0]'HL0.out) (fun x11 _ => LN - (intOf x11).toNat)
            case atStart => exact ⟨1, rfl, Nat.le_refl _, hll, Below.refl _ _, fun j hj _ => by
              have : j = 0 := by omega
              subst this; rfl⟩
            case round =>
              obtain ⟨k, rfl, hk1, hk2, hbr, hall⟩ := hrel
              have HALL := Lib.hid hall
              have hk0 : (0 : Int) ≤ k := by omega
              have hk9 : (k : Int) ≤ 2000000000 := by omega
              have d0 := HCELL.out wr hbr 0 HL0.out
              rw [Nat.add_zero] at d0
              obtain ⟨S0, hS0⟩ : ∃ S0, S0 = str (lc[0]'HL0.out) := ⟨_, rfl⟩
              rw [← hS0] at d0
              have HS0 := Lib.hid hS0
              clear hall
              by_cases hlt : k < LN
              · have hki2 : (k : Int) < LN := by omega
                have hkl : k < lc.length := by rw [← HLN.out]; exact hlt
                have dk := HCELL.out wr hbr k hkl
                by_cases heq : lc[k] = lc[0]'HL0.out
                · rw [heq, ← hS0] at dk
                  have HEQ := Lib.hid heq
                  have HBR := Lib.hid hbr
                  clear heq hbr hS0 hlt
                  go_wp2_with fail
                  go_region
                  go_wp2_with fail
                  go_roundw
                  case rel => exact ⟨k + 1, by go_num, by omega, by omega, HBR.out.trans ((Below.refl _ _).drew.mono HBR.out.size), fun j hj hjl => by
                    by_cases hjk : j = k
                    · subst hjk; exact HEQ.out
                    · exact HALL.out j (by omega) hjl⟩
                  case measure => simp [intOf]; omega
                · have HR := Lib.hid (HR1.out.trans (Ms.sized_odd lc HLC.out k hkl HL0.out heq))
                  have q1 := str_beq lc[k] (lc[0]'HL0.out)
                  rw [decide_eq_false heq, ← hS0] at q1
                  generalize str lc[k] = SK at *
                  have q2 : (SK.toList != S0.toList) = true := by rw [bne, q1]; rfl
                  have q3 : ¬ SK.toList = S0.toList := by simpa using q1
                  have HBR := Lib.hid hbr
                  clear heq hbr hS0 hlt hkl
                  go_wp2_with fail
                  go_region
                  go_wp2_with fail
                  go_ret3
                  rw [HR.out]
                  exact ⟨rfl, bt5 HB3.out (HBR.out.trans ((Below.refl _ _).drew.mono HBR.out.size))⟩
              · have hki2 : ¬ (k : Int) < LN := by omega
                have hsa := Ms.sized_all lc HLC.out HL0.out (fun j hj => HALL.out j (by rw [← HLN.out] at hj; omega) hj)
                have hz0 := HZ.out _ (List.getElem_mem HL0.out)
                obtain ⟨⟨n, e0⟩, hnum⟩ : ∃ x, Oct.number 10 1048576 (lc[0]'HL0.out) = x := ⟨_, rfl⟩
                rw [hnum] at hsa
                simp only [] at hsa
                have cN := rNumber_is S0 1048576 n e0 wr (by rw [hS0, str_size]; exact hz0) (by decide) (by decide) (by rw [hS0, str_list]; exact hnum)
                have HBR := Lib.hid hbr
                by_cases he0 : e0 = 0
                · rw [if_neg (by simpa using he0)] at hsa
                  have HR := Lib.hid (HR1.out.trans hsa)
                  subst he0
                  clear hsa hnum hz0 hbr hS0 hlt
                  go_wp2_with fail
                  refine cN.mono ?_
                  rintro e W4 ⟨rfl, rfl⟩
                  go_wp2_with fail
                  go_ret3
                  rw [HR.out]
                  exact ⟨rfl, bt5 HB3.out HBR.out⟩
                · rw [if_pos he0] at hsa
                  have HR := Lib.hid (HR1.out.trans hsa)
                  have heb : (e0 != 0) = true := by simpa using he0
                  clear hsa hnum hz0 hbr hS0 hlt
                  go_wp2_with fail
                  refine cN.mono ?_
                  rintro e W4 ⟨rfl, rfl⟩
                  go_wp2_with fail
                  go_ret3
                  rw [HR.out]
                  exact ⟨rfl, bt5 HB3.out HBR.out⟩
      · have ht : 0 < te.length := List.length_pos_iff.2 t0
        have HR2 := Lib.hid (HTa.out t0)
        have cS := HSPT.out
        have hZ := fun p (h : p ∈ Oct.splitAll te) => Ms.splitAll_piece HZT.out h
        obtain ⟨lt, hlt⟩ : ∃ lt, Oct.splitAll te = lt := ⟨_, rfl⟩
        rw [hlt] at cS hZ
        have HLT := Lib.hid hlt
        have HZ := Lib.hid hZ
        generalize te.length = TN at *
        have hti : (0 : Int) < TN := by omega
        clear HSPC HSPT HTa HCa HNa ht t0 hlt hZ
        go_wp2_with fail
        refine cS.mono ?_
        rintro e W3 ⟨vl, rfl, hL3⟩
        have hb3 := bt5 HB2.out hL3.2
        have HB3 := Lib.hid hb3
        have h3 := blk_later HH2.out hL3.2
        obtain ⟨_, _, c2, _, c4, c5, _⟩ := set7 h3
        have sL := hL3.sin
        clear cS hL3 hb3 h3
        obtain ⟨aL, kL, rfl, hcell⟩ := sL
        by_cases m0 : si = 0
        · have HR := Lib.hid (HR2.out.trans (if_pos (.inl m0)))
          subst m0
          clear hcell HLT HZ
          generalize lt.length = LN at *
          go_wp2_with fail
          go_ret3
          rw [HR.out]
          exact ⟨rfl, HB3.out⟩
        · have m0b : (si == 0) = false := beq_eq_false_iff_ne.2 m0
          by_cases k0 : cl = []
          · have hk : cl.length = 0 := by rw [k0]; rfl
            rw [hk]
            by_cases l1 : lt.length = 1
            · obtain ⟨a, ha⟩ := List.length_eq_one_iff.1 l1
              subst ha
              have hcb := Ms.chunked_one HLT.out
              have hcell0 := hcell
              clear hcell
              obtain ⟨b, o, rfl, hbl, hcell⟩ := hcell0.resolve_left (by simp)
              clear hcell0
              have d0x := hcell 0 (by simp)
              rw [Nat.add_zero] at d0x
              have hza := HZ.out a (by simp)
              have cL := rLower_s (str a) W3 (by rw [str_size]; exact hza)
              rw [str_list] at cL
              have d0 : W3.cell? ⟨b, o, none⟩ = some (.string (str a)) := d0x
              clear d0x
              rw [l1]
              by_cases hch : Oct.lower a = Ms.kChunked
              · have HR := Lib.hid (HR2.out.trans (if_neg (by rw [hcb, decide_eq_true hch, k0]; simp [m0])))
                rw [show str (Oct.lower a) = ⟨#[99, 104, 117, 110, 107, 101, 100]⟩ by rw [hch]; rfl] at cL
                generalize str a = A at *
                clear hcell hcb hch hza HLT HZ l1 k0 hk m0 HZT
                go_wp2_with fail
                refine cL.mono ?_
                rintro e W4 ⟨rfl, hb4⟩
                go_wp2_with fail
                go_ret3
                rw [HR.out]
                exact ⟨rfl, bt5 HB3.out hb4⟩
              · have HR := Lib.hid (HR2.out.trans (if_pos (.inr (.inr (by rw [hcb, decide_eq_false hch])))))
                obtain ⟨q1, q2, q3⟩ := list_no (a := str (Oct.lower a)) (l := [99, 104, 117, 110, 107, 101, 100]) (by rw [str_list]; exact hch)
                generalize str (Oct.lower a) = LA at *
                generalize str a = A at *
                clear hcell hcb hch hza HLT HZ l1 k0 hk m0 HZT
                go_wp2_with fail
                refine cL.mono ?_
                rintro e W4 ⟨rfl, hb4⟩
                go_wp2_with fail
                go_ret3
                rw [HR.out]
                exact ⟨rfl, bt5 HB3.out hb4⟩
            · have HR := Lib.hid (HR2.out.trans (if_pos (.inr (.inr (Ms.chunked_not lt HLT.out l1)))))
              clear hcell HLT HZ k0 hk m0
              generalize lt.length = LN at *
              have l1b : ((LN : Int) != 1) = true := by rw [bne_iff_ne]; omega
              have l1c : ((LN : Int) == 1) = false := beq_eq_false_iff_ne.2 (by omega)
              have l1d : ¬ (LN : Int) = 1 := by omega
              go_wp2_with fail
              go_ret3
              rw [HR.out]
              exact ⟨rfl, HB3.out⟩
          · have hk : 0 < cl.length := List.length_pos_iff.2 k0
            have HR := Lib.hid (HR2.out.trans (if_pos (.inr (.inl k0))))
            clear hcell HLT HZ k0 m0
            generalize lt.length = LN at *
            generalize cl.length = CN at *
            have hki : (0 : Int) < CN := by omega
            clear hk
            go_wp2_with fail
            go_ret3
            rw [HR.out]
            exact ⟨rfl, HB3.out⟩
end Go.Proofs.YtlbjjeonchcgbaaGreatDoor
