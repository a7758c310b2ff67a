/- Package message, the program: how a body is told. -/
import Derived.Test.YtlbjjeonchcgbaaGreatDoorStBase
import Derived.Test.YtlbjjeonchcgbaaGreatDoorMsMathP
import Derived.Test.YtlbjjeonchcgbaaGreatDoorMs1
import Derived.Deep.RegionHeld3
namespace Go.Proofs.YtlbjjeonchcgbaaGreatDoor
open Go.RowKit

set_option maxHeartbeats 6400000 in
set_option maxRecDepth 100000 in
theorem bodiless_w (st : Int) (w : World) : Calls Tryz.prog 61 #[.int .i64 st] w fun e w' => e = .returned (.bool (Ms.bodiless st)) ∧ w = w' := by
  obtain ⟨r, hr⟩ : ∃ r, Ms.bodiless st = r := ⟨_, rfl⟩
  rw [hr]
  unfold Ms.bodiless at hr
  by_cases h1 : st < 200
  · have hv : r = true := by rw [← hr, decide_eq_true h1]; rfl
    subst hv; clear hr
    go_enter Tryz.func61, Tryz.ntmps61
    go_wp2_with fail
    go_ret
    exact ⟨rfl, rfl⟩
  · by_cases h2 : st = 204
    · have hv : r = true := by rw [← hr, decide_eq_true h2, Bool.or_true]; rfl
      subst h2 hv; clear hr
      go_enter Tryz.func61, Tryz.ntmps61
      go_wp2_with fail
      go_ret
      exact ⟨rfl, rfl⟩
    · have h2b : (st == 204) = false := beq_eq_false_iff_ne.2 h2
      by_cases h3 : st = 304
      · have hv : r = true := by rw [← hr, decide_eq_true h3, Bool.or_true]
        subst h3 hv; clear hr
        go_enter Tryz.func61, Tryz.ntmps61
        go_wp2_with fail
        go_ret
        exact ⟨rfl, rfl⟩
      · have h3b : (st == 304) = false := beq_eq_false_iff_ne.2 h3
        have hv : r = false := by rw [← hr, decide_eq_false h1, decide_eq_false h2, decide_eq_false h3]; rfl
        subst hv; clear hr
        go_enter Tryz.func61, Tryz.ntmps61
        go_wp2_with fail
        go_ret
        exact ⟨rfl, rfl⟩

set_option maxHeartbeats 6400000 in
set_option maxRecDepth 100000 in
theorem just_w (v : Value) (te : List (List UInt8)) (w : World) (h : SIn w v te) (hn : te.length ≤ 1000) (hz : ∀ l ∈ te, l.length ≤ 1000000) :
    Calls Tryz.prog 62 #[v] w fun e w' => e = .returned (.bool (Ms.chunkedB te)) ∧ Below w.heap.size w w' := by
  have cS := Split_s v te w h hn hz
  have hZ := fun p (h : p ∈ Oct.splitAll te) => Ms.splitAll_piece hz h
  have HC1 := Lib.hid (fun a => @Ms.chunked_one te a)
  have HC2 := Lib.hid (@Ms.chunked_not te)
  generalize Ms.chunkedB te = r at *
  generalize Oct.splitAll te = lt at *
  clear hn hz h
  go_enter Tryz.func62, Tryz.ntmps62
  go_wp2_with fail
  refine cS.mono ?_
  rintro e W1 ⟨vl, rfl, hrow, hb1⟩
  clear cS
  obtain ⟨aL, kL, rfl, hcell⟩ := SIn.of_row hrow
  clear hrow
  by_cases l1 : lt.length = 1
  · obtain ⟨a, rfl⟩ := List.length_eq_one_iff.1 l1
    have hcb := HC1.out a rfl
    obtain ⟨b, o, rfl, hbl, hcell⟩ := hcell.resolve_left (by simp)
    have d0 : W1.cell? ⟨b, o, none⟩ = some (.string (str a)) := hcell 0 (by simp)
    have hza := hZ a (by simp)
    have cL := Lower_s (str a) W1 (by rw [str_size]; exact hza)
    rw [str_list] at cL
    rw [l1]
    clear HC1 HC2 hZ hcell l1 hza
    by_cases hch : Oct.lower a = Ms.kChunked
    · rw [decide_eq_true hch] at hcb
      rw [show str (Oct.lower a) = ⟨#[99, 104, 117, 110, 107, 101, 100]⟩ by rw [hch]; rfl] at cL
      subst hcb
      generalize str a = A at *
      clear hch
      go_wp2_with fail
      refine cL.mono ?_
      rintro e W2 ⟨rfl, hb2⟩
      go_wp2_with fail
      go_ret
      exact ⟨rfl, bt5 hb1 hb2⟩
    · rw [decide_eq_false hch] at hcb
      obtain ⟨q1, q2, q3⟩ := list_no (a := str (Oct.lower a)) (l := [99, 104, 117, 110, 107, 101, 100]) (by rw [str_list]; exact hch)
      subst hcb
      generalize str (Oct.lower a) = LA at *
      generalize str a = A at *
      clear hch
      go_wp2_with fail
      refine cL.mono ?_
      rintro e W2 ⟨rfl, hb2⟩
      go_wp2_with fail
      go_ret
      exact ⟨rfl, bt5 hb1 hb2⟩
  · have hcb := HC2.out lt rfl l1
    subst hcb
    clear hcell HC1 HC2 hZ
    generalize lt.length = LN at *
    have l1c : ((LN : Int) == 1) = false := beq_eq_false_iff_ne.2 (by omega)
    have l1d : ¬ (LN : Int) = 1 := by omega
    clear l1
    go_wp2_with fail
    go_ret
    exact ⟨rfl, hb1⟩

/-- Texts in memory of the call's own, compacted. -/
theorem compact_w (v : Value) (base : Nat) (ls : List (List UInt8)) (w : World) (h : w.ownsRow base 9 1 v ls.length (strCells ls)) :
    Calls Tryz.prog 83 #[v] w fun e w' => (∃ u, e = .returned u ∧ SIn w' u (Lib.compact ls)) ∧ Below base w w' := by
  rcases h.2 with ⟨rfl, h0⟩ | ⟨g, cap, cur, rfl, hg, hh, h1, h2, h3, h4⟩
  · have : ls = [] := List.eq_nil_of_length_eq_zero h0
    subst this
    exact (Tryz.slices_Compact_string_empty none 0 w).mono fun e w' ⟨he, hw⟩ => ⟨⟨_, he, none, 0, rfl, .inl rfl⟩, by rw [hw]; exact Below.refl _ _⟩
  · have hH : Sort.Holds encStr w g 0 ls.toArray := by
      intro j hj
      have hj' : j < ls.length := by simpa using hj
      refine ⟨?_, ?_⟩
      · obtain ⟨ao, kk, hv, hc⟩ := SIn.of_row h
        rcases hc with hc | ⟨b, o, hao, _, hc⟩
        · rw [hc] at hj'; simp at hj'
        · injection hv with e1 e2 e3
          rw [hao] at e1
          injection e1 with e1
          injection e1 with e1 e4
          have := hc j hj'
          rw [← e1, ← e4] at this
          rw [this, Ms.get_bang ls j hj']
          rfl
      · simp [World.frozen?, hh]
    have hmx : maxLen = 9223372036854775807 := rfl
    refine (Tryz.slices_Compact_string g 0 cap ls w hH (by omega) h1).mono ?_
    rintro e w' ⟨rfl, q, rfl⟩
    have hcl : (Lib.compact ls).length ≤ ls.length := Ms.compact_le ls
    refine ⟨⟨_, rfl, ?_⟩, ?_⟩
    · refine ⟨_, _, rfl, .inr ⟨g, 0, rfl, by rw [Sort.size_putRow]; exact lt_of_block hh, fun j hj => ?_⟩⟩
      have hp := Sort.holds_putRow encStr (Sort.ahead w q) g 0 ls.toArray (Lib.compact ls ++ List.replicate (ls.length - (Lib.compact ls).length) []).toArray (Sort.holds_ahead _ _ _ _ _ _ hH) (by simp; omega)
      have := (hp j (by simp; omega)).1
      rw [this, Ms.get_bang _ j (by rw [List.length_append]; omega)]
      rw [List.getElem_append_left hj]
      rfl
    · refine ⟨rfl, rfl, rfl, by rw [Sort.size_putRow]; exact Nat.le_refl _, fun k hk => ?_⟩
      have hne : k ≠ g := by omega
      simp [Sort.putRow, Sort.mapBlock, Array.getElem?_modify, Ne.symm hne]
set_option maxHeartbeats 6400000 in
set_option maxRecDepth 100000 in
theorem length_w (v : Value) (cl : List (List UInt8)) (w : World) (h : SIn w v cl) (hn : cl.length ≤ 1000) (hz : ∀ l ∈ cl, l.length ≤ 1000000) :
    Calls Tryz.prog 63 #[v] w fun e w' => e = .returned (.tuple #[.int .i64 (Ms.lengthOf cl).1, .int .i64 (Ms.lengthOf cl).2]) ∧ Below w.heap.size w w' := by
  have cS := Split_s v cl w h hn hz
  have hZ := fun p (h : p ∈ Oct.splitAll cl) => Ms.splitAll_piece hz h
  have hl1 : (Lib.compact (Oct.splitAll cl)).length = 1 → Ms.lengthOf cl = Oct.number 10 1048576 ((Lib.compact (Oct.splitAll cl)).headD []) := fun h => if_pos h
  have hl2 : (Lib.compact (Oct.splitAll cl)).length ≠ 1 → Ms.lengthOf cl = (0, 10) := fun h => if_neg h
  generalize Ms.lengthOf cl = ln at *
  generalize Oct.splitAll cl = lc at *
  have HL1 := Lib.hid hl1
  have HL2 := Lib.hid hl2
  clear hn hz h hl1 hl2
  go_enter Tryz.func63, Tryz.ntmps63
  go_wp2_with fail
  refine cS.mono ?_
  rintro e W1 ⟨vl, rfl, hrow, hb1⟩
  have cK := compact_w vl _ lc W1 hrow
  clear cS hrow
  have hcm : ∀ p ∈ Lib.compact lc, p.length ≤ 1000000 := fun p hp => hZ p (Ms.compact_mem hp)
  generalize Lib.compact lc = ls at *
  clear hZ
  go_wp2_with fail
  refine cK.mono ?_
  rintro e W2 ⟨⟨vs, rfl, hs⟩, hb2'⟩
  have hb2 : Below w.heap.size w W2 := hb1.trans (hb2'.mono (by omega))
  clear cK hb1 hb2'
  obtain ⟨aS, kS, rfl, hcell⟩ := hs
  by_cases l1 : ls.length = 1
  · obtain ⟨a, rfl⟩ := List.length_eq_one_iff.1 l1
    have hln := HL1.out l1
    obtain ⟨b, o, rfl, hbl, hcell⟩ := hcell.resolve_left (by simp)
    have d0 : W2.cell? ⟨b, o, none⟩ = some (.string (str a)) := hcell 0 (by simp)
    have hza := hcm a (by simp)
    obtain ⟨⟨n, e0⟩, hnum⟩ : ∃ x, Oct.number 10 1048576 a = x := ⟨_, rfl⟩
    have hhd : ln = (n, e0) := hln.trans hnum
    subst hhd
    have cN := Number_is (str a) 1048576 n e0 W2 (by rw [str_size]; exact hza) (by decide) (by decide) (by rw [str_list]; exact hnum)
    rw [l1]
    generalize str a = A at *
    clear hln HL1 HL2 hnum hcell hcm hza l1
    go_wp2_with fail
    refine cN.mono ?_
    rintro e W3 ⟨rfl, hb3⟩
    go_wp2_with fail
    go_ret2
    exact ⟨rfl, bt5 hb2 hb3⟩
  · have hln := HL2.out l1
    subst hln
    clear hcell hcm HL1 HL2
    generalize ls.length = LN at *
    have l1b : ((LN : Int) != 1) = true := by rw [bne_iff_ne]; omega
    have l1c : ((LN : Int) == 1) = false := beq_eq_false_iff_ne.2 (by omega)
    have l1d : ¬ (LN : Int) = 1 := by omega
    clear l1
    go_wp2_with fail
    go_ret2
    exact ⟨rfl, hb2⟩

set_option maxHeartbeats 6400000 in
set_option maxRecDepth 100000 in
theorem fits_w (n : Nat) (k t : Int) (w : World) : Calls Tryz.prog 43 #[.int .i64 n, .int .i64 k, .int .i64 t] w fun e w' => e = .returned (.bool (if k = 2 then decide (n ≤ 1048576) else decide ((n : Int) = t))) ∧ w = w' := by
  by_cases h1 : k = 2
  · subst h1
    rw [if_pos rfl]
    by_cases h2 : n ≤ 1048576
    · rw [decide_eq_true h2]
      have h2i : (n : Int) ≤ 1048576 := by omega
      clear h2
      go_enter Tryz.func43, Tryz.ntmps43
      go_wp2_with fail
      go_ret
      exact ⟨rfl, rfl⟩
    · rw [decide_eq_false h2]
      have h2i : ¬ (n : Int) ≤ 1048576 := by omega
      clear h2
      go_enter Tryz.func43, Tryz.ntmps43
      go_wp2_with fail
      go_ret
      exact ⟨rfl, rfl⟩
  · rw [if_neg h1]
    have h1b : (k == 2) = false := beq_eq_false_iff_ne.2 h1
    have hd : decide ((n : Int) = t) = ((n : Int) == t) := by
      by_cases h : (n : Int) = t
      · rw [decide_eq_true h, h, beq_self_eq_true]
      · rw [decide_eq_false h, beq_eq_false_iff_ne.2 h]
    rw [hd]
    clear hd
    generalize (n : Int) = N
    go_enter Tryz.func43, Tryz.ntmps43
    go_wp2_with fail
    go_ret
    exact ⟨rfl, rfl⟩

set_option maxHeartbeats 6400000 in
set_option maxRecDepth 100000 in
theorem pframing_w (s : St.S) (fv bv : Value) (fs : List Fld.F) (h : Bool) (w : World) (hF : FIn w fv fs) (hS : Small fs) (hfl : fs.length ≤ 1000) :
    Calls Tryz.prog 30 #[mval s fv bv, .bool h] w fun e w' => e = .returned (.tuple #[.int .i64 (Ms.framed s fs (Ms.asHead h)).1, .int .i64 (Ms.framed s fs (Ms.asHead h)).2.1, .int .i64 (Ms.framed s fs (Ms.asHead h)).2.2]) ∧ Below w.heap.size w w' := by
  rw [mval_s]
  have cT := fun (W : World) (hb : Below w.heap.size w W) => Get_w fv fs Ms.nTE W (hF.later hb) hS (by decide)
  have cC := fun (W : World) (hb : Below w.heap.size w W) => Get_w fv fs Ms.nCL W (hF.later hb) hS (by decide)
  simp only [Ms.get_te] at cT
  simp only [Ms.get_cl] at cC
  have zT := Fld.get_small (n := Ms.kTE) (fun f hf => (hS.2 f hf).2)
  have zC := Fld.get_small (n := Ms.kCL) (fun f hf => (hS.2 f hf).2)
  have nT : (Fld.get fs Ms.kTE).length ≤ 1000 := Nat.le_trans (Fld.get_length fs _) hfl
  have nC : (Fld.get fs Ms.kCL).length ≤ 1000 := Nat.le_trans (Fld.get_length fs _) hfl
  have HB := Lib.hid (@Ms.framed_bare s fs (Ms.asHead h))
  have HT := Lib.hid (@Ms.framed_te s fs (Ms.asHead h))
  have HC := Lib.hid (@Ms.framed_cl s fs (Ms.asHead h))
  have HN := Lib.hid (@Ms.framed_none s fs (Ms.asHead h))
  have hbr := Ms.bare_asHead s.status h
  rw [show str Ms.nTE = ⟨#[116, 114, 97, 110, 115, 102, 101, 114, 45, 101, 110, 99, 111, 100, 105, 110, 103]⟩ from rfl] at cT
  rw [show str Ms.nCL = ⟨#[99, 111, 110, 116, 101, 110, 116, 45, 108, 101, 110, 103, 116, 104]⟩ from rfl] at cC
  generalize Ms.framed s fs (Ms.asHead h) = fr at *
  generalize Fld.get fs Ms.kTE = te at *
  generalize Fld.get fs Ms.kCL = cl at *
  obtain ⟨sm, st, ss, sr, si⟩ := s
  simp only [] at HB HT HC HN hbr ⊢
  generalize Ms.bare ss (Ms.asHead h) = bb at *
  have cB := fun (W : World) => bodiless_w ss W
  have HBR := Lib.hid hbr
  generalize Ms.bodiless ss = bl at *
  generalize str sm = a0 at *
  generalize str st = a1 at *
  generalize str sr = a3 at *
  have HZT := Lib.hid zT
  have HZC := Lib.hid zC
  have HNT := Lib.hid nT
  have HNC := Lib.hid nC
  clear hF hS hfl hbr zT zC nT nC
  go_enter Tryz.func30, Tryz.ntmps30
  go_upto_region 1 with fail
  have h0 : (w.alloc (.cells #[.string a0, .string a1, .int .i64 ss, .string a3, .int .i64 si, fv, bv] 28)).heap[w.heap.size]? = some (.cells #[.string a0, .string a1, .int .i64 ss, .string a3, .int .i64 si, fv, bv] 28 (0, 0)) := heap_alloc_new w _
  have hb0 : Below w.heap.size w (w.alloc (.cells #[.string a0, .string a1, .int .i64 ss, .string a3, .int .i64 si, fv, bv] 28)) := (Below.refl _ w).alloc (Nat.le_refl _) _
  generalize w.alloc (.cells #[.string a0, .string a1, .int .i64 ss, .string a3, .int .i64 si, fv, bv] 28) = W0 at *
  generalize hgg : w.heap.size = g at h0 ⊢
  obtain ⟨_, _, c2, _, c4, c5, _⟩ := set7 h0
  have HH0 := Lib.hid h0
  have HB0 := Lib.hid hb0
  clear h0 hb0
  obtain ⟨rq, hrq⟩ : ∃ rq, (ss == 0) = rq := ⟨_, rfl⟩
  have HRQ := Lib.hid hrq
  go_cut [7] (fun x7 wx => x7 = .bool rq ∧ W0 = wx)
  case first =>
    clear cT cC cB
    go_wp2_with fail
    go_meet
    case rel => exact ⟨rfl, rfl⟩
  case rest =>
    obtain ⟨rfl, rfl⟩ := hcut
    clear hrq c2 c4
    go_upto_region 2 with fail
    have HA0 : Hid (Below W0.heap.size W0 W0.drew) := Lib.hid (Below.refl _ W0).drew
    have KEY := Lib.hid (fun (W : World) (hb : Below W0.heap.size W0 W) => (set7 (blk_later HH0.out hb)).2.2.2.2.2.1)
    go_region_held3 (fun w' => w'.cell? ⟨g, 5, none⟩ = some fv)
      (first | exact KEY.out _ HA7.out | exact KEY.out _ HA6.out | exact KEY.out _ HA0.out)
      (first
        | (go_at_call 60; refine (cT _ (HB0.out.trans (HA6.out.mono HB0.out.size))).mono ?_; rintro e w7 ⟨vt, rfl, hT⟩; have HsT := Lib.hid hT.sin; have HA7 := Lib.hid (bt5 HA6.out hT.2); have HsC7 := Lib.hid (HsC.out.later hT.2); clear hT)
        | (go_at_call 60; refine (cC _ (HB0.out.trans (HA0.out.mono HB0.out.size))).mono ?_; rintro e w6 ⟨vc, rfl, hC⟩; have HsC := Lib.hid hC.sin; have HA6 := Lib.hid (bt5 HA0.out hC.2); clear hC))
    clear cT cC KEY HA0 c5
    have hb7 := bt5 HB0.out HA7.out
    have h7 := blk_later HH0.out HA7.out
    obtain ⟨_, _, c2, _, c4, c5, _⟩ := set7 h7
    have HB7 := Lib.hid hb7
    have HH7 := Lib.hid h7
    clear h7 hb7
    obtain ⟨aC, kC, rfl⟩ : ∃ a c, vc = .slice a cl.length c := by obtain ⟨a, c, h, _⟩ := HsC7.out; exact ⟨a, c, h⟩
    obtain ⟨aT, kT, rfl⟩ : ∃ a c, vt = .slice a te.length c := by obtain ⟨a, c, h, _⟩ := HsT.out; exact ⟨a, c, h⟩
    have cJ := just_w _ te w7 HsT.out HNT.out HZT.out
    have cL := length_w _ cl w7 HsC7.out HNC.out HZC.out
    clear HsC HsC7 HsT HA6 HA7 HZT HZC HNT HNC HH0 HB0
    go_upto_region 3 with fail
    go_cut [22] (fun x22 wx => x22 = .bool bb ∧ w7 = wx)
    case first =>
      clear cJ cL HB HT HC HN
      cases rq with
      | true =>
        have hv : bb = false := by rw [HBR.out, decide_eq_false (by have := HRQ.out; simpa using this)]; rfl
        subst hv
        go_wp2_with fail
        go_meet
        case rel => exact ⟨rfl, rfl⟩
      | false =>
        have hd : decide (ss ≠ 0) = true := decide_eq_true (by have := HRQ.out; simpa using this)
        cases h with
        | true =>
          have hv : bb = true := by rw [HBR.out, hd]; rfl
          subst hv
          clear hd
          go_wp2_with fail
          go_meet
          case rel => exact ⟨rfl, rfl⟩
        | false =>
          have hv : bb = bl := by rw [HBR.out, hd]; rfl
          subst hv
          clear hd HBR
          go_wp2_with fail
          refine (cB _).mono ?_
          rintro e w8 ⟨rfl, rfl⟩
          go_wp2_with fail
          go_meet
          case rel => exact ⟨rfl, rfl⟩
    case rest =>
      obtain ⟨rfl, rfl⟩ := hcut
      clear cB HBR
      cases bb with
      | true =>
        have HR := Lib.hid (HB.out rfl)
        clear HB HT HC HN cJ cL
        go_wp2_with fail
        go_ret3
        rw [HR.out]
        exact ⟨rfl, HB7.out⟩
      | false =>
        have HTa := Lib.hid (HT.out rfl)
        have HCa := Lib.hid (HC.out rfl)
        have HNa := Lib.hid (HN.out rfl)
        clear HB HT HC HN
        by_cases t0 : te = []
        · have ht : te.length = 0 := by rw [t0]; rfl
          rw [ht]
          have HCb := Lib.hid (HCa.out t0)
          have HNb := Lib.hid (HNa.out t0)
          clear HTa HCa HNa cJ
          by_cases k0 : cl = []
          · have hk : cl.length = 0 := by rw [k0]; rfl
            rw [hk]
            have HR0 := Lib.hid (HNb.out k0)
            clear HCb HNb cL ht hk
            cases rq with
            | true =>
              have HR := Lib.hid (HR0.out.trans (if_pos (by have := HRQ.out; simpa using this)))
              clear HR0
              go_wp2_with fail
              go_ret3
              rw [HR.out]
              exact ⟨rfl, HB7.out⟩
            | false =>
              have HR := Lib.hid (HR0.out.trans (if_neg (by have := HRQ.out; simpa using this)))
              clear HR0
              go_wp2_with fail
              go_ret3
              rw [HR.out]
              exact ⟨rfl, HB7.out⟩
          · have hk : 0 < cl.length := List.length_pos_iff.2 k0
            have HR0 := Lib.hid ((HCb.out k0).trans (Ms.sized_of cl))
            clear HCb HNb ht
            generalize Ms.lengthOf cl = ln at *
            generalize cl.length = CN at *
            have hki : (0 : Int) < CN := by omega
            clear hk
            obtain ⟨n, e0⟩ := ln
            by_cases he : e0 = 0
            · have HR := Lib.hid (HR0.out.trans (if_neg (by simpa using he)))
              subst he
              clear HR0
              go_wp2_with fail
              refine cL.mono ?_
              rintro e w8 ⟨rfl, hb8⟩
              go_wp2_with fail
              go_ret3
              rw [HR.out]
              exact ⟨rfl, bt5 HB7.out hb8⟩
            · have HR := Lib.hid (HR0.out.trans (if_pos (by simpa using he)))
              have heb : (e0 != 0) = true := by simpa using he
              clear HR0
              go_wp2_with fail
              refine cL.mono ?_
              rintro e w8 ⟨rfl, hb8⟩
              go_wp2_with fail
              go_ret3
              rw [HR.out]
              exact ⟨rfl, bt5 HB7.out hb8⟩
        · have ht : 0 < te.length := List.length_pos_iff.2 t0
          have HR0 := Lib.hid (HTa.out t0)
          clear HTa HCa HNa cL
          generalize Ms.chunkedB te = cb at *
          generalize te.length = TN at *
          have hti : (0 : Int) < TN := by omega
          clear ht
          by_cases m0 : si = 0
          · have HR := Lib.hid (HR0.out.trans (if_pos (.inl m0)))
            subst m0
            clear HR0
            go_wp2_with fail
            go_ret3
            rw [HR.out]
            exact ⟨rfl, HB7.out⟩
          · have m0b : (si == 0) = false := beq_eq_false_iff_ne.2 m0
            by_cases k0 : cl = []
            · have hk : cl.length = 0 := by rw [k0]; rfl
              rw [hk]
              cases cb with
              | true =>
                have HR := Lib.hid (HR0.out.trans (if_neg (by rw [k0]; simp [m0])))
                clear HR0 hk
                go_wp2_with fail
                refine cJ.mono ?_
                rintro e w8 ⟨rfl, hb8⟩
                go_wp2_with fail
                go_ret3
                rw [HR.out]
                exact ⟨rfl, bt5 HB7.out hb8⟩
              | false =>
                have HR := Lib.hid (HR0.out.trans (if_pos (.inr (.inr rfl))))
                clear HR0 hk
                go_wp2_with fail
                refine cJ.mono ?_
                rintro e w8 ⟨rfl, hb8⟩
                go_wp2_with fail
                go_ret3
                rw [HR.out]
                exact ⟨rfl, bt5 HB7.out hb8⟩
            · have hk : 0 < cl.length := List.length_pos_iff.2 k0
              have HR := Lib.hid (HR0.out.trans (if_pos (.inr (.inl k0))))
              clear HR0
              generalize cl.length = CN at *
              have hki : (0 : Int) < CN := by omega
              clear hk
              go_wp2_with fail
              go_ret3
              rw [HR.out]
              exact ⟨rfl, HB7.out⟩
set_option maxHeartbeats 6400000 in
set_option maxRecDepth 100000 in
theorem pFraming_w (s : St.S) (fv bv : Value) (fs : List Fld.F) (m : List UInt8) (w : World) (hF : FIn w fv fs) (hS : Small fs) (hfl : fs.length ≤ 1000) :
    Calls Tryz.prog 14 #[mval s fv bv, .string (str m)] w fun e w' => e = .returned (.tuple #[.int .i64 (Ms.framed s fs m).1, .int .i64 (Ms.framed s fs m).2.1, .int .i64 (Ms.framed s fs m).2.2]) ∧ Below w.heap.size w w' := by
  have cF := fun (W : World) (hb : Below w.heap.size w W) => pframing_w s fv bv fs (decide (m = Ms.kHead)) W (hF.later hb) hS hfl
  rw [← Ms.framed_head] at cF
  generalize Ms.framed s fs m = fr at *
  rw [mval_s] at cF ⊢
  have hb0 : Below w.heap.size w (w.alloc (.cells #[.string (str s.method), .string (str s.target), .int .i64 s.status, .string (str s.reason), .int .i64 s.minor, fv, bv] 28)) := (Below.refl _ w).alloc (Nat.le_refl _) _
  have HB0 := Lib.hid hb0
  have cF := cF _ hb0
  have q2 : ((str m).toList == [72, 69, 65, 68]) = decide (m = Ms.kHead) := by
    have q1 := str_beq m Ms.kHead
    rw [str_toList] at q1 ⊢
    rw [str_toList] at q1
    exact q1
  clear hF hS hfl hb0
  generalize decide (m = Ms.kHead) = d at *
  generalize str m = mm at *
  go_enter Tryz.func14, Tryz.ntmps14
  go_wp2_with fail
  refine cF.mono ?_
  rintro e w1 ⟨rfl, hb1⟩
  go_wp2_with fail
  go_ret3
  exact ⟨rfl, bt5 HB0.out hb1⟩
end Go.Proofs.YtlbjjeonchcgbaaGreatDoor
