/- The document's own answer for package start: where a blank stands, versions, visible octets, lines. -/
import Derived.Test.YtbpghbbcghlcaaaDoorSt1
namespace Go.Proofs.YtbpghbbcghlcaaaDoor
open Go.RowKit

/-- Where the first octet d stands. -/
theorem upto_facts (d : UInt8) (s : ByteArray) : ∃ N, N = St.upto d s.data.toList ∧ N ≤ s.size ∧ (∀ k (hk : k < s.size), k < N → s[k] ≠ d) ∧ (∀ hk : N < s.size, s[N] = d) := by
  have hz : s.data.toList.length = s.size := by simp
  have hle := St.upto_le d s.data.toList
  refine ⟨_, rfl, by omega, ?_, ?_⟩
  · intro k hk h
    refine St.upto_take d s.data.toList s[k] ?_
    have h1 := Lib.data_getElem? s k hk
    refine List.mem_of_getElem? (i := k) ?_
    rw [List.getElem?_take_of_lt h, h1]
  · intro hk
    have h := St.upto_drop d s.data.toList (by omega)
    have h1 := Lib.data_getElem? s _ hk
    have h2 : (s.data.toList.drop (St.upto d s.data.toList))[0]? = some d := by rw [h]; rfl
    rw [List.getElem?_drop, Nat.add_zero, h1] at h2
    exact Option.some.inj h2

set_option maxHeartbeats 800000 in
theorem rspace_s (s : ByteArray) (w : World) (hs : s.size ≤ 1000000) :
    Calls Tryd.prog 20 #[.string s] w fun e w' => e = .returned (.int .i64 (St.upto 32 s.data.toList)) ∧ w = w' := by
  obtain ⟨N, hN, f1, f2, f3⟩ := upto_facts 32 s
  rw [← hN]
  have F2 := Lib.hid f2
  have F3 := Lib.hid f3
  clear f2 f3 hN
  go_enter Tryd.func20, Tryd.ntmps20
  go_wp2_with fail
  go_loop [3] (fun i => ∃ k : Nat, k ≤ N ∧ i = .int .i64 k) (fun i => N - (intOf i).toNat)
  case atStart => exact ⟨0, by omega, rfl⟩
  case round =>
    obtain ⟨k, hk, rfl⟩ := hrel
    have hk0 : (0 : Int) ≤ k := by omega
    by_cases hlt : k < N
    · have hks : k < s.size := by omega
      have hki : (k : Int) < s.size := by omega
      obtain ⟨b1, b2, b3⟩ := ne_oct s[k] 32 32 rfl (F2.out k hks hlt)
      go_wp2_with fail
      go_round
      case rel => exact ⟨k + 1, by omega, by go_num⟩
      case measure => simp [intOf]; omega
    · obtain rfl : k = N := by omega
      by_cases hks : k < s.size
      · have hki : (k : Int) < s.size := by omega
        have i32 : (s[k].toNat : Int) = 32 := by rw [F3.out hks]; rfl
        go_wp2_with fail
        go_ret
        exact ⟨rfl, rfl⟩
      · have hki : ¬ ((k : Int) < s.size) := by omega
        go_wp2_with fail
        go_ret
        exact ⟨rfl, rfl⟩

set_option maxHeartbeats 800000 in
theorem rminor_s (s : ByteArray) (w : World) :
    Calls Tryd.prog 21 #[.string s] w fun e w' => e = .returned (.int .i64 (St.minorOf s.data.toList)) ∧ w = w' := by
  by_cases h0 : s.data.toList = St.http0
  · have HV : Hid (St.minorOf s.data.toList = 0) := by unfold St.minorOf; rw [if_pos h0]; exact Lib.hid rfl
    obtain rfl : s = ⟨#[72, 84, 84, 80, 47, 49, 46, 48]⟩ := str_eq h0
    clear h0
    go_enter Tryd.func21, Tryd.ntmps21
    go_wp2_with fail
    go_ret
    exact ⟨ret_int HV.out.symm, rfl⟩
  · by_cases h1 : s.data.toList = St.http1
    · have HV : Hid (St.minorOf s.data.toList = 1) := by unfold St.minorOf; rw [if_neg h0, if_pos h1]; exact Lib.hid rfl
      obtain rfl : s = ⟨#[72, 84, 84, 80, 47, 49, 46, 49]⟩ := str_eq h1
      clear h0 h1
      go_enter Tryd.func21, Tryd.ntmps21
      go_wp2_with fail
      go_ret
      exact ⟨ret_int HV.out.symm, rfl⟩
    · have HV : Hid (St.minorOf s.data.toList = -1) := by unfold St.minorOf; rw [if_neg h0, if_neg h1]; exact Lib.hid rfl
      obtain ⟨n1, n2, n3⟩ := list_no (a := s) (l := [72, 84, 84, 80, 47, 49, 46, 48]) h0
      obtain ⟨m1, m2, m3⟩ := list_no (a := s) (l := [72, 84, 84, 80, 47, 49, 46, 49]) h1
      clear h0 h1
      go_enter Tryd.func21, Tryd.ntmps21
      go_wp2_with fail
      go_ret
      exact ⟨ret_int HV.out.symm, rfl⟩

theorem vis_int (c : UInt8) : St.vis c = (decide (33 ≤ (c.toNat : Int)) && decide ((c.toNat : Int) ≤ 126)) := by
  unfold St.vis
  have h1 : (33 ≤ c) ↔ (33 ≤ (c.toNat : Int)) := by rw [UInt8.le_iff_toNat_le]; have : (33 : UInt8).toNat = 33 := rfl; omega
  have h2 : (c ≤ 126) ↔ ((c.toNat : Int) ≤ 126) := by rw [UInt8.le_iff_toNat_le]; have : (126 : UInt8).toNat = 126 := rfl; omega
  rw [decide_eq_decide.2 h1, decide_eq_decide.2 h2]
set_option maxHeartbeats 1600000 in
theorem rvisible_s (s : ByteArray) (w : World) (hs : s.size ≤ 1000000) :
    Calls Tryd.prog 23 #[.string s] w fun e w' => e = .returned (.bool (St.visible s.data.toList)) ∧ w = w' := by
  have HR : Hid (St.visible s.data.toList = (decide (0 < s.size) && Oct.allOf St.vis s.data.toList)) := by
    have : s.data.toList.isEmpty = !decide (0 < s.size) := by
      rw [Lib.size_eq]
      cases s.data.toList <;> simp
    unfold St.visible
    rw [this, Bool.not_not]; exact Lib.hid rfl
  go_enter Tryd.func23, Tryd.ntmps23
  go_wp2_with fail
  go_loop [3] (fun i => ∃ k : Nat, k ≤ s.size ∧ i = .int .i64 k ∧ Hid (Oct.allOf St.vis (s.data.toList.take k) = true)) (fun i => s.size - (intOf i).toNat)
  case atStart => exact ⟨0, by omega, rfl, Lib.hid rfl⟩
  case round =>
    obtain ⟨k, hk, rfl, HA⟩ := hrel
    by_cases hlt : k < s.size
    · have hki : (k : Int) < s.size := by omega
      have HN := Lib.hid (Oct.all_snoc St.vis s k hlt)
      have HM := Lib.hid (Oct.all_miss St.vis s k hlt)
      have HI := Lib.hid (vis_int s[k])
      have hc := s[k].toNat_lt
      have hr : (s[k].toNat : Int) < 33 ∨ (33 ≤ (s[k].toNat : Int) ∧ (s[k].toNat : Int) ≤ 126) ∨ 126 < (s[k].toNat : Int) := by omega
      rcases hr with h1 | ⟨h1, h2⟩ | h1
      · have HF : Hid (St.visible s.data.toList = false) := by
          rw [HR.out, HM.out (by rw [HI.out, decide_eq_false (by omega), Bool.false_and]), Bool.and_false]; exact Lib.hid rfl
        clear HN HM HI
        go_wp2_with fail
        go_ret
        exact ⟨ret_bool HF.out.symm, rfl⟩
      · have HA2 : Hid (Oct.allOf St.vis (s.data.toList.take (k + 1)) = true) := by
          rw [HN.out, HA.out, HI.out, decide_eq_true h1, decide_eq_true h2]; exact Lib.hid rfl
        clear HN HM HI
        go_wp2_with fail
        go_round
        case rel => exact ⟨k + 1, by omega, by go_num, HA2⟩
        case measure => simp [intOf]; omega
      · have HF : Hid (St.visible s.data.toList = false) := by
          rw [HR.out, HM.out (by rw [HI.out, decide_eq_false (p := (s[k].toNat : Int) ≤ 126) (by omega), Bool.and_false]), Bool.and_false]; exact Lib.hid rfl
        have h33 : ¬ ((s[k].toNat : Int) < 33) := by omega
        clear HN HM HI
        go_wp2_with fail
        go_ret
        exact ⟨ret_bool HF.out.symm, rfl⟩
    · have hki : ¬ ((k : Int) < s.size) := by omega
      have HE := Lib.hid (Oct.take_all s k (by omega))
      have HF : Hid (St.visible s.data.toList = decide (0 < s.size)) := by
        rw [HR.out, ← HE.out, HA.out, Bool.and_true]; exact Lib.hid rfl
      clear HE
      by_cases h0 : 0 < s.size
      · have h0i : (0 : Int) < s.size := by omega
        have HG : Hid (St.visible s.data.toList = true) := by rw [HF.out, decide_eq_true h0]; exact Lib.hid rfl
        go_wp2_with fail
        go_ret
        exact ⟨ret_bool HG.out.symm, rfl⟩
      · have h0i : ¬ (0 : Int) < s.size := by omega
        have HG : Hid (St.visible s.data.toList = false) := by rw [HF.out, decide_eq_false h0]; exact Lib.hid rfl
        go_wp2_with fail
        go_ret
        exact ⟨ret_bool HG.out.symm, rfl⟩

/-- What the document's line answers. -/
def lres (x : List UInt8 × Int × Int) : Value := .tuple #[.string (str x.1), .int .i64 x.2.1, .int .i64 x.2.2]
theorem list_upto (l : List UInt8) : (∀ k (hk : k < l.length), k < St.upto 10 l → l[k] ≠ 10) ∧ (∀ hk : St.upto 10 l < l.length, l[St.upto 10 l] = 10) := by
  constructor
  · intro k hk h
    refine St.upto_take 10 l l[k] ?_
    refine List.mem_of_getElem? (i := k) ?_
    rw [List.getElem?_take_of_lt h, List.getElem?_eq_getElem hk]
  · intro hk
    have h := St.upto_drop 10 l hk
    have h2 : (l.drop (St.upto 10 l))[0]? = some 10 := by rw [h]; rfl
    rw [List.getElem?_drop, Nat.add_zero, List.getElem?_eq_getElem hk] at h2
    exact Option.some.inj h2

set_option maxHeartbeats 3200000 in
set_option maxRecDepth 100000 in
theorem rline_w (v : Value) (l : List UInt8) (most : Nat) (w : World) (hl : l.length ≤ 1000000) (hm : most ≤ 1000000) (h : BIn w v l) :
    Calls Tryd.prog 19 #[v, .int .i64 most] w fun e w' => e = .returned (lres (St.line most l)) ∧ w = w' := by
  obtain ⟨ao, cap, rfl, hlc, hc9, hg⟩ := h
  have hm0 : (0 : Int) ≤ most := by omega
  obtain ⟨U, hU⟩ : ∃ U, U = St.upto 10 l := ⟨_, rfl⟩
  have hUl : U ≤ l.length := by rw [hU]; exact St.upto_le 10 l
  have HV : Hid (St.line most l = if U < l.length ∧ U ≤ most then if 1 ≤ U ∧ l[U - 1]? = some 13 then (l.take (U - 1), ((U + 1 : Nat) : Int), 0) else ([], 0, 10) else if l.length ≤ most then ([], 0, 11) else ([], 0, 12)) := by
    rw [hU]; exact Lib.hid rfl
  rcases hg with rfl | ⟨b, o, rfl, hb, hcell⟩
  · have HW : Hid (St.line most [] = ([], 0, 11)) := by rw [HV.out, if_neg (by simp), if_pos (by simp)]; exact Lib.hid rfl
    clear HV hU hUl
    go_enter Tryd.func19, Tryd.ntmps19
    go_wp2_with fail
    refine wp_loop_rounds 1 ?_
    rw [rounds_succ]
    go_wp2_with fail
    go_ret3
    exact ⟨by rw [HW.out]; rfl, rfl⟩
  · obtain ⟨u1, u2⟩ := list_upto l
    have F1 : Hid (∀ k (hk : k < l.length), k < U → l[k] ≠ 10) := by rw [hU]; exact Lib.hid u1
    have F2 : Hid (∀ k (hk : k < l.length), k = U → l[k] = 10) := Lib.hid (by intro k hk e; subst e; subst hU; exact u2 hk)
    have HT := Lib.hid (fun n (hn : n ≤ l.length) => BIn.text (cap := cap) hcell n hn)
    obtain ⟨L, hL⟩ : ∃ L, L = l.length := ⟨_, rfl⟩
    have HC : Hid (∀ j (hj : j < l.length), w.cell? ⟨b, o + j, none⟩ = some (.int .u8 (l[j].toNat : Int))) := Lib.hid hcell
    have HL := Lib.hid hL
    rw [← hL] at hl hlc hUl
    rw [show l.length = L from hL.symm]
    clear hU u1 u2 hcell hL
    go_enter Tryd.func19, Tryd.ntmps19
    go_wp2_with fail
    go_loop [7] (fun i => ∃ k : Nat, k ≤ U ∧ k ≤ most + 1 ∧ i = .int .i64 k) (fun i => most + 1 - (intOf i).toNat)
    case atStart => exact ⟨0, by omega, by omega, rfl⟩
    case round =>
      obtain ⟨k, hkU, hkm, rfl⟩ := hrel
      have hk0 : (0 : Int) ≤ k := by omega
      by_cases hin : k < L ∧ k ≤ most
      · obtain ⟨hkL, hkM⟩ := hin
        have hki : (k : Int) < L := by omega
        have hkmi : (k : Int) ≤ most := by omega
        have hkl : k < l.length := by rw [← HL.out]; exact hkL
        have hck := HC.out k hkl
        by_cases hlt : k < U
        · obtain ⟨b1, b2, b3⟩ := ne_oct l[k] 10 10 rfl (F1.out k hkl hlt)
          go_wp2_with fail
          go_round
          case rel => exact ⟨k + 1, by omega, by omega, by go_num⟩
          case measure => simp [intOf]; omega
        · obtain rfl : k = U := by omega
          have i10 : (l[k].toNat : Int) = 10 := by rw [F2.out k hkl rfl]; rfl
          rw [i10] at hck
          by_cases hk1 : k = 0
          · subst hk1
            have HW : Hid (St.line most l = ([], 0, 10)) := by rw [HV.out, if_pos ⟨hkl, by omega⟩, if_neg (by omega)]; exact Lib.hid rfl
            rw [Nat.add_zero] at hck
            clear HV F1 F2 HT HC i10
            go_wp2_with fail
            go_ret3
            exact ⟨by rw [HW.out]; rfl, rfl⟩
          · obtain ⟨j, hj⟩ : ∃ j, k = j + 1 := ⟨k - 1, by omega⟩
            have hjl : j < l.length := by omega
            have hcj := HC.out j hjl
            have hb0 : ((k : Int) == 0) = false := beq_eq_false_iff_ne.2 (by omega)
            have hw1 : IntKind.i64.wrap ((k : Int) - 1) = (j : Int) := by rw [IntKind.wrap_i64]; omega
            have hw2 : (k : Int) - 1 = (j : Int) := by omega
            have hw3 : IntKind.i64.wrap (j : Int) = (j : Int) := by rw [IntKind.wrap_i64]; omega
            have hj0 : (0 : Int) ≤ j := by omega
            have hji : (j : Int) < L := by have := HL.out; omega
            have hjc : (j : Int) ≤ cap := by omega
            have hge : l[k - 1]? = some l[j] := by rw [hj, Nat.add_sub_cancel, List.getElem?_eq_getElem hjl]
            by_cases h13 : l[j] = 13
            · have HW : Hid (St.line most l = (l.take j, ((k + 1 : Nat) : Int), 0)) := by
                rw [HV.out, if_pos ⟨hkl, by omega⟩, if_pos ⟨by omega, by rw [hge, h13]⟩, hj, Nat.add_sub_cancel]; exact Lib.hid rfl
              have i13 : (l[j].toNat : Int) = 13 := by rw [h13]; rfl
              rw [i13] at hcj
              have hT := HT.out j (by omega)
              have HWV : Hid (lres (St.line most l) = .tuple #[.string (str (l.take j)), .int .i64 ((k : Int) + 1), .int .i64 0]) := by
                rw [HW.out]; exact Lib.hid (by show Value.tuple #[_, .int .i64 ((k + 1 : Nat) : Int), _] = _; rw [Int.natCast_add]; rfl)
              generalize str (l.take j) = T at *
              clear HV F1 F2 HT HC i10 i13 HW hge h13 hj
              go_wp2_with fail
              go_ret3
              exact ⟨by rw [HWV.out]; rfl, rfl⟩
            · have HW : Hid (St.line most l = ([], 0, 10)) := by
                rw [HV.out, if_pos ⟨hkl, by omega⟩, if_neg (by rw [hge]; rintro ⟨_, e⟩; exact h13 (Option.some.inj e))]; exact Lib.hid rfl
              obtain ⟨b1, b2, b3⟩ := ne_oct l[j] 13 13 rfl h13
              clear HV F1 F2 HT HC i10 hge h13 hj
              go_wp2_with fail
              go_ret3
              exact ⟨by rw [HW.out]; rfl, rfl⟩
      · by_cases hLm : L ≤ most
        · have hkL : k = L := by omega
          have HW : Hid (St.line most l = ([], 0, 11)) := by rw [HV.out, if_neg (by have := HL.out; omega), if_pos (by rw [← HL.out]; exact hLm)]; exact Lib.hid rfl
          have hki : ¬ ((k : Int) < L) := by omega
          have hLi : (L : Int) ≤ most := by omega
          clear HV F1 F2 HT HC hkL hin
          go_wp2_with fail
          go_ret3
          exact ⟨by rw [HW.out]; rfl, rfl⟩
        · have HW : Hid (St.line most l = ([], 0, 12)) := by rw [HV.out, if_neg (by have := HL.out; omega), if_neg (by rw [← HL.out]; exact hLm)]; exact Lib.hid rfl
          have hLi : ¬ (L : Int) ≤ most := by omega
          by_cases hkL : k < L
          · have hki : (k : Int) < L := by omega
            have hkmi : ¬ (k : Int) ≤ most := by omega
            clear HV F1 F2 HT HC hin
            go_wp2_with fail
            go_ret3
            exact ⟨by rw [HW.out]; rfl, rfl⟩
          · have hki : ¬ ((k : Int) < L) := by omega
            clear HV F1 F2 HT HC hin
            go_wp2_with fail
            go_ret3
            exact ⟨by rw [HW.out]; rfl, rfl⟩
end Go.Proofs.YtbpghbbcghlcaaaDoor
