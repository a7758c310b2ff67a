/- What lies below, out of the texts of the layers under this one: Ck1, Ck2, Ck3, Ck4, Ck5. -/
import Derived.Test.YtlbjjeonchcgbaaGreatDoorCkMath
import Derived.Test.YtlbjjeonchcgbaaGreatDoorStBase
import Derived.Lib.SlBytesConst
import Derived.Lib.ConvBytes
import Derived.Laws.AppendOwnNone
import Derived.Laws.Rows
import Derived.Laws.Tables
import Derived.Deep.DeepCutAuto
import Derived.Deep.CutBlock
import Derived.Test.YtlbjjeonchcgbaaGreatDoorCkMathC
namespace Go.Proofs.YtlbjjeonchcgbaaGreatDoor
open Go.RowKit

/-- The first n octets. -/
theorem BIn.cut {w : World} {ao : Option Addr} {m cap : Nat} {l : List UInt8} (h : BIn w (.slice ao m cap) l) (n : Nat) (hn : n ≤ l.length) : BIn w (.slice ao n cap) (l.take n) := by
  obtain ⟨ao', cap', hv, h1, h2, hg⟩ := h
  injection hv with hv1 hv2 hv3
  subst hv1 hv2 hv3
  have hl : (l.take n).length = n := by rw [List.length_take]; omega
  refine ⟨ao, cap, by rw [hl], by omega, h2, ?_⟩
  rcases hg with rfl | ⟨b, o, rfl, hb, hc⟩
  · left; simp
  · refine .inr ⟨b, o, rfl, hb, fun j hj => ?_⟩
    rw [hl] at hj
    rw [hc j (by omega)]
    simp

end Go.Proofs.YtlbjjeonchcgbaaGreatDoor

namespace Go.Proofs.YtlbjjeonchcgbaaGreatDoor
open Go.RowKit

/-- What the document's line answers, from place A on. -/
def clres (A : Nat) (x : List UInt8 × Int × Int) : Value := .tuple #[.string (str x.1), .int .i64 (if x.2.2 = 0 then (A : Int) + x.2.1 else 0), .int .i64 x.2.2]
/-- From place A on: where the first LF stands. -/
theorem drop_upto (l : List UInt8) (A : Nat) : (∀ m (hm : m < l.length), A ≤ m → m < A + St.upto 10 (l.drop A) → l[m] ≠ 10) ∧ (∀ m (hm : m < l.length), m = A + St.upto 10 (l.drop A) → l[m] = 10) := by
  obtain ⟨h1, h2⟩ := list_upto (l.drop A)
  constructor
  · intro m hm hA hu
    have := h1 (m - A) (by rw [List.length_drop]; omega) (by omega)
    rw [List.getElem_drop] at this
    simpa [show A + (m - A) = m by omega] using this
  · intro m hm he
    subst he
    have := h2 (by rw [List.length_drop]; omega)
    rwa [List.getElem_drop] at this

set_option maxHeartbeats 3200000 in
set_option maxRecDepth 100000 in
theorem crline_w (v : Value) (l : List UInt8) (A : Nat) (w : World) (hl : l.length ≤ 100000000) (hA : A ≤ l.length) (h : BIn w v l) :
    Calls Tryz.prog 58 #[v, .int .i64 A] w fun e w' => e = .returned (clres A (Ck.lineAt (l.drop A))) ∧ w = w' := by
  obtain ⟨ao, cap, rfl, hlc, hc9, hg⟩ := h
  have hA0 : (0 : Int) ≤ A := by omega
  obtain ⟨U, hU⟩ : ∃ U, U = St.upto 10 (l.drop A) := ⟨_, rfl⟩
  have hdl : (l.drop A).length = l.length - A := List.length_drop
  have hUl : A + U ≤ l.length := by have := St.upto_le 10 (l.drop A); omega
  have HV : Hid (Ck.lineAt (l.drop A) = if U < l.length - A ∧ U ≤ 255 then if 1 ≤ U ∧ l[A + (U - 1)]? = some 13 then ((l.take (A + (U - 1))).drop A, ((U + 1 : Nat) : Int), 0) else ([], 0, 10) else if l.length - A ≤ 255 then ([], 0, 11) else ([], 0, 12)) := by
    rw [hU, ← hdl, ← List.getElem?_drop, List.drop_take, Nat.add_sub_cancel_left]; exact Lib.hid rfl
  rcases hg with rfl | ⟨b, o, rfl, hb, hcell⟩
  · have hA9 : A = 0 := by simp at hA; exact hA
    subst hA9
    have HW : Hid (Ck.lineAt (([] : List UInt8).drop 0) = ([], 0, 11)) := by rw [HV.out, if_neg (by simp), if_pos (by simp)]; exact Lib.hid rfl
    clear HV hU hUl
    go_enter Tryz.func58, Tryz.ntmps58
    go_wp2_with fail
    refine wp_loop_rounds 1 ?_
    rw [rounds_succ]
    go_wp2_with fail
    go_ret3
    exact ⟨by rw [HW.out]; rfl, rfl⟩
  · obtain ⟨u1, u2⟩ := drop_upto l A
    have F1 : Hid (∀ m (hm : m < l.length), A ≤ m → m < A + U → l[m] ≠ 10) := by rw [hU]; exact Lib.hid u1
    have F2 : Hid (∀ m (hm : m < l.length), m = A + U → l[m] = 10) := by rw [hU]; exact Lib.hid u2
    have HT := Lib.hid (fun m (hm : m ≤ l.length) (hm2 : A ≤ m) => (by
      have hlen : ((l.take m).drop A).length = m - A := by rw [List.length_drop, List.length_take]; omega
      have hcv := run_convert_bytes_back (P := Tryz.prog) w 22 9 5 ⟨b, o + A, none⟩ (cap - A) ((l.take m).drop A) Tryz.underlying22 Tryz.underlying5 Tryz.underlying9 (fun j hj => by
        rw [hlen] at hj
        rw [Addr.add_lit, Nat.add_assoc, hcell (A + j) (by omega)]
        simp)
      rw [hlen] at hcv
      exact hcv : (convert 22 9 (.slice (some ⟨b, o + A, none⟩) (m - A) (cap - A))).run Tryz.prog w = .ok (.string (str ((l.take m).drop A))) w))
    obtain ⟨L, hL⟩ : ∃ L, L = l.length := ⟨_, rfl⟩
    have HC : Hid (∀ j (hj : j < l.length), w.cell? ⟨b, o + j, none⟩ = some (.int .u8 (l[j].toNat : Int))) := Lib.hid hcell
    have HL := Lib.hid hL
    rw [← hL] at hl hlc hUl hA
    rw [show l.length = L from hL.symm] at HV
    rw [show l.length = L from hL.symm]
    clear hU u1 u2 hcell hL hdl
    have hAi : (A : Int) ≤ L := by omega
    go_enter Tryz.func58, Tryz.ntmps58
    go_wp2_with fail
    go_loop [7] (fun i => ∃ m : Nat, A ≤ m ∧ m ≤ A + U ∧ m ≤ A + 256 ∧ i = .int .i64 m) (fun i => A + 256 - (intOf i).toNat)
    case atStart => exact ⟨A, by omega, by omega, by omega, rfl⟩
    case round =>
      obtain ⟨k, hkA, hkU, hkm, rfl⟩ := hrel
      have hk0 : (0 : Int) ≤ k := by omega
      by_cases hin : k < L ∧ k < A + 256
      · obtain ⟨hkL, hkM⟩ := hin
        have hki : (k : Int) < L := by omega
        have hkmi : (k : Int) < (A : Int) + 256 := by omega
        have hkl : k < l.length := by rw [← HL.out]; exact hkL
        have hck := HC.out k hkl
        by_cases hlt : k < A + U
        · obtain ⟨b1, b2, b3⟩ := ne_oct l[k] 10 10 rfl (F1.out k hkl hkA hlt)
          go_wp2_with fail
          go_round
          case rel => exact ⟨k + 1, by omega, by omega, by omega, by go_num⟩
          case measure => simp [intOf]; omega
        · have hkU2 : k = A + U := by omega
          have i10 : (l[k].toNat : Int) = 10 := by rw [F2.out k hkl hkU2]; rfl
          rw [i10] at hck
          by_cases hk1 : k = A
          · have hU0 : U = 0 := by omega
            have HW : Hid (Ck.lineAt (l.drop A) = ([], 0, 10)) := by rw [HV.out, if_pos ⟨by omega, by omega⟩, if_neg (by omega)]; exact Lib.hid rfl
            have hkai : (k : Int) = A := by omega
            have hkab : ((k : Int) == (A : Int)) = true := beq_iff_eq.2 hkai
            clear HV F1 F2 HT HC i10 hkU2 hU0
            clear hkai
            subst hk1
            go_wp2_with fail
            go_ret3
            exact ⟨by rw [HW.out]; rfl, rfl⟩
          · obtain ⟨j, hj⟩ : ∃ j, k = j + 1 := ⟨k - 1, by omega⟩
            have hjl : j < l.length := by omega
            have hcj := HC.out j hjl
            have hb0 : ((k : Int) == (A : Int)) = false := beq_eq_false_iff_ne.2 (by omega)
            have hw1 : IntKind.i64.wrap ((k : Int) - 1) = (j : Int) := by rw [IntKind.wrap_i64]; omega
            have hw2 : (k : Int) - 1 = (j : Int) := by omega
            have hw3 : IntKind.i64.wrap (j : Int) = (j : Int) := by rw [IntKind.wrap_i64]; omega
            have hj0 : (0 : Int) ≤ j := by omega
            have hjA : (A : Int) ≤ j := by omega
            have hji : (j : Int) < L := by omega
            have hjc : (j : Int) ≤ cap := by omega
            have hjA2 : j = A + (U - 1) := by omega
            have hge : l[A + (U - 1)]? = some l[j] := by rw [← hjA2, List.getElem?_eq_getElem hjl]
            by_cases h13 : l[j] = 13
            · have HW : Hid (Ck.lineAt (l.drop A) = ((l.take j).drop A, ((U + 1 : Nat) : Int), 0)) := by
                rw [HV.out, if_pos ⟨by omega, by omega⟩, if_pos ⟨by omega, by rw [hge, h13]⟩, ← hjA2]; exact Lib.hid rfl
              have i13 : (l[j].toNat : Int) = 13 := by rw [h13]; rfl
              rw [i13] at hcj
              have hT := HT.out j (by omega) (by omega)
              have hnn : (A : Int) + ((U + 1 : Nat) : Int) = (k : Int) + 1 := by omega
              have HWV : Hid (clres A (Ck.lineAt (l.drop A)) = .tuple #[.string (str ((l.take j).drop A)), .int .i64 ((k : Int) + 1), .int .i64 0]) := by
                rw [HW.out]; exact Lib.hid (by show Value.tuple #[_, .int .i64 ((A : Int) + ((U + 1 : Nat) : Int)), _] = _; rw [hnn])
              generalize str ((l.take j).drop A) = T at *
              clear HV F1 F2 HT HC i10 i13 HW hge h13 hj hjA2 hnn hkU2
              go_wp2_with fail
              go_ret3
              exact ⟨by rw [HWV.out]; rfl, rfl⟩
            · have HW : Hid (Ck.lineAt (l.drop A) = ([], 0, 10)) := by
                rw [HV.out, if_pos ⟨by omega, by omega⟩, if_neg (by rw [hge]; rintro ⟨_, e⟩; exact h13 (Option.some.inj e))]; exact Lib.hid rfl
              obtain ⟨b1, b2, b3⟩ := ne_oct l[j] 13 13 rfl h13
              clear HV F1 F2 HT HC i10 hge h13 hj hjA2 hkU2
              go_wp2_with fail
              go_ret3
              exact ⟨by rw [HW.out]; rfl, rfl⟩
      · by_cases hLm : L - A ≤ 255
        · have hkL : k = L := by omega
          have HW : Hid (Ck.lineAt (l.drop A) = ([], 0, 11)) := by rw [HV.out, if_neg (by omega), if_pos hLm]; exact Lib.hid rfl
          have hki : ¬ ((k : Int) < L) := by omega
          have hLi : ¬ (256 : Int) ≤ (L : Int) - A := by omega
          clear HV F1 F2 HT HC hkL hin
          go_wp2_with fail
          go_ret3
          exact ⟨by rw [HW.out]; rfl, rfl⟩
        · have HW : Hid (Ck.lineAt (l.drop A) = ([], 0, 12)) := by rw [HV.out, if_neg (by omega), if_neg hLm]; exact Lib.hid rfl
          have hLi : (256 : Int) ≤ (L : Int) - A := by omega
          by_cases hkL : k < L
          · have hki : (k : Int) < L := by omega
            have hkmi : ¬ (k : Int) < (A : Int) + 256 := by omega
            clear HV F1 F2 HT HC hin
            go_wp2_with fail
            go_ret3
            exact ⟨by rw [HW.out]; rfl, rfl⟩
          · have hki : ¬ ((k : Int) < L) := by omega
            clear HV F1 F2 HT HC hin
            go_wp2_with fail
            go_ret3
            exact ⟨by rw [HW.out]; rfl, rfl⟩
end Go.Proofs.YtlbjjeonchcgbaaGreatDoor

namespace Go.Proofs.YtlbjjeonchcgbaaGreatDoor
open Go.RowKit

theorem number_one (c : UInt8) : Oct.number 16 15 [c] = if Oct.dig 16 c then ((Oct.worth c : Int), 0) else (0, 10) := by
  unfold Oct.number Oct.allOf
  cases hd : Oct.dig 16 c with
  | false => simp [hd]
  | true =>
    have hw : Oct.worth c < 16 := by unfold Oct.dig at hd; simpa using hd
    simp only [hd, List.all_cons, List.all_nil, Bool.and_true, Bool.true_eq_false, List.cons_ne_nil, or_self, if_false, if_true]
    rw [if_neg (by decide)]
    simp only [Oct.num]
    rw [if_neg (by omega)]
    simp
/-- The digits ahead. -/
theorem digits_facts (s : ByteArray) : ∃ N, N = (Ck.digits s.data.toList).length ∧ N ≤ s.size ∧ N ≤ 8 ∧ Ck.digits s.data.toList = s.data.toList.take N ∧ (∀ k (hk : k < s.size), k < N → Oct.dig 16 s[k] = true) ∧ (∀ hk : N < s.size, N < 8 → Oct.dig 16 s[N] = false) := by
  have hz : s.data.toList.length = s.size := Oct.length_size s
  unfold Ck.digits
  have hpre : ∀ (p : UInt8 → Bool) (l : List UInt8), l.takeWhile p = l.take (l.takeWhile p).length ∧ (∀ k (hk : k < l.length), k < (l.takeWhile p).length → p l[k] = true) ∧ (∀ hk : (l.takeWhile p).length < l.length, p l[(l.takeWhile p).length] = false) := by
    intro p l
    induction l with
    | nil => simp
    | cons c t ih =>
      cases hc : p c with
      | false => simp [List.takeWhile, hc]
      | true =>
        simp only [List.takeWhile, hc, List.length_cons, List.take_succ_cons]
        refine ⟨by rw [← ih.1], ?_, ?_⟩
        · intro k hk hk2
          cases k with
          | zero => simpa using hc
          | succ k => simpa using ih.2.1 k (by simpa using hk) (by omega)
        · intro hk
          simpa using ih.2.2 (by simpa using hk)
  obtain ⟨h1, h2, h3⟩ := hpre (Oct.dig 16) (s.data.toList.take 8)
  have hle : ((s.data.toList.take 8).takeWhile (Oct.dig 16)).length ≤ (s.data.toList.take 8).length := by
    have := congrArg List.length h1
    rw [List.length_take] at this; omega
  rw [List.length_take, hz] at hle
  generalize hn : ((s.data.toList.take 8).takeWhile (Oct.dig 16)).length = n at *
  refine ⟨n, rfl, by omega, by omega, by rw [h1, List.take_take, Nat.min_eq_left (by omega)], ?_, ?_⟩
  · intro k hk hkn
    have := h2 k (by rw [List.length_take]; omega) hkn
    rw [List.getElem_take] at this
    have e : s.data.toList[k]'(by omega) = s[k] := by
      have := Lib.data_getElem? s k hk
      rw [List.getElem?_eq_getElem (by omega)] at this; exact Option.some.inj this
    rwa [e] at this
  · intro hk h8
    have := h3 (by rw [List.length_take]; omega)
    rw [List.getElem_take] at this
    have e : s.data.toList[n]'(by omega) = s[n] := by
      have := Lib.data_getElem? s n hk
      rw [List.getElem?_eq_getElem (by omega)] at this; exact Option.some.inj this
    rwa [e] at this
theorem one_text (s : ByteArray) (k : Nat) (hk : k < s.size) : (s.extract k (k + 1)).data.toList = [s[k]] := by
  rw [cut_mid]
  have h := Lib.data_getElem? s k hk
  rw [List.take_add_one, h, List.drop_append_of_le_length (by rw [List.length_take]; have := Oct.length_size s; omega), List.drop_of_length_le (by rw [List.length_take]; omega)]
  rfl
theorem drop_blank (r : ByteArray) (h : 0 < r.size) (hb : Ck.blank r[0] = true) : r.data.toList.dropWhile Ck.blank = (r.extract 1 r.size).data.toList.dropWhile Ck.blank := by
  rw [Oct.cons_first r h, ext_tail r r.data.toList 1 rfl]
  simp [List.dropWhile, hb]
theorem drop_other (r : ByteArray) (h : 0 < r.size) (hb : Ck.blank r[0] = false) : r.data.toList.dropWhile Ck.blank = r.data.toList := by
  rw [Oct.cons_first r h]
  simp [List.dropWhile, hb]
theorem drop_none (r : ByteArray) (h : ¬ 0 < r.size) : r.data.toList.dropWhile Ck.blank = r.data.toList := by
  rw [Oct.empty_list r h]; rfl
theorem ext_some {l : List UInt8} (h : l ≠ []) : Ck.ext l = match l.dropWhile Ck.blank with | [] => false | c :: t => decide (c = 59) && Oct.allOf Oct.plain t := by
  unfold Ck.ext
  split
  · exact absurd rfl h
  · rfl
theorem blank_int (c : UInt8) : Ck.blank c = (decide ((c.toNat : Int) = 32) || decide ((c.toNat : Int) = 9)) := by
  have h : ∀ (n : UInt8) (m : Int), m = n.toNat → decide (c = n) = decide ((c.toNat : Int) = m) := fun n m hm => by
    apply decide_eq_decide.2
    constructor
    · rintro rfl; omega
    · intro e; exact UInt8.toNat_inj.1 (by omega)
  unfold Ck.blank
  rw [h 32 32 rfl, h 9 9 rfl]

theorem plain_snoc (r : ByteArray) (k : Nat) (hk : k < r.size) (h1 : 1 ≤ k) : Oct.allOf Oct.plain ((r.data.toList.take (k + 1)).drop 1) = (Oct.allOf Oct.plain ((r.data.toList.take k).drop 1) && Oct.plain r[k]) := by
  have h := Lib.data_getElem? r k hk
  rw [List.take_add_one, h, List.drop_append_of_le_length (by rw [List.length_take]; have := Oct.length_size r; omega)]
  unfold Oct.allOf
  simp
theorem plain_miss (r : ByteArray) (k : Nat) (hk : k < r.size) (h1 : 1 ≤ k) (hp : Oct.plain r[k] = false) : Oct.allOf Oct.plain (r.data.toList.drop 1) = false := by
  unfold Oct.allOf
  rw [List.all_eq_false]
  refine ⟨r[k], ?_, by rw [hp]; simp⟩
  have h := Lib.data_getElem? r k hk
  refine List.mem_of_getElem? (i := k - 1) ?_
  rw [List.getElem?_drop, show 1 + (k - 1) = k by omega, h]

set_option maxHeartbeats 3200000 in
set_option maxRecDepth 100000 in
theorem rsize_s (s : ByteArray) (w : World) (hs : s.size ≤ 1000000) :
    Calls Tryz.prog 59 #[.string s] w fun e w' => e = .returned (.int .i64 (Ck.sizeOf s.data.toList)) ∧ w = w' := by
  obtain ⟨N, hN, hNs, hN8, hNd, hN1, hN2⟩ := digits_facts s
  obtain ⟨n, er, hn⟩ : ∃ n er, Oct.number 16 4294967295 (s.data.toList.take N) = (n, er) := ⟨_, _, rfl⟩
  have HV : Hid (Ck.sizeOf s.data.toList = if er ≠ 0 then -1 else if Ck.ext (s.data.toList.drop N) then n else -1) := by
    unfold Ck.sizeOf; rw [← hN, hNd, hn]; exact Lib.hid rfl
  have cO := fun (k : Nat) (hk : k < s.size) (a e : Int) (h : Oct.number 16 15 [s[k]] = (a, e)) (W : World) => rHex_is (s.extract k (k + 1)) 15 a e W (by rw [Lib.size_eq, one_text s k hk]; simp) (by omega) (by omega) (by rw [one_text s k hk]; exact h)
  have cN := fun (W : World) => rHex_is (s.extract 0 N) 4294967295 n er W (by simp; omega) (by omega) (by omega) (by rw [cut_mid, List.drop_zero]; exact hn)
  have hRl := ext_tail s s.data.toList N rfl
  have hRz : (s.extract N s.size).size ≤ 1000000 := by simp; omega
  have HN1 := Lib.hid hN1
  have HN2 := Lib.hid hN2
  have HO := Lib.hid (fun (k : Nat) (hk : k < s.size) => number_one s[k])
  obtain ⟨X, hX⟩ : ∃ X, X = s.extract 0 N := ⟨_, rfl⟩
  obtain ⟨R, hR⟩ : ∃ R, R = s.extract N s.size := ⟨_, rfl⟩
  have HX := Lib.hid hX
  have HR := Lib.hid hR
  have HCN := Lib.hid cN
  have HCO := Lib.hid cO
  clear hN hNd hN1 hN2 hn cN cO hX
  rw [← hR] at hRl hRz
  rw [← hRl] at HV
  clear hR hRl
  generalize Ck.sizeOf s.data.toList = Z at *
  have hN0 : (0 : Int) ≤ N := by omega
  have hNsi : (N : Int) ≤ s.size := by omega
  go_enter Tryz.func59, Tryz.ntmps59
  go_upto_block 0 with fail
  go_cut [3, 4, 5] from 10 to 30 (fun x3 _ _ wx => x3 = .int .i64 N ∧ w = wx)
  case first =>
    go_wp2_with fail
    go_loop [3, 4, 5] (fun i _ _ => ∃ k : Nat, k ≤ N ∧ i = .int .i64 k) (fun i _ _ => N - (intOf i).toNat)
    case atStart => exact ⟨0, by omega, rfl⟩
    case round =>
      obtain ⟨k, hk, rfl⟩ := hrel
      have hk0 : (0 : Int) ≤ k := by omega
      by_cases hlt : k < N
      · have hks : k < s.size := by omega
        have hki : (k : Int) < s.size := by omega
        have hk8 : (k : Int) < 8 := by omega
        have hk1 : (k : Int) + 1 ≤ s.size := by omega
        have cC := fun (W : World) => HCO.out k hks (Oct.worth s[k]) 0 (by rw [HO.out k hks, HN1.out k hks hlt]; rfl) W
        have cC' : ∀ (W : World), Calls Tryz.prog 34 #[.string (s.extract k (k + 1)), .int .i64 16, .int .i64 15] W fun r w' => r = .returned (.tuple #[.int .i64 (Oct.worth s[k] : Int), .int .i64 0]) ∧ W = w' := cC
        clear cC
        go_wp2_with fail
        refine (cC' _).mono ?_
        rintro e W1 ⟨rfl, rfl⟩
        go_wp2_with fail
        go_round
        case rel => exact ⟨k + 1, by omega, by go_num⟩
        case measure => simp [intOf]; omega
      · obtain rfl : k = N := by omega
        by_cases hks : k < s.size
        · have hki : (k : Int) < s.size := by omega
          by_cases h8 : k < 8
          · have hk8 : (k : Int) < 8 := by omega
            have hk1 : (k : Int) + 1 ≤ s.size := by omega
            have cC := fun (W : World) => HCO.out k hks 0 10 (by rw [HO.out k hks, HN2.out hks h8]; rfl) W
            go_wp2_with fail
            refine (cC _).mono ?_
            rintro e W1 ⟨rfl, rfl⟩
            go_wp2_with fail
            go_meet
            case rel => exact ⟨rfl, rfl⟩
          · have hk8 : ¬ (k : Int) < 8 := by omega
            go_wp2_with fail
            go_meet
            case rel => exact ⟨rfl, rfl⟩
        · have hki : ¬ (k : Int) < s.size := by omega
          go_wp2_with fail
          go_meet
          case rel => exact ⟨rfl, rfl⟩
  case rest =>
    obtain ⟨rfl, rfl⟩ := hcut
    have cN := HCN.out w
    go_wp2_with fail
    refine cN.mono ?_
    rintro e W1 ⟨rfl, rfl⟩
    by_cases he : er = 0
    · subst he
      have HW : Hid (Z = if Ck.ext R.data.toList then n else -1) := by rw [HV.out, if_neg (by decide)]; exact Lib.hid rfl
      clear HV cN HCN HCO HO HN1 HN2 HX
      go_upto_region 10 with fail
      rw [← HR.out]
      clear HR hN0 hNsi hNs hN8 hs
      by_cases h0 : 0 < R.size
      · have hne : ¬ R = ⟨#[]⟩ := fun e => by rw [e] at h0; exact absurd h0 (by decide)
        obtain ⟨n1, n2, n3⟩ := nonempty hne
        have hRn : R.data.toList ≠ [] := fun e => hne (str_eq e)
        have HW2 : Hid (Z = if (match R.data.toList.dropWhile Ck.blank with | [] => false | c :: t => decide (c = 59) && Oct.allOf Oct.plain t) then n else -1) := by rw [HW.out, ext_some hRn]; exact Lib.hid rfl
        clear HW
        go_upto_block 2 with fail
        go_cut [8] from 46 to 60 (fun x8 wx => (∃ r : ByteArray, x8 = .string r ∧ r.size ≤ 1000000 ∧ r.data.toList = R.data.toList.dropWhile Ck.blank) ∧ w = wx)
        case first =>
          clear n1 n2 n3
          go_wp2_with fail
          go_loop [8] (fun x => ∃ r : ByteArray, x = .string r ∧ r.size ≤ 1000000 ∧ Hid (r.data.toList.dropWhile Ck.blank = R.data.toList.dropWhile Ck.blank)) (fun x => (match x with | .string r => r.size | _ => 0))
          case atStart => exact ⟨R, rfl, hRz, Lib.hid rfl⟩
          case round =>
            obtain ⟨r, rfl, hrz, HD⟩ := hrel
            by_cases hr0 : 0 < r.size
            · have hri : (0 : Int) < r.size := by omega
              have hr1 : (1 : Int) ≤ r.size := by omega
              have HB := Lib.hid (drop_blank r hr0)
              have HO := Lib.hid (drop_other r hr0)
              have HI := Lib.hid (blank_int r[0])
              by_cases h32 : (r[0].toNat : Int) = 32
              · have HD2 : Hid ((r.extract 1 r.size).data.toList.dropWhile Ck.blank = R.data.toList.dropWhile Ck.blank) := by
                  rw [← HB.out (by rw [HI.out, decide_eq_true h32]; rfl)]; exact HD
                clear HB HO HI
                go_wp2_with fail
                go_round
                case rel => exact ⟨_, rfl, by simp; omega, HD2⟩
                case measure => simp; omega
              · by_cases h9 : (r[0].toNat : Int) = 9
                · have HD2 : Hid ((r.extract 1 r.size).data.toList.dropWhile Ck.blank = R.data.toList.dropWhile Ck.blank) := by
                    rw [← HB.out (by rw [HI.out, decide_eq_true h9, Bool.or_true])]; exact HD
                  have b32 : ((r[0].toNat : Int) == 32) = false := beq_eq_false_iff_ne.2 h32
                  clear HB HO HI
                  go_wp2_with fail
                  go_round
                  case rel => exact ⟨_, rfl, by simp; omega, HD2⟩
                  case measure => simp; omega
                · have HD2 : Hid (r.data.toList = R.data.toList.dropWhile Ck.blank) := by
                    rw [← HO.out (by rw [HI.out, decide_eq_false h32, decide_eq_false h9]; rfl)]; exact HD
                  have b32 : ((r[0].toNat : Int) == 32) = false := beq_eq_false_iff_ne.2 h32
                  have b9 : ((r[0].toNat : Int) == 9) = false := beq_eq_false_iff_ne.2 h9
                  clear HB HO HI
                  go_wp2_with fail
                  go_meet
                  case rel => exact ⟨⟨_, rfl, hrz, HD2.out⟩, rfl⟩
            · have hri : ¬ (0 : Int) < r.size := by omega
              have HD2 : Hid (r.data.toList = R.data.toList.dropWhile Ck.blank) := by
                rw [← drop_none r hr0]; exact HD
              go_wp2_with fail
              go_meet
              case rel => exact ⟨⟨_, rfl, hrz, HD2.out⟩, rfl⟩
        case rest =>
          obtain ⟨⟨r, rfl, hrz, hrd⟩, rfl⟩ := hcut
          rw [← hrd] at HW2
          clear hrd n1 n2 n3 hne hRn h0 hRz
          by_cases hr0 : 0 < r.size
          · have hri : (0 : Int) < r.size := by omega
            have hrne : ¬ r = ⟨#[]⟩ := fun e => by rw [e] at hr0; exact absurd hr0 (by decide)
            obtain ⟨n1, n2, n3⟩ := nonempty hrne
            rw [Oct.cons_first r hr0] at HW2
            by_cases h59 : r[0] = 59
            · have HW3 : Hid (Z = if Oct.allOf Oct.plain (r.data.toList.drop 1) then n else -1) := by
                rw [HW2.out, h59]; exact Lib.hid rfl
              have i59 : (r[0].toNat : Int) = 59 := by rw [h59]; rfl
              have cP := fun (k : Nat) (hk : k < r.size) (W : World) => rPlain_c r[k] W
              have HAll := Lib.hid (plain_snoc r)
              have HMiss := Lib.hid (plain_miss r)
              have b59 : ((r[0].toNat : Int) != 59) = false := by rw [bne, i59]; rfl
              have hr1 : 1 ≤ r.size := hr0
              clear HW2 hrne h59
              go_wp2_with fail
              go_loop [9] (fun i => ∃ k : Nat, 1 ≤ k ∧ k ≤ r.size ∧ i = .int .i64 k ∧ Hid (Oct.allOf Oct.plain ((r.data.toList.take k).drop 1) = true)) (fun i => r.size - (intOf i).toNat)
              case atStart => exact ⟨1, Nat.le_refl _, hr1, rfl, Lib.hid (by rw [List.drop_of_length_le (by rw [List.length_take]; omega)]; rfl)⟩
              case round =>
                obtain ⟨k, hk1, hk, rfl, HA⟩ := hrel
                have hk0 : (0 : Int) ≤ k := by omega
                by_cases hlt : k < r.size
                · have hki : (k : Int) < r.size := by omega
                  have cC := cP k hlt
                  cases hp : Oct.plain r[k] with
                  | true =>
                    rw [hp] at cC
                    have HA2 : Hid (Oct.allOf Oct.plain ((r.data.toList.take (k + 1)).drop 1) = true) := by
                      rw [HAll.out k hlt hk1, HA.out, hp]; exact Lib.hid rfl
                    clear hp
                    go_wp2_with fail
                    refine (cC _).mono ?_
                    rintro e W1 ⟨rfl, rfl⟩
                    go_wp2_with fail
                    go_round
                    case rel => exact ⟨k + 1, by omega, by omega, by go_num, HA2⟩
                    case measure => simp [intOf]; omega
                  | false =>
                    rw [hp] at cC
                    have HW4 : Hid (Z = -1) := Lib.hid (HW3.out.trans (by rw [HMiss.out k hlt hk1 hp]; rfl))
                    clear hp
                    go_wp2_with fail
                    refine (cC _).mono ?_
                    rintro e W1 ⟨rfl, rfl⟩
                    go_wp2_with fail
                    go_ret
                    exact ⟨ret_int HW4.out.symm, rfl⟩
                · have hki : ¬ (k : Int) < r.size := by omega
                  have HW4 : Hid (Z = n) := Lib.hid (HW3.out.trans (by rw [← Oct.take_all r k (by omega), HA.out]; rfl))
                  go_wp2_with fail
                  go_ret
                  exact ⟨ret_int HW4.out.symm, rfl⟩
            · have HW3 : Hid (Z = -1) := Lib.hid (HW2.out.trans (by simp [h59]))
              obtain ⟨b1, b2, b3⟩ := ne_oct r[0] 59 59 rfl h59
              clear HW2 h59
              go_wp2_with fail
              go_ret
              exact ⟨ret_int HW3.out.symm, rfl⟩
          · have HW3 : Hid (Z = -1) := by rw [HW2.out, Oct.empty_list r hr0]; exact Lib.hid rfl
            have hre : r = ⟨#[]⟩ := str_eq (Oct.empty_list r hr0)
            subst hre
            go_wp2_with fail
            go_ret
            exact ⟨ret_int HW3.out.symm, rfl⟩
      · have hRe : R = ⟨#[]⟩ := str_eq (Oct.empty_list R h0)
        subst hRe
        have HW2 : Hid (Z = n) := by rw [HW.out]; exact Lib.hid rfl
        clear HW
        go_wp2_with fail
        go_ret
        exact ⟨ret_int HW2.out.symm, rfl⟩
    · have HW : Hid (Z = -1) := by rw [HV.out, if_pos he]; exact Lib.hid rfl
      have be : (er != 0) = true := by rw [bne, beq_eq_false_iff_ne.2 he]; rfl
      go_wp2_with fail
      go_ret
      exact ⟨ret_int HW.out.symm, rfl⟩
end Go.Proofs.YtlbjjeonchcgbaaGreatDoor

namespace Go.Proofs.YtlbjjeonchcgbaaGreatDoor
open Go.RowKit

theorem results_tmp4 {fn : Func} {t u v x : Tmp} (h : fn.results = #[.tmp t, .tmp u, .tmp v, .tmp x]) (tmps : Array Value) (P : Program) (w : World) :
    (results fn tmps).run P w = .ok (.tuple #[tmps.getD t undef, tmps.getD u undef, tmps.getD v undef, tmps.getD x undef]) w := by
  simp [results, h]
/-- Four things are handed back. -/
theorem ret_four {fn : Func} {t u v x : Tmp} (h : fn.results = #[.tmp t, .tmp u, .tmp v, .tmp x]) {R : Ending → World → Prop} {a : Act} {w : World} (hd : a.defers = [])
    (hR : R (.returned (.tuple #[a.tmps.getD t undef, a.tmps.getD u undef, a.tmps.getD v undef, a.tmps.getD x undef])) w) : bodyPost Tryz.prog fn R .ret a w :=
  bodyPost_ret (results_tmp4 h _ _ _) hd hR
theorem bin_nil (w : World) : BIn w (.slice none 0 0) [] ∧ NilOk (.slice none 0 0) :=
  ⟨⟨none, 0, rfl, Nat.le_refl _, by decide, .inl rfl⟩, fun c h => by injection h with _ _ h; exact h.symm⟩
theorem own_in {w : World} {B : Nat} {v : Value} {l : List UInt8} (h : w.ownsRow B 5 1 v l.length (Lib.byteCells l)) : BIn w v l ∧ NilOk v := by
  rcases h.2 with ⟨hv, h0⟩ | ⟨g, cap, cur, hv', hg, hh, h1, h2, h3, h4⟩
  · have : l = [] := by
      cases l with
      | nil => rfl
      | cons c t => simp at h0
    subst this hv
    exact bin_nil w
  · refine ⟨⟨_, cap, hv', h1, by unfold maxLen at h2; omega, .inr ⟨g, 0, rfl, lt_of_block hh, fun j hj => ?_⟩⟩, by rw [hv']; exact nil_ok g _ _⟩
    have h5 : cur.toList[j]? = some (.int .u8 (l[j].toNat : Int)) := by
      have h6 : (cur.toList.take (l.length * 1))[j]? = (Lib.byteCells l)[j]? := by rw [h4]
      rw [List.getElem?_take_of_lt (by omega)] at h6
      rw [h6]; simp [Lib.byteCells, hj]
    rw [Nat.zero_add]
    simp only [World.cell?, hh]
    simpa using h5
theorem Buf.in_ {W w : World} {v : Value} {l : List UInt8} (h : Buf W w v l) : BIn w v l ∧ NilOk v := own_in h.1
/-- It reads as it did where what lies behind W does. -/
theorem Buf.kept {W w w' : World} {v : Value} {l : List UInt8} (h : Buf W w v l) (hs : ∀ k, k < w.heap.size → W.heap.size ≤ k → w'.heap[k]? = w.heap[k]?) : BIn w' v l ∧ NilOk v := by
  refine own_in (B := W.heap.size) ⟨h.1.1, ?_⟩
  rcases h.1.2 with h0 | ⟨g, cap, cur, hv, hg, hh, rest⟩
  · exact .inl h0
  · exact .inr ⟨g, cap, cur, hv, hg, by rw [hs g (lt_of_block hh) hg]; exact hh, rest⟩
theorem clres_more {A : Nat} {x : List UInt8 × Int × Int} {e : Int} (h : x.2.2 = e) (he : e ≠ 0) : clres A x = .tuple #[.string (str x.1), .int .i64 0, .int .i64 e] := by
  unfold clres; rw [h, if_neg he]
theorem clres_ok {A : Nat} {x : List UInt8 × Int × Int} (h : x.2.2 = 0) {n : Nat} (hn : x.2.1.toNat = n) (h2 : 2 ≤ n) : clres A x = .tuple #[.string (str x.1), .int .i64 ((A + n : Nat) : Int), .int .i64 0] := by
  unfold clres
  rw [h, if_pos rfl]
  have : (A : Int) + x.2.1 = ((A + n : Nat) : Int) := by omega
  rw [this]

set_option maxHeartbeats 6400000 in
set_option maxRecDepth 100000 in
theorem rTold_w (v : Value) (l : List UInt8) (w : World) (hl : l.length ≤ 100000) (h : BIn w v l) :
    Calls Tryz.prog 28 #[v] w fun e w' => (∃ u, e = .returned (.tuple #[u, .int .i64 (Ck.told l).2.1, .bool (Ck.told l).2.2.1, .int .i64 (Ck.told l).2.2.2]) ∧ Buf w w' u (Ck.told l).1) ∧ Below w.heap.size w w' := by
  have HBI := Lib.hid h
  obtain ⟨ao, cap, rfl, hlc, hc9, hg⟩ := h
  obtain ⟨L, hL⟩ : ∃ L, L = l.length := ⟨_, rfl⟩
  have HL := Lib.hid hL
  have HG := Lib.hid hg
  have cL := fun (A : Nat) (hA : A ≤ L) (W : World) (hb : Below w.heap.size w W) => crline_w _ l A W (by omega) (by rw [← HL.out]; exact hA) (HBI.out.later hb)
  rw [← hL] at hl hlc cL ⊢
  have HCL := Lib.hid cL
  clear hL hg cL
  go_enter Tryz.func28, Tryz.ntmps28
  go_upto_block 0 with fail
  go_cut [6, 7, 8, 9, 10, 11, 12] from 20 to 92 (fun x6 x7 _ _ _ _ _ wx => ∃ (A : Nat) (acc : List UInt8), x7 = .int .i64 A ∧ Ck.At l A acc (.trail 0) ∧ Buf w wx x6 acc)
  case first =>
    go_wp2_with fail
    go_loopw [6, 7, 8, 9, 10, 11, 12] (fun x6 x7 x8 _ _ _ _ wr => ∃ (A : Nat) (acc : List UInt8) (t : Nat), x7 = .int .i64 A ∧ x8 = .int .i64 t ∧ t ≤ 1048576 ∧ Ck.At l A acc (.size t) ∧ Buf w wr x6 acc) (fun _ x7 _ _ _ _ _ _ => L - (intOf x7).toNat)
    case atStart => exact ⟨0, [], 0, rfl, rfl, by decide, Ck.At.start l, Buf.nil w⟩
    case round =>
      obtain ⟨A, acc, t, rfl, rfl, ht, hAt, hB⟩ := hrel
      have hA : A ≤ L := by rw [HL.out]; exact hAt.le
      have cA := HCL.out A hA wr hB.2
      have HB9 := Lib.hid hB
      have HAt := Lib.hid hAt
      clear hAt hB
      by_cases e11 : (Ck.lineAt (l.drop A)).2.2 = 11
      · have HT : Hid (Ck.told l = (acc, A, false, 0)) := Lib.hid (HAt.out.more (Ck.size_more e11))
        rw [clres_more e11 (by decide)] at cA
        clear e11
        go_wp2_with fail
        refine cA.mono ?_
        rintro e W1 ⟨rfl, rfl⟩
        go_wp2_with fail
        (try simp only [Exit.inBlock, Exit.then])
        refine ret_four rfl rfl ?_
        rw [HT.out]
        exact ⟨⟨_, rfl, HB9.out⟩, HB9.out.2⟩
      · by_cases e0 : (Ck.lineAt (l.drop A)).2.2 = 0
        · obtain ⟨n, hn⟩ : ∃ n, (Ck.lineAt (l.drop A)).2.1.toNat = n := ⟨_, rfl⟩
          have hlen := Ck.lineAt_len e0
          rw [hn, List.length_drop, ← HL.out] at hlen
          rw [clres_ok e0 hn (by omega)] at cA
          have HS1 := Lib.hid (fun h => Ck.size_form (t := t) e0 h)
          have HS2 := Lib.hid (fun h => Ck.size_last (t := t) e0 h)
          have HS3 := Lib.hid (fun h => Ck.size_long (t := t) e0 h)
          have HS4 := Lib.hid (fun h => Ck.size_next (t := t) e0 h)
          rw [hn] at HS2 HS4
          have cS := fun (W : World) => rsize_s (str (Ck.lineAt (l.drop A)).1) W (by rw [str_size]; omega)
          rw [str_list] at cS
          have hn2 : 2 ≤ n := hlen.1
          have hnL : A + n ≤ L := by omega
          clear e11 e0 hn hlen
          generalize Ck.sizeOf (Ck.lineAt (l.drop A)).1 = z at *
          generalize str (Ck.lineAt (l.drop A)).1 = X at *
          go_wp2_with fail
          refine cA.mono ?_
          rintro e W1 ⟨rfl, rfl⟩
          go_wp2_with fail
          refine (cS _).mono ?_
          rintro e W1 ⟨rfl, rfl⟩
          clear cA cS
          by_cases z0 : z < 0
          · have HT : Hid (Ck.told l = ([], 0, false, 10)) := Lib.hid (HAt.out.err (by decide) (HS1.out z0))
            clear HS1 HS2 HS3 HS4
            go_wp2_with fail
            (try simp only [Exit.inBlock, Exit.then])
            refine ret_four rfl rfl ?_
            rw [HT.out]
            exact ⟨⟨_, rfl, Buf.nil_of HB9.out.2⟩, HB9.out.2⟩
          · by_cases z1 : z = 0
            · have HN : Hid (Ck.At l (A + n) acc (.trail 0)) := Lib.hid (by have := HAt.out.next (HS2.out z1); rwa [List.append_nil] at this)
              subst z1
              clear HS1 HS2 HS3 HS4
              go_wp2_with fail
              go_meet
              case rel => exact ⟨A + n, acc, rfl, HN.out, HB9.out⟩
            · have bz1 : (z == 0) = false := beq_eq_false_iff_ne.2 z1
              by_cases z2 : z > 1048576 - (t : Int)
              · have HT : Hid (Ck.told l = ([], 0, false, 12)) := Lib.hid (HAt.out.err (by decide) (HS3.out (by omega) z2))
                have z3 : 1048576 - (t : Int) < z := z2
                clear HS1 HS2 HS3 HS4
                go_wp2_with fail
                (try simp only [Exit.inBlock, Exit.then])
                refine ret_four rfl rfl ?_
                rw [HT.out]
                exact ⟨⟨_, rfl, Buf.nil_of HB9.out.2⟩, HB9.out.2⟩
              · obtain ⟨N, hN⟩ : ∃ N : Nat, z.toNat = N := ⟨_, rfl⟩
                have HN : Hid (Ck.At l (A + n) acc (Ck.sD (t + N) N)) := Lib.hid (by
                  have := HAt.out.next (HS4.out (by omega) (by omega))
                  rw [List.append_nil, hN] at this
                  unfold Ck.sD; rw [if_neg (by omega)]; exact this)
                have z3 : ¬ 1048576 - (t : Int) < z := z2
                have htN : t + N ≤ 1048576 := by omega
                obtain rfl : z = N := by omega
                clear HS1 HS2 HS3 HS4 z2 bz1 hN
                go_wp2_with fail
                rename_i q1 q2 q3 q4 q5
                clear q1 q2 q3 z0 z1 z3
                go_loopw [6, 7, 12] (fun x6 x7 x12 wr => ∃ (A2 : Nat) (acc2 : List UInt8) (M : Nat), x7 = .int .i64 A2 ∧ x12 = .int .i64 M ∧ M ≤ N ∧ A + n ≤ A2 ∧ Ck.At l A2 acc2 (Ck.sD (t + N) M) ∧ Buf w wr x6 acc2) (fun _ x7 _ _ => L - (intOf x7).toNat)
                case atStart => exact ⟨A + n, acc, N, rfl, rfl, Nat.le_refl _, Nat.le_refl _, HN.out, HB9.out⟩
                case round =>
                  clear HB9 HAt HN
                  obtain ⟨A2, acc2, M, rfl, rfl, hMN, hAA, hAt, hB⟩ := hrel
                  have hA2 : A2 ≤ L := by rw [HL.out]; exact hAt.le
                  have hacc : acc2.length ≤ 100000000 := by have := hAt.had; omega
                  have HB9 := Lib.hid hB
                  have HAt := Lib.hid hAt
                  clear hAt
                  by_cases hM : M = 0
                  · subst hM
                    by_cases h2 : A2 + 2 ≤ L
                    · have h2i : ¬ (L : Int) < (A2 : Int) + 2 := by omega
                      obtain ⟨b, o, hao, hbl, hcell⟩ := HG.out.resolve_left (fun x => by have := HL.out; rw [x] at this; simp at this; omega)
                      subst hao
                      have k0 : A2 < l.length := by rw [← HL.out]; omega
                      have k1 : A2 + 1 < l.length := by rw [← HL.out]; omega
                      have c0 := (hB.2.cell (p := ⟨b, o + A2, none⟩) hbl).trans (hcell A2 k0)
                      have c1 := (hB.2.cell (p := ⟨b, o + (A2 + 1), none⟩) hbl).trans (hcell (A2 + 1) k1)
                      have HT1 := Lib.hid (fun h1 h2 => Ck.tail_next (t := t + N) k1 h1 h2)
                      have HT2 := Lib.hid (fun h => Ck.tail_form (t := t + N) k1 h)
                      clear hcell hB
                      have i0 : (A2 : Int) < L := by omega
                      have i1 : (A2 : Int) + 1 < L := by omega
                      generalize l[A2] = x0 at *
                      generalize l[A2 + 1] = x1 at *
                      by_cases h13 : x0 = 13
                      · by_cases h10 : x1 = 10
                        · subst h13 h10
                          have HN : Hid (Ck.At l (A2 + 2) acc2 (.size (t + N))) := Lib.hid (by have := HAt.out.next (HT1.out rfl rfl); rwa [List.append_nil] at this)
                          have c0' : wr.cell? ⟨b, o + A2, none⟩ = some (.int .u8 13) := c0
                          have c1' : wr.cell? ⟨b, o + (A2 + 1), none⟩ = some (.int .u8 10) := c1
                          clear c0 c1 HT1 HT2
                          go_wp2_with fail
                          go_round
                          case rel => exact ⟨A2 + 2, acc2, t + N, by go_num, by go_num, htN, HN.out, HB9.out⟩
                          case measure => simp [intOf]; omega
                        · have HT : Hid (Ck.told l = ([], 0, false, 10)) := Lib.hid (HAt.out.err (by decide) (HT2.out (.inr h10)))
                          subst h13
                          have c0' : wr.cell? ⟨b, o + A2, none⟩ = some (.int .u8 13) := c0
                          obtain ⟨b1, b2, b3⟩ := ne_oct x1 10 10 rfl h10
                          clear c0 HT1 HT2 h10
                          go_wp2_with fail
                          (try simp only [Exit.inBlock, Exit.then])
                          refine ret_four rfl rfl ?_
                          rw [HT.out]
                          exact ⟨⟨_, rfl, Buf.nil_of HB9.out.2⟩, HB9.out.2⟩
                      · have HT : Hid (Ck.told l = ([], 0, false, 10)) := Lib.hid (HAt.out.err (by decide) (HT2.out (.inl h13)))
                        obtain ⟨b1, b2, b3⟩ := ne_oct x0 13 13 rfl h13
                        clear HT1 HT2 h13
                        go_wp2_with fail
                        (try simp only [Exit.inBlock, Exit.then])
                        refine ret_four rfl rfl ?_
                        rw [HT.out]
                        exact ⟨⟨_, rfl, Buf.nil_of HB9.out.2⟩, HB9.out.2⟩
                    · have h2i : (L : Int) < (A2 : Int) + 2 := by omega
                      have HT : Hid (Ck.told l = (acc2, A2, false, 0)) := Lib.hid (by
                        have := HAt.out.more (Ck.tail_more (by rw [← HL.out]; omega))
                        rwa [Ck.isOver_sD] at this)
                      go_wp2_with fail
                      (try simp only [Exit.inBlock, Exit.then])
                      refine ret_four rfl rfl ?_
                      rw [HT.out]
                      exact ⟨⟨_, rfl, HB9.out⟩, HB9.out.2⟩
                  · have hMi : (0 : Int) < M := by omega
                    by_cases h2 : A2 < L
                    · have i0 : (A2 : Int) < L := by omega
                      obtain ⟨b, o, hao, hbl, hcell⟩ := HG.out.resolve_left (fun x => by have := HL.out; rw [x] at this; simp at this; omega)
                      subst hao
                      have k0 : A2 < l.length := by rw [← HL.out]; omega
                      have c0 := (hB.2.cell (p := ⟨b, o + A2, none⟩) hbl).trans (hcell A2 k0)
                      have HN := Lib.hid (HAt.out.next (Ck.data_next (t := t + N) k0 (by omega : 0 < M)))
                      clear hcell
                      generalize l[A2] = x0 at *
                      go_wp2_with (at_builtin; refine app1 hB x0 hacc rfl (.tmp 56) (.tmp 61) rfl _ rfl rfl rfl ?_; intro v' w' hB')
                      go_round
                      case rel => exact ⟨A2 + 1, acc2 ++ [x0], M - 1, by go_num, by first | (congr 1; omega) | (simp; omega), by omega, by omega, HN.out, hB'⟩
                      case measure => simp [intOf]; omega
                    · have i0 : ¬ (A2 : Int) < L := by omega
                      have HT : Hid (Ck.told l = (acc2, A2, false, 0)) := Lib.hid (by
                        have hAL : A2 = l.length := by rw [← HL.out]; omega
                        have := HAt.out.more (by rw [hAL]; exact Ck.data_more)
                        rwa [Ck.isOver_sD] at this)
                      go_wp2_with fail
                      (try simp only [Exit.inBlock, Exit.then])
                      refine ret_four rfl rfl ?_
                      rw [HT.out]
                      exact ⟨⟨_, rfl, HB9.out⟩, HB9.out.2⟩
        · have HT : Hid (Ck.told l = ([], 0, false, (Ck.lineAt (l.drop A)).2.2)) := Lib.hid (HAt.out.err e0 (Ck.size_err e11 e0))
          rw [clres_more rfl e0] at cA
          generalize (Ck.lineAt (l.drop A)).2.2 = er at *
          have b11 : (er == 11) = false := beq_eq_false_iff_ne.2 e11
          have b0 : (er != 0) = true := by rw [bne, beq_eq_false_iff_ne.2 e0]; rfl
          go_wp2_with fail
          refine cA.mono ?_
          rintro e W1 ⟨rfl, rfl⟩
          go_wp2_with fail
          (try simp only [Exit.inBlock, Exit.then])
          refine ret_four rfl rfl ?_
          rw [HT.out]
          exact ⟨⟨_, rfl, Buf.nil_of HB9.out.2⟩, HB9.out.2⟩
  case rest =>
    obtain ⟨A, acc, rfl, hAt, hB⟩ := hcut

    go_wp2_with fail
    go_loopw [7, 13, 14, 15, 16, 17, 18, 19] (fun x7 x13 _ _ _ _ _ _ wr => ∃ (A : Nat) (k : Nat), x7 = .int .i64 A ∧ x13 = .int .i64 k ∧ k ≤ 128 ∧ Ck.At l A acc (.trail k) ∧ Buf w wr u6 acc) (fun x7 _ _ _ _ _ _ _ _ => L - (intOf x7).toNat)
    case atStart => exact ⟨A, 0, rfl, rfl, by decide, hAt, hB⟩
    case round =>
      clear hAt hB
      obtain ⟨A, k, rfl, rfl, hk, hAt, hB⟩ := hrel
      have hA : A ≤ L := by rw [HL.out]; exact hAt.le
      have cA := HCL.out A hA wr hB.2
      have HB9 := Lib.hid hB
      have HAt := Lib.hid hAt
      clear hAt hB
      by_cases e11 : (Ck.lineAt (l.drop A)).2.2 = 11
      · have HT : Hid (Ck.told l = (acc, A, false, 0)) := Lib.hid (HAt.out.more (Ck.trail_more e11))
        rw [clres_more e11 (by decide)] at cA
        clear e11
        go_wp2_with fail
        refine cA.mono ?_
        rintro e W1 ⟨rfl, rfl⟩
        go_wp2_with fail
        (try simp only [Exit.inBlock, Exit.then])
        refine ret_four rfl rfl ?_
        rw [HT.out]
        exact ⟨⟨_, rfl, HB9.out⟩, HB9.out.2⟩
      · by_cases e0 : (Ck.lineAt (l.drop A)).2.2 = 0
        · obtain ⟨n, hn⟩ : ∃ n, (Ck.lineAt (l.drop A)).2.1.toNat = n := ⟨_, rfl⟩
          have hlen := Ck.lineAt_len e0
          rw [hn, List.length_drop, ← HL.out] at hlen
          rw [clres_ok e0 hn (by omega)] at cA
          have HS1 := Lib.hid (fun h => Ck.trail_over (k := k) e0 h)
          have HS2 := Lib.hid (fun h h2 => Ck.trail_form (k := k) e0 h h2)
          have HS3 := Lib.hid (fun h h2 h3 => Ck.trail_many (k := k) e0 h h2 h3)
          have HS4 := Lib.hid (fun h h2 h3 => Ck.trail_next (k := k) e0 h h2 h3)
          rw [hn] at HS1 HS4
          clear e11 e0 hn
          generalize (Ck.lineAt (l.drop A)).1 = s at *
          by_cases hs : s = []
          · have HT : Hid (Ck.told l = (acc, A + n, true, 0)) := Lib.hid (by
              have := HAt.out.next (HS1.out hs)
              rw [List.append_nil] at this
              exact this.more rfl)
            subst hs
            have cA' : Calls Tryz.prog 58 #[.slice ao L cap, .int .i64 A] wr fun e w' => e = .returned (.tuple #[.string ⟨#[]⟩, .int .i64 ((A + n : Nat) : Int), .int .i64 0]) ∧ wr = w' := cA
            clear HS1 HS2 HS3 HS4 cA
            go_wp2_with fail
            refine cA'.mono ?_
            rintro e W1 ⟨rfl, rfl⟩
            go_wp2_with fail
            (try simp only [Exit.inBlock, Exit.then])
            refine ret_four rfl rfl ?_
            rw [HT.out]
            exact ⟨⟨_, rfl, HB9.out⟩, HB9.out.2⟩
          · obtain ⟨X, hX⟩ : ∃ X, X = str s := ⟨_, rfl⟩
            rw [← hX] at cA
            have hne : ¬ X = ⟨#[]⟩ := fun e => hs (by have := congrArg (fun x : ByteArray => x.data.toList) (hX.symm.trans e); simpa [str_list] using this)
            obtain ⟨n1, n2, n3⟩ := nonempty hne
            have hXz : X.size ≤ 254 := by rw [hX, str_size]; omega
            obtain ⟨Y, hY⟩ : ∃ Y : ByteArray, X ++ ⟨#[13, 10, 13, 10]⟩ = Y := ⟨_, rfl⟩
            have hYz : Y.size ≤ 258 := by rw [← hY, ByteArray.size_append]; show _ + 4 ≤ _; omega
            have hYl : Y.data.toList = s ++ [13, 10, 13, 10] := by rw [← hY, app_two, hX, str_list]
            obtain ⟨cc, W2, hcv, hbin, hb2⟩ := octets_text Y wr (by omega)
            rw [hYl] at hbin
            have cP := rParse_w _ _ W2 (by rw [← hYl]; have := Oct.length_size Y; omega) hbin
            have hB2 := HB9.out.after hb2
            obtain ⟨f, hf⟩ : ∃ f, (Fld.parse (s ++ [13, 10, 13, 10])).2.2 = f := ⟨_, rfl⟩
            have hbad : Ck.fieldBad s = decide (f ≠ 0) := by unfold Ck.fieldBad; rw [hf]
            rw [hf] at cP
            generalize (Fld.parse (s ++ [13, 10, 13, 10])).2.1 = fn at *
            generalize (Fld.parse (s ++ [13, 10, 13, 10])).1 = fs at *
            rw [hbad] at HS2 HS3 HS4
            have HY := Lib.hid hYz
            have xs1 : ¬ 9223372036854775807 < X.size + 4 := by omega
            have xs2 : X.size + 4 ≤ 9223372036854775807 := by omega
            clear hX hne hYl hbin hf hbad HS1 hb2
            go_wp2_with fail
            refine cA.mono ?_
            rintro e W1 ⟨rfl, rfl⟩
            go_wp2_with fail
            refine cP.mono ?_
            rintro e W3 ⟨vf, rfl, hF⟩
            have HB9 := Lib.hid (hB2.after hF.2)
            clear cP cA hcv hB2 hF
            by_cases f0 : f = 0
            · subst f0
              by_cases h128 : 128 ≤ k
              · have HT : Hid (Ck.told l = ([], 0, false, 13)) := Lib.hid (HAt.out.err (by decide) (HS3.out hs rfl h128))
                have hki : (128 : Int) ≤ k := by omega
                clear HS2 HS3 HS4
                go_wp2_with fail
                (try simp only [Exit.inBlock, Exit.then])
                refine ret_four rfl rfl ?_
                rw [HT.out]
                exact ⟨⟨_, rfl, Buf.nil_of HB9.out.2⟩, HB9.out.2⟩
              · have HN : Hid (Ck.At l (A + n) acc (.trail (k + 1))) := Lib.hid (by have := HAt.out.next (HS4.out hs rfl h128); rwa [List.append_nil] at this)
                have hki : ¬ (128 : Int) ≤ k := by omega
                clear HS2 HS3 HS4
                go_wp2_with fail
                go_round
                case rel => exact ⟨A + n, k + 1, rfl, by go_num, by omega, HN.out, HB9.out⟩
                case measure => simp [intOf]; omega
            · have HT : Hid (Ck.told l = ([], 0, false, 10)) := Lib.hid (HAt.out.err (by decide) (HS2.out hs (by simpa using f0)))
              have bf : (f != 0) = true := by rw [bne, beq_eq_false_iff_ne.2 f0]; rfl
              clear HS2 HS3 HS4
              go_wp2_with fail
              (try simp only [Exit.inBlock, Exit.then])
              refine ret_four rfl rfl ?_
              rw [HT.out]
              exact ⟨⟨_, rfl, Buf.nil_of HB9.out.2⟩, HB9.out.2⟩
        · have HT : Hid (Ck.told l = ([], 0, false, (Ck.lineAt (l.drop A)).2.2)) := Lib.hid (HAt.out.err e0 (Ck.trail_err e11 e0))
          rw [clres_more rfl e0] at cA
          generalize (Ck.lineAt (l.drop A)).2.2 = er at *
          have b11 : (er == 11) = false := beq_eq_false_iff_ne.2 e11
          have b0 : (er != 0) = true := by rw [bne, beq_eq_false_iff_ne.2 e0]; rfl
          go_wp2_with fail
          refine cA.mono ?_
          rintro e W1 ⟨rfl, rfl⟩
          go_wp2_with fail
          (try simp only [Exit.inBlock, Exit.then])
          refine ret_four rfl rfl ?_
          rw [HT.out]
          exact ⟨⟨_, rfl, Buf.nil_of HB9.out.2⟩, HB9.out.2⟩
end Go.Proofs.YtlbjjeonchcgbaaGreatDoor

namespace Go.Proofs.YtlbjjeonchcgbaaGreatDoor
open Go.RowKit

/-- v reads as a list of octets' lists. -/
def BsIn (w : World) (v : Value) (ls : List (List UInt8)) : Prop := ∃ ao cap, v = .slice ao ls.length cap ∧ ls.length ≤ cap ∧ cap ≤ 9223372036854775807 ∧
  (ls = [] ∨ ∃ b o, ao = some ⟨b, o, none⟩ ∧ b < w.heap.size ∧ ∀ j (hj : j < ls.length), ∃ u, w.cell? ⟨b, o + j, none⟩ = some u ∧ BIn w u ls[j] ∧ NilOk u)
theorem BsIn.later {w w' : World} {v : Value} {ls : List (List UInt8)} (h : BsIn w v ls) (hb : Below w.heap.size w w') : BsIn w' v ls := by
  obtain ⟨ao, cap, hv, h1, h2, h⟩ := h
  refine ⟨ao, cap, hv, h1, h2, ?_⟩
  rcases h with h | ⟨b, o, h1, h2, h3⟩
  · exact .inl h
  · refine .inr ⟨b, o, h1, Nat.lt_of_lt_of_le h2 hb.size, fun j hj => ?_⟩
    obtain ⟨u, hu, hbin, hnil⟩ := h3 j hj
    exact ⟨u, by rw [hb.cell (p := ⟨b, o + j, none⟩) h2]; exact hu, hbin.later hb, hnil⟩
/-- A literal row of octets. -/
theorem bin_lit (w : World) (C : Array Value) (l : List UInt8) (n : Nat) (hn : l.length = n) (hC : C.toList = Lib.byteCells l) (hl : n ≤ 1000000) : BIn (w.alloc (.cells C 5)) (.slice (some ⟨w.heap.size, 0, none⟩) n n) l := by
  refine ⟨_, n, by rw [hn], by rw [hn]; exact Nat.le_refl _, by omega, .inr ⟨w.heap.size, 0, rfl, by simp, fun j hj => ?_⟩⟩
  rw [Nat.zero_add, World.cell?_alloc_at _ _ _ _ rfl, ← Array.getElem?_toList, hC]
  simp [Lib.byteCells, hj]
theorem pre_len (ls : List (List UInt8)) (k : Nat) : ((ls.take k).flatMap Ck.chunkOf).length ≤ (Ck.encode ls).length := by
  unfold Ck.encode
  have : ls.flatMap Ck.chunkOf = (ls.take k).flatMap Ck.chunkOf ++ (ls.drop k).flatMap Ck.chunkOf := by
    conv => lhs; rw [← List.take_append_drop k ls, List.flatMap_append]
  rw [List.length_append, this, List.length_append]; omega
theorem pre_snoc (ls : List (List UInt8)) (k : Nat) (hk : k < ls.length) : (ls.take (k + 1)).flatMap Ck.chunkOf = (ls.take k).flatMap Ck.chunkOf ++ Ck.chunkOf ls[k] := by
  rw [List.take_add_one, List.getElem?_eq_getElem hk, List.flatMap_append]
  simp
theorem chunk_len (p : List UInt8) (h : p ≠ []) : (Ck.chunkOf p).length = (Oct.print p.length 16).length + 2 + p.length + 2 := by
  unfold Ck.chunkOf; rw [if_neg h]; simp; omega

set_option maxHeartbeats 3200000 in
set_option maxRecDepth 100000 in
theorem rEncode_b (v : Value) (ls : List (List UInt8)) (w : World) (hE : (Ck.encode ls).length ≤ 10000000) (h : BsIn w v ls) :
    Calls Tryz.prog 46 #[v] w fun e w' => (∃ u, e = .returned u ∧ Buf w w' u (Ck.encode ls)) ∧ Below w.heap.size w w' := by
  obtain ⟨ao, cap, rfl, hlc, hc9, hg⟩ := h
  obtain ⟨L, hL⟩ : ∃ L, L = ls.length := ⟨_, rfl⟩
  have HL := Lib.hid hL
  have HG := Lib.hid hg
  rw [← hL] at hlc ⊢
  have HPL := Lib.hid (pre_len ls)
  clear hL hg
  go_enter Tryz.func46, Tryz.ntmps46
  go_wp2_with fail
  go_loopw [3, 4] (fun x3 x4 wr => ∃ k : Nat, k ≤ L ∧ x4 = .int .i64 k ∧ Buf w wr x3 ((ls.take k).flatMap Ck.chunkOf)) (fun _ x4 _ => L - (intOf x4).toNat)
  case atStart => exact ⟨0, Nat.zero_le _, rfl, Buf.nil w⟩
  case round =>
    obtain ⟨k, hk, rfl, hB⟩ := hrel
    have hk0 : (0 : Int) ≤ k := by omega
    by_cases hlt : k < L
    · have hki : (k : Int) < L := by omega
      obtain ⟨b, o, hao, hbl, hcell⟩ := HG.out.resolve_left (fun x => by have := HL.out; rw [x] at this; simp at this; omega)
      subst hao
      have k0 : k < ls.length := by rw [← HL.out]; exact hlt
      obtain ⟨u, hu, hbin, hnil⟩ := hcell k k0
      have HS := Lib.hid (pre_snoc ls k k0)
      have hP := HPL.out (k + 1)
      rw [HS.out] at hP
      have hCL := chunk_len ls[k]
      clear hcell
      generalize ls[k] = p at *
      have hbin0 := hbin
      obtain ⟨a2, c2, rfl, _, _, _⟩ := hbin
      have c0 := (hB.2.cell (p := ⟨b, o + k, none⟩) hbl).trans hu
      obtain ⟨pl, hpl⟩ : ∃ pl, pl = p.length := ⟨_, rfl⟩
      have HPLE := Lib.hid hpl
      rw [← hpl] at hnil c0 hu
      by_cases hp : p = []
      · have hpl0 : pl = 0 := by rw [hpl, hp]; rfl
        have HS2 : Hid ((ls.take (k + 1)).flatMap Ck.chunkOf = (ls.take k).flatMap Ck.chunkOf) := Lib.hid (by rw [HS.out, hp]; simp [Ck.chunkOf])
        subst hpl0
        clear hP hCL hnil hu HPLE hpl
        go_wp2_with fail
        go_round
        case rel => exact ⟨k + 1, by omega, by go_num, by rw [HS2.out]; exact hB⟩
        case measure => simp [intOf]; omega
      · have hp0 : 0 < pl := by rw [hpl]; exact List.length_pos_iff.2 hp
        have hpb : ((pl : Int) == 0) = false := beq_eq_false_iff_ne.2 (by omega)
        have hbinW := Lib.hid (fun (W : World) (hb : Below w.heap.size w W) => (show BIn w (.slice a2 pl c2) p by rw [hpl]; exact hbin0).later hb)
        rw [List.length_append, hCL hp, ← hpl] at hP
        have cP := fun (W : World) => rPrint_is (pl : Int) 16 _ W (by omega) rfl
        have hDl : (str (Oct.print (pl : Int) 16)).size = (Oct.print (pl : Int) 16).length := str_size _
        have hDd : (str (Oct.print (pl : Int) 16)).data.toList = Oct.print (pl : Int) 16 := str_list _
        have HS2 : Hid ((ls.take (k + 1)).flatMap Ck.chunkOf = (ls.take k).flatMap Ck.chunkOf ++ (str (Oct.print (pl : Int) 16)).data.toList ++ [13, 10] ++ p ++ [13, 10]) := Lib.hid (by
          rw [HS.out, hDd, hpl]; unfold Ck.chunkOf; rw [if_neg hp]; simp only [List.append_assoc])
        generalize (ls.take k).flatMap Ck.chunkOf = pre at *
        generalize hDD : str (Oct.print (pl : Int) 16) = D at *
        have hl1 : pre.length + D.size ≤ 100000000000 := by omega
        have hl2 : (pre ++ D.data.toList).length + ([13, 10] : List UInt8).length ≤ 1000000000 := by rw [hDd]; simp; omega
        have hl3 : (pre ++ D.data.toList ++ [13, 10]).length + p.length ≤ 1000000000 := by rw [hDd, ← hpl]; simp; omega
        have hl4 : (pre ++ D.data.toList ++ [13, 10] ++ p).length + ([13, 10] : List UInt8).length ≤ 1000000000 := by rw [hDd]; simp; omega
        clear hP hCL HS hDl hDd hDD HPLE hpl
        go_upto_region 7 with (first
          | (go_at_call 70; refine (cP _).mono ?_; rintro e W1 ⟨rfl, hb1⟩; have hB1 := hB.after hb1)
          | (at_builtin; refine appStr hB1 D hl1 rfl (.tmp 17) (.tmp 23) rfl rfl rfl ?_; intro v2 W2 hB2))
        clear c0 hB hB1 hb1 cP
        go_upto_region 8 with (at_builtin; refine appBs (hB2.alloc _) (bin_lit W2 #[.int .u8 13, .int .u8 10] [13, 10] 2 rfl rfl (by decide)) (nil_ok _ _ _) hl2 rfl (.tmp 25) (.tmp 26) rfl rfl rfl ?_; intro v3 W3 hB3 _)
        have c3 := (hB3.2.cell (p := ⟨b, o + k, none⟩) hbl).trans hu
        go_upto_region 9 with (at_builtin; refine appBs hB3 (hbinW.out W3 hB3.2) hnil hl3 rfl (.tmp 28) (.tmp 32) rfl rfl rfl ?_; intro v4 W4 hB4 _)
        clear c3 hB2 hB3
        go_wp2_with (at_builtin; refine appBs (hB4.alloc _) (bin_lit W4 #[.int .u8 13, .int .u8 10] [13, 10] 2 rfl rfl (by decide)) (nil_ok _ _ _) hl4 rfl (.tmp 34) (.tmp 35) rfl rfl rfl ?_; intro v5 W5 hB5 _)
        go_round
        case rel => exact ⟨k + 1, by omega, by go_num, by rw [HS2.out]; exact hB5⟩
        case measure => simp [intOf]; omega
    · have hki : ¬ (k : Int) < L := by omega
      have hkL : ls.take k = ls := List.take_of_length_le (by rw [← HL.out]; omega)
      rw [hkL] at hB
      have hlE : (ls.flatMap Ck.chunkOf).length + ([48, 13, 10, 13, 10] : List UInt8).length ≤ 1000000000 := by
        have : (Ck.encode ls).length = (ls.flatMap Ck.chunkOf).length + 5 := by unfold Ck.encode; rw [List.length_append]; rfl
        show _ + 5 ≤ _; omega
      clear hkL
      go_wp2_with (at_builtin; refine appBs (hB.alloc _) (bin_lit wr #[.int .u8 48, .int .u8 13, .int .u8 10, .int .u8 13, .int .u8 10] [48, 13, 10, 13, 10] 5 rfl rfl (by decide)) (nil_ok _ _ _) hlE rfl (.tmp 37) (.tmp 38) rfl rfl rfl ?_; intro v5 W5 hB5 _)
      go_ret
      exact ⟨⟨_, rfl, hB5⟩, hB5.2⟩
theorem rEncode_w (v : Value) (ls : List (List UInt8)) (w : World) (hE : (Ck.encode ls).length ≤ 10000000) (h : BsIn w v ls) :
    Calls Tryz.prog 46 #[v] w fun e w' => (∃ u, e = .returned u ∧ BIn w' u (Ck.encode ls) ∧ NilOk u) ∧ Below w.heap.size w w' :=
  (rEncode_b v ls w hE h).mono fun _ _ ⟨⟨u, he, hu⟩, hb⟩ => ⟨⟨u, he, hu.in_⟩, hb⟩
end Go.Proofs.YtlbjjeonchcgbaaGreatDoor
