/- The document's own answer for package chunk: what a size line says. -/
import Derived.Test.YtgnopcghobaoiaaDoorCk2
namespace Go.Proofs.YtgnopcghobaoiaaDoor
open Go.RowKit

theorem nonempty {a : ByteArray} (h : ¬ a = ⟨#[]⟩) : ¬ a.toList = [] ∧ (a.toList == []) = false ∧ (a.toList != []) = true :=
  list_no (fun e => h (str_eq e))
theorem number_one (c : UInt8) : Oct.number 16 15 [c] = if Oct.dig 16 c then ((Oct.worth c : Int), 0) else (0, 10) := by
  unfold Oct.number Oct.allOf
  cases hd : Oct.dig 16 c with
  | false => simp [hd]
  | true =>
    have hw : Oct.worth c < 16 := by unfold Oct.dig at hd; simpa using hd
    simp only [hd, List.all_cons, List.all_nil, Bool.and_true, Bool.true_eq_false, List.cons_ne_nil, or_self, if_false, if_true]
    rw [if_neg (by decide)]
    simp only [Oct.num]
    rw [if_neg (by omega)]
    simp
/-- The digits ahead. -/
theorem digits_facts (s : ByteArray) : ∃ N, N = (Ck.digits s.data.toList).length ∧ N ≤ s.size ∧ N ≤ 8 ∧ Ck.digits s.data.toList = s.data.toList.take N ∧ (∀ k (hk : k < s.size), k < N → Oct.dig 16 s[k] = true) ∧ (∀ hk : N < s.size, N < 8 → Oct.dig 16 s[N] = false) := by
  have hz : s.data.toList.length = s.size := Oct.length_size s
  unfold Ck.digits
  have hpre : ∀ (p : UInt8 → Bool) (l : List UInt8), l.takeWhile p = l.take (l.takeWhile p).length ∧ (∀ k (hk : k < l.length), k < (l.takeWhile p).length → p l[k] = true) ∧ (∀ hk : (l.takeWhile p).length < l.length, p l[(l.takeWhile p).length] = false) := by
    intro p l
    induction l with
    | nil => simp
    | cons c t ih =>
      cases hc : p c with
      | false => simp [List.takeWhile, hc]
      | true =>
        simp only [List.takeWhile, hc, List.length_cons, List.take_succ_cons]
        refine ⟨by rw [← ih.1], ?_, ?_⟩
        · intro k hk hk2
          cases k with
          | zero => simpa using hc
          | succ k => simpa using ih.2.1 k (by simpa using hk) (by omega)
        · intro hk
          simpa using ih.2.2 (by simpa using hk)
  obtain ⟨h1, h2, h3⟩ := hpre (Oct.dig 16) (s.data.toList.take 8)
  have hle : ((s.data.toList.take 8).takeWhile (Oct.dig 16)).length ≤ (s.data.toList.take 8).length := by
    have := congrArg List.length h1
    rw [List.length_take] at this; omega
  rw [List.length_take, hz] at hle
  generalize hn : ((s.data.toList.take 8).takeWhile (Oct.dig 16)).length = n at *
  refine ⟨n, rfl, by omega, by omega, by rw [h1, List.take_take, Nat.min_eq_left (by omega)], ?_, ?_⟩
  · intro k hk hkn
    have := h2 k (by rw [List.length_take]; omega) hkn
    rw [List.getElem_take] at this
    have e : s.data.toList[k]'(by omega) = s[k] := by
      have := Lib.data_getElem? s k hk
      rw [List.getElem?_eq_getElem (by omega)] at this; exact Option.some.inj this
    rwa [e] at this
  · intro hk h8
    have := h3 (by rw [List.length_take]; omega)
    rw [List.getElem_take] at this
    have e : s.data.toList[n]'(by omega) = s[n] := by
      have := Lib.data_getElem? s n hk
      rw [List.getElem?_eq_getElem (by omega)] at this; exact Option.some.inj this
    rwa [e] at this
theorem one_text (s : ByteArray) (k : Nat) (hk : k < s.size) : (s.extract k (k + 1)).data.toList = [s[k]] := by
  rw [cut_mid]
  have h := Lib.data_getElem? s k hk
  rw [List.take_add_one, h, List.drop_append_of_le_length (by rw [List.length_take]; have := Oct.length_size s; omega), List.drop_of_length_le (by rw [List.length_take]; omega)]
  rfl
theorem drop_blank (r : ByteArray) (h : 0 < r.size) (hb : Ck.blank r[0] = true) : r.data.toList.dropWhile Ck.blank = (r.extract 1 r.size).data.toList.dropWhile Ck.blank := by
  rw [Oct.cons_first r h, ext_tail r r.data.toList 1 rfl]
  simp [List.dropWhile, hb]
theorem drop_other (r : ByteArray) (h : 0 < r.size) (hb : Ck.blank r[0] = false) : r.data.toList.dropWhile Ck.blank = r.data.toList := by
  rw [Oct.cons_first r h]
  simp [List.dropWhile, hb]
theorem drop_none (r : ByteArray) (h : ¬ 0 < r.size) : r.data.toList.dropWhile Ck.blank = r.data.toList := by
  rw [Oct.empty_list r h]; rfl
theorem ext_some {l : List UInt8} (h : l ≠ []) : Ck.ext l = match l.dropWhile Ck.blank with | [] => false | c :: t => decide (c = 59) && Oct.allOf Oct.plain t := by
  unfold Ck.ext
  split
  · exact absurd rfl h
  · rfl
theorem blank_int (c : UInt8) : Ck.blank c = (decide ((c.toNat : Int) = 32) || decide ((c.toNat : Int) = 9)) := by
  have h : ∀ (n : UInt8) (m : Int), m = n.toNat → decide (c = n) = decide ((c.toNat : Int) = m) := fun n m hm => by
    apply decide_eq_decide.2
    constructor
    · rintro rfl; omega
    · intro e; exact UInt8.toNat_inj.1 (by omega)
  unfold Ck.blank
  rw [h 32 32 rfl, h 9 9 rfl]

theorem plain_snoc (r : ByteArray) (k : Nat) (hk : k < r.size) (h1 : 1 ≤ k) : Oct.allOf Oct.plain ((r.data.toList.take (k + 1)).drop 1) = (Oct.allOf Oct.plain ((r.data.toList.take k).drop 1) && Oct.plain r[k]) := by
  have h := Lib.data_getElem? r k hk
  rw [List.take_add_one, h, List.drop_append_of_le_length (by rw [List.length_take]; have := Oct.length_size r; omega)]
  unfold Oct.allOf
  simp
theorem plain_miss (r : ByteArray) (k : Nat) (hk : k < r.size) (h1 : 1 ≤ k) (hp : Oct.plain r[k] = false) : Oct.allOf Oct.plain (r.data.toList.drop 1) = false := by
  unfold Oct.allOf
  rw [List.all_eq_false]
  refine ⟨r[k], ?_, by rw [hp]; simp⟩
  have h := Lib.data_getElem? r k hk
  refine List.mem_of_getElem? (i := k - 1) ?_
  rw [List.getElem?_drop, show 1 + (k - 1) = k by omega, h]

set_option maxHeartbeats 3200000 in
set_option maxRecDepth 100000 in
theorem rsize_s (s : ByteArray) (w : World) (hs : s.size ≤ 1000000) :
    Calls Tryd.prog 16 #[.string s] w fun e w' => e = .returned (.int .i64 (Ck.sizeOf s.data.toList)) ∧ w = w' := by
  obtain ⟨N, hN, hNs, hN8, hNd, hN1, hN2⟩ := digits_facts s
  obtain ⟨n, er, hn⟩ : ∃ n er, Oct.number 16 4294967295 (s.data.toList.take N) = (n, er) := ⟨_, _, rfl⟩
  have HV : Hid (Ck.sizeOf s.data.toList = if er ≠ 0 then -1 else if Ck.ext (s.data.toList.drop N) then n else -1) := by
    unfold Ck.sizeOf; rw [← hN, hNd, hn]; exact Lib.hid rfl
  have cO := fun (k : Nat) (hk : k < s.size) (a e : Int) (h : Oct.number 16 15 [s[k]] = (a, e)) (W : World) => rHex_is (s.extract k (k + 1)) 15 a e W (by rw [Lib.size_eq, one_text s k hk]; simp) (by omega) (by omega) (by rw [one_text s k hk]; exact h)
  have cN := fun (W : World) => rHex_is (s.extract 0 N) 4294967295 n er W (by simp; omega) (by omega) (by omega) (by rw [cut_mid, List.drop_zero]; exact hn)
  have hRl := ext_tail s s.data.toList N rfl
  have hRz : (s.extract N s.size).size ≤ 1000000 := by simp; omega
  have HN1 := Lib.hid hN1
  have HN2 := Lib.hid hN2
  have HO := Lib.hid (fun (k : Nat) (hk : k < s.size) => number_one s[k])
  obtain ⟨X, hX⟩ : ∃ X, X = s.extract 0 N := ⟨_, rfl⟩
  obtain ⟨R, hR⟩ : ∃ R, R = s.extract N s.size := ⟨_, rfl⟩
  have HX := Lib.hid hX
  have HR := Lib.hid hR
  have HCN := Lib.hid cN
  have HCO := Lib.hid cO
  clear hN hNd hN1 hN2 hn cN cO hX
  rw [← hR] at hRl hRz
  rw [← hRl] at HV
  clear hR hRl
  generalize Ck.sizeOf s.data.toList = Z at *
  have hN0 : (0 : Int) ≤ N := by omega
  have hNsi : (N : Int) ≤ s.size := by omega
  go_enter Tryd.func16, Tryd.ntmps16
  go_upto_block 0 with fail
  go_cut [3, 4, 5] from 10 to 30 (fun x3 _ _ wx => x3 = .int .i64 N ∧ w = wx)
  case first =>
    go_wp2_with fail
    go_loop [3, 4, 5] (fun i _ _ => ∃ k : Nat, k ≤ N ∧ i = .int .i64 k) (fun i _ _ => N - (intOf i).toNat)
    case atStart => exact ⟨0, by omega, rfl⟩
    case round =>
      obtain ⟨k, hk, rfl⟩ := hrel
      have hk0 : (0 : Int) ≤ k := by omega
      by_cases hlt : k < N
      · have hks : k < s.size := by omega
        have hki : (k : Int) < s.size := by omega
        have hk8 : (k : Int) < 8 := by omega
        have hk1 : (k : Int) + 1 ≤ s.size := by omega
        have cC := fun (W : World) => HCO.out k hks (Oct.worth s[k]) 0 (by rw [HO.out k hks, HN1.out k hks hlt]; rfl) W
        have cC' : ∀ (W : World), Calls Tryd.prog 22 #[.string (s.extract k (k + 1)), .int .i64 16, .int .i64 15] W fun r w' => r = .returned (.tuple #[.int .i64 (Oct.worth s[k] : Int), .int .i64 0]) ∧ W = w' := cC
        clear cC
        go_wp2_with fail
        refine (cC' _).mono ?_
        rintro e W1 ⟨rfl, rfl⟩
        go_wp2_with fail
        go_round
        case rel => exact ⟨k + 1, by omega, by go_num⟩
        case measure => simp [intOf]; omega
      · obtain rfl : k = N := by omega
        by_cases hks : k < s.size
        · have hki : (k : Int) < s.size := by omega
          by_cases h8 : k < 8
          · have hk8 : (k : Int) < 8 := by omega
            have hk1 : (k : Int) + 1 ≤ s.size := by omega
            have cC := fun (W : World) => HCO.out k hks 0 10 (by rw [HO.out k hks, HN2.out hks h8]; rfl) W
            go_wp2_with fail
            refine (cC _).mono ?_
            rintro e W1 ⟨rfl, rfl⟩
            go_wp2_with fail
            go_meet
            case rel => exact ⟨rfl, rfl⟩
          · have hk8 : ¬ (k : Int) < 8 := by omega
            go_wp2_with fail
            go_meet
            case rel => exact ⟨rfl, rfl⟩
        · have hki : ¬ (k : Int) < s.size := by omega
          go_wp2_with fail
          go_meet
          case rel => exact ⟨rfl, rfl⟩
  case rest =>
    obtain ⟨rfl, rfl⟩ := hcut
    have cN := HCN.out w
    go_wp2_with fail
    refine cN.mono ?_
    rintro e W1 ⟨rfl, rfl⟩
    by_cases he : er = 0
    · subst he
      have HW : Hid (Z = if Ck.ext R.data.toList then n else -1) := by rw [HV.out, if_neg (by decide)]; exact Lib.hid rfl
      clear HV cN HCN HCO HO HN1 HN2 HX
      go_upto_region 10 with fail
      rw [← HR.out]
      clear HR hN0 hNsi hNs hN8 hs
      by_cases h0 : 0 < R.size
      · have hne : ¬ R = ⟨#[]⟩ := fun e => by rw [e] at h0; exact absurd h0 (by decide)
        obtain ⟨n1, n2, n3⟩ := nonempty hne
        have hRn : R.data.toList ≠ [] := fun e => hne (str_eq e)
        have HW2 : Hid (Z = if (match R.data.toList.dropWhile Ck.blank with | [] => false | c :: t => decide (c = 59) && Oct.allOf Oct.plain t) then n else -1) := by rw [HW.out, ext_some hRn]; exact Lib.hid rfl
        clear HW
        go_upto_block 2 with fail
        go_cut [8] from 46 to 60 (fun x8 wx => (∃ r : ByteArray, x8 = .string r ∧ r.size ≤ 1000000 ∧ r.data.toList = R.data.toList.dropWhile Ck.blank) ∧ w = wx)
        case first =>
          clear n1 n2 n3
          go_wp2_with fail
          go_loop [8] (fun x => ∃ r : ByteArray, x = .string r ∧ r.size ≤ 1000000 ∧ Hid (r.data.toList.dropWhile Ck.blank = R.data.toList.dropWhile Ck.blank)) (fun x => (match x with | .string r => r.size | _ => 0))
          case atStart => exact ⟨R, rfl, hRz, Lib.hid rfl⟩
          case round =>
            obtain ⟨r, rfl, hrz, HD⟩ := hrel
            by_cases hr0 : 0 < r.size
            · have hri : (0 : Int) < r.size := by omega
              have hr1 : (1 : Int) ≤ r.size := by omega
              have HB := Lib.hid (drop_blank r hr0)
              have HO := Lib.hid (drop_other r hr0)
              have HI := Lib.hid (blank_int r[0])
              by_cases h32 : (r[0].toNat : Int) = 32
              · have HD2 : Hid ((r.extract 1 r.size).data.toList.dropWhile Ck.blank = R.data.toList.dropWhile Ck.blank) := by
                  rw [← HB.out (by rw [HI.out, decide_eq_true h32]; rfl)]; exact HD
                clear HB HO HI
                go_wp2_with fail
                go_round
                case rel => exact ⟨_, rfl, by simp; omega, HD2⟩
                case measure => simp; omega
              · by_cases h9 : (r[0].toNat : Int) = 9
                · have HD2 : Hid ((r.extract 1 r.size).data.toList.dropWhile Ck.blank = R.data.toList.dropWhile Ck.blank) := by
                    rw [← HB.out (by rw [HI.out, decide_eq_true h9, Bool.or_true])]; exact HD
                  have b32 : ((r[0].toNat : Int) == 32) = false := beq_eq_false_iff_ne.2 h32
                  clear HB HO HI
                  go_wp2_with fail
                  go_round
                  case rel => exact ⟨_, rfl, by simp; omega, HD2⟩
                  case measure => simp; omega
                · have HD2 : Hid (r.data.toList = R.data.toList.dropWhile Ck.blank) := by
                    rw [← HO.out (by rw [HI.out, decide_eq_false h32, decide_eq_false h9]; rfl)]; exact HD
                  have b32 : ((r[0].toNat : Int) == 32) = false := beq_eq_false_iff_ne.2 h32
                  have b9 : ((r[0].toNat : Int) == 9) = false := beq_eq_false_iff_ne.2 h9
                  clear HB HO HI
                  go_wp2_with fail
                  go_meet
                  case rel => exact ⟨⟨_, rfl, hrz, HD2.out⟩, rfl⟩
            · have hri : ¬ (0 : Int) < r.size := by omega
              have HD2 : Hid (r.data.toList = R.data.toList.dropWhile Ck.blank) := by
                rw [← drop_none r hr0]; exact HD
              go_wp2_with fail
              go_meet
              case rel => exact ⟨⟨_, rfl, hrz, HD2.out⟩, rfl⟩
        case rest =>
          obtain ⟨⟨r, rfl, hrz, hrd⟩, rfl⟩ := hcut
          rw [← hrd] at HW2
          clear hrd n1 n2 n3 hne hRn h0 hRz
          by_cases hr0 : 0 < r.size
          · have hri : (0 : Int) < r.size := by omega
            have hrne : ¬ r = ⟨#[]⟩ := fun e => by rw [e] at hr0; exact absurd hr0 (by decide)
            obtain ⟨n1, n2, n3⟩ := nonempty hrne
            rw [Oct.cons_first r hr0] at HW2
            by_cases h59 : r[0] = 59
            · have HW3 : Hid (Z = if Oct.allOf Oct.plain (r.data.toList.drop 1) then n else -1) := by
                rw [HW2.out, h59]; exact Lib.hid rfl
              have i59 : (r[0].toNat : Int) = 59 := by rw [h59]; rfl
              have cP := fun (k : Nat) (hk : k < r.size) (W : World) => rPlain_c r[k] W
              have HAll := Lib.hid (plain_snoc r)
              have HMiss := Lib.hid (plain_miss r)
              have b59 : ((r[0].toNat : Int) != 59) = false := by rw [bne, i59]; rfl
              have hr1 : 1 ≤ r.size := hr0
              clear HW2 hrne h59
              go_wp2_with fail
              go_loop [9] (fun i => ∃ k : Nat, 1 ≤ k ∧ k ≤ r.size ∧ i = .int .i64 k ∧ Hid (Oct.allOf Oct.plain ((r.data.toList.take k).drop 1) = true)) (fun i => r.size - (intOf i).toNat)
              case atStart => exact ⟨1, Nat.le_refl _, hr1, rfl, Lib.hid (by rw [List.drop_of_length_le (by rw [List.length_take]; omega)]; rfl)⟩
              case round =>
                obtain ⟨k, hk1, hk, rfl, HA⟩ := hrel
                have hk0 : (0 : Int) ≤ k := by omega
                by_cases hlt : k < r.size
                · have hki : (k : Int) < r.size := by omega
                  have cC := cP k hlt
                  cases hp : Oct.plain r[k] with
                  | true =>
                    rw [hp] at cC
                    have HA2 : Hid (Oct.allOf Oct.plain ((r.data.toList.take (k + 1)).drop 1) = true) := by
                      rw [HAll.out k hlt hk1, HA.out, hp]; exact Lib.hid rfl
                    clear hp
                    go_wp2_with fail
                    refine (cC _).mono ?_
                    rintro e W1 ⟨rfl, rfl⟩
                    go_wp2_with fail
                    go_round
                    case rel => exact ⟨k + 1, by omega, by omega, by go_num, HA2⟩
                    case measure => simp [intOf]; omega
                  | false =>
                    rw [hp] at cC
                    have HW4 : Hid (Z = -1) := Lib.hid (HW3.out.trans (by rw [HMiss.out k hlt hk1 hp]; rfl))
                    clear hp
                    go_wp2_with fail
                    refine (cC _).mono ?_
                    rintro e W1 ⟨rfl, rfl⟩
                    go_wp2_with fail
                    go_ret
                    exact ⟨ret_int HW4.out.symm, rfl⟩
                · have hki : ¬ (k : Int) < r.size := by omega
                  have HW4 : Hid (Z = n) := Lib.hid (HW3.out.trans (by rw [← Oct.take_all r k (by omega), HA.out]; rfl))
                  go_wp2_with fail
                  go_ret
                  exact ⟨ret_int HW4.out.symm, rfl⟩
            · have HW3 : Hid (Z = -1) := Lib.hid (HW2.out.trans (by simp [h59]))
              obtain ⟨b1, b2, b3⟩ := ne_oct r[0] 59 59 rfl h59
              clear HW2 h59
              go_wp2_with fail
              go_ret
              exact ⟨ret_int HW3.out.symm, rfl⟩
          · have HW3 : Hid (Z = -1) := by rw [HW2.out, Oct.empty_list r hr0]; exact Lib.hid rfl
            have hre : r = ⟨#[]⟩ := str_eq (Oct.empty_list r hr0)
            subst hre
            go_wp2_with fail
            go_ret
            exact ⟨ret_int HW3.out.symm, rfl⟩
      · have hRe : R = ⟨#[]⟩ := str_eq (Oct.empty_list R h0)
        subst hRe
        have HW2 : Hid (Z = n) := by rw [HW.out]; exact Lib.hid rfl
        clear HW
        go_wp2_with fail
        go_ret
        exact ⟨ret_int HW2.out.symm, rfl⟩
    · have HW : Hid (Z = -1) := by rw [HV.out, if_pos he]; exact Lib.hid rfl
      have be : (er != 0) = true := by rw [bne, beq_eq_false_iff_ne.2 he]; rfl
      go_wp2_with fail
      go_ret
      exact ⟨ret_int HW.out.symm, rfl⟩
end Go.Proofs.YtgnopcghobaoiaaDoor
