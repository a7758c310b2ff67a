/- What lies below, out of the texts of the layers under this one: Tg20, Tg21, Tg22, Tg23, Tg24, Tg25, Tg26, Tg27, Tg28, Tg29. -/
import Derived.Test.YtoanelobggledaaGreatDoorVTgMathE
import Derived.Test.YtoanelobggledaaGreatDoorVTg
import Derived.Deep.RegionHeld3
namespace Go.Proofs.YtoanelobggledaaGreatDoor
open Go.RowKit

theorem free_int (c : UInt8) : Tg.free c = ((decide (97 ≤ (c.toNat : Int)) && decide ((c.toNat : Int) ≤ 122)) || (decide (65 ≤ (c.toNat : Int)) && decide ((c.toNat : Int) ≤ 90)) || (decide (48 ≤ (c.toNat : Int)) && decide ((c.toNat : Int) ≤ 57)) || (c.toNat : Int) == 45 || (c.toNat : Int) == 46 || (c.toNat : Int) == 95 || (c.toNat : Int) == 126) := by
  unfold Tg.free
  rw [Oct.alnum_int, Oct.nat8 c 45, Oct.nat8 c 46, Oct.nat8 c 95, Oct.nat8 c 126]; rfl
set_option maxHeartbeats 1600000 in
theorem rfree_c (c : UInt8) (w : World) :
    Calls Tryz.prog 214 #[.int .u8 c.toNat] w fun e w' => e = .returned (.bool (Tg.free c)) ∧ w = w' := by
  have hc := c.toNat_lt
  have HF := Lib.hid (free_int c)
  have hr : ((c.toNat : Int) < 48) ∨ (48 ≤ (c.toNat : Int) ∧ (c.toNat : Int) ≤ 57) ∨ (57 < (c.toNat : Int) ∧ (c.toNat : Int) < 65) ∨ (65 ≤ (c.toNat : Int) ∧ (c.toNat : Int) ≤ 90) ∨ (90 < (c.toNat : Int) ∧ (c.toNat : Int) < 97) ∨ (97 ≤ (c.toNat : Int) ∧ (c.toNat : Int) ≤ 122) ∨ (122 < (c.toNat : Int)) := by omega
  rcases hr with h1 | ⟨h1, h2⟩ | ⟨h1, h2⟩ | ⟨h1, h2⟩ | ⟨h1, h2⟩ | ⟨h1, h2⟩ | h1
  all_goals
    go_enter Tryz.func214, Tryz.ntmps214
    go_wp2
  all_goals go_ret
  all_goals exact ⟨ret_bool (by rw [HF.out, Bool.eq_iff_iff] <;> first | (simp; done) | (simp; omega)), rfl⟩
def has (l : List UInt8) (c : UInt8) : Bool := l.contains c
set_option maxHeartbeats 800000 in
theorem among_c (c : UInt8) (s : ByteArray) (w : World) (hs : s.size ≤ 1000000) :
    Calls Tryz.prog 215 #[.int .u8 c.toNat, .string s] w fun e w' => e = .returned (.bool (has s.data.toList c)) ∧ w = w' := by
  have hS : ∀ k (hk : k < s.size), s.data.toList[k]? = some s[k] := fun k hk => Lib.data_getElem? s k hk
  have HS := Lib.hid hS
  clear hS
  go_enter Tryz.func215, Tryz.ntmps215
  go_wp2_with fail
  go_loop [5] (fun i => ∃ k : Nat, k ≤ s.size ∧ i = .int .i64 k ∧ Hid (has (s.data.toList.take k) c = false)) (fun i => s.size - (intOf i).toNat)
  case atStart => exact ⟨0, by omega, rfl, Lib.hid rfl⟩
  case round =>
    obtain ⟨k, hk, rfl, HA⟩ := hrel
    by_cases hlt : k < s.size
    · have ht := Oct.take_snoc s k hlt
      by_cases hc : s[k] = c
      · have b1 : ((s[k].toNat : Int) == (c.toNat : Int)) = true := by rw [hc]; exact beq_self_eq_true _
        have HR : Hid (has s.data.toList c = true) := Lib.hid (List.contains_iff_mem.2 (by rw [← hc]; exact List.mem_of_getElem? (HS.out k hlt)))
        clear hc ht
        go_wp2_with fail
        all_goals go_ret
        all_goals exact ⟨ret_bool HR.out.symm, rfl⟩
      · have b1 : ((s[k].toNat : Int) == (c.toNat : Int)) = false := beq_eq_false_iff_ne.2 (fun e => hc (UInt8.toNat_inj.1 (by omega)))
        have HA2 : Hid (has (s.data.toList.take (k + 1)) c = false) := by
          rw [ht]
          have h := HA.out
          refine Lib.hid ?_
          unfold has at h ⊢
          rw [Bool.eq_false_iff] at h ⊢
          intro h2
          apply h
          rw [List.contains_iff_mem] at h2 ⊢
          rcases List.mem_append.1 h2 with h3 | h3
          · exact h3
          · rw [List.mem_singleton] at h3; exact absurd h3.symm hc
        clear hc ht
        go_wp2_with fail
        go_round
        case rel => exact ⟨k + 1, by omega, by go_num, HA2⟩
        case measure => simp [intOf]; omega
    · have HE := Lib.hid (Oct.take_all s k (by omega))
      go_wp2_with fail
      go_ret
      exact ⟨ret_bool (by rw [← HA.out, HE.out]), rfl⟩
theorem number_one (c : UInt8) : Oct.number 16 15 [c] = if Tg.hexd c then ((Oct.digit c : Int), 0) else (0, 10) := by
  have ed : Oct.dig 16 c = Tg.hexd c := rfl
  unfold Oct.number
  by_cases hh : Tg.hexd c = true
  · rw [if_pos hh]
    have h1 := Tg.hexd_lt hh
    have : Oct.allOf (Oct.dig 16) [c] = true := by simp [Oct.allOf, ed, hh]
    rw [this, if_neg (by simp), if_neg (by decide)]
    simp only [Oct.num]
    rw [if_neg (by omega)]
    rcases Oct.digit_worth c with ⟨h2, _⟩ | ⟨h2, _⟩
    · simp [h2]
    · omega
  · rw [if_neg hh]
    have : Oct.allOf (Oct.dig 16) [c] = false := by simp [Oct.allOf, ed]; simpa using hh
    rw [this, if_pos (by simp)]
theorem hexd_digit (c : UInt8) : (Tg.hexd c = true ∧ Oct.digit c = Oct.worth c ∧ Oct.worth c < 16) ∨ (Tg.hexd c = false ∧ Oct.digit c = 99) := by
  rcases Oct.digit_worth c with ⟨h1, h2⟩ | ⟨h1, h2⟩
  · exact .inl ⟨by unfold Tg.hexd; exact decide_eq_true h2, h1.symm, h2⟩
  · exact .inr ⟨by unfold Tg.hexd; exact decide_eq_false (by omega), h2⟩
set_option maxHeartbeats 800000 in
theorem hexa_c (c : UInt8) (w : World) :
    Calls Tryz.prog 213 #[.int .u8 c.toNat] w fun e w' => e = .returned (.int .i64 (Oct.digit c)) ∧ Below w.heap.size w w' := by
  have hB := fun (W : World) => (Buf.one (Below.refl W.heap.size W) c c.toNat rfl).string
  have hn := number_one c
  rcases hexd_digit c with ⟨h1, h2, h3⟩ | ⟨h1, h2⟩
  · rw [h1, if_pos rfl] at hn
    have cN := fun (W : World) => rHex_is (str [c]) 15 (Oct.digit c) 0 W (by rw [str_size]; simp) (by decide) (by decide) (by rw [str_list]; exact hn)
    clear hn h1 h2 h3
    generalize str [c] = x at *
    go_enter Tryz.func213, Tryz.ntmps213
    go_wp2_with fail
    refine (cN _).mono ?_
    rintro e w1 ⟨rfl, rfl⟩
    go_wp2_with fail
    go_ret
    exact ⟨rfl, (Below.refl _ _).alloc (Nat.le_refl _) _⟩
  · rw [h1, if_neg (by decide)] at hn
    have cN := fun (W : World) => rHex_is (str [c]) 15 0 10 W (by rw [str_size]; simp) (by decide) (by decide) (by rw [str_list]; exact hn)
    clear hn h1
    have HD := Lib.hid h2
    clear h2
    generalize str [c] = x at *
    go_enter Tryz.func213, Tryz.ntmps213
    go_wp2_with fail
    refine (cN _).mono ?_
    rintro e w1 ⟨rfl, rfl⟩
    go_wp2_with fail
    go_ret
    exact ⟨ret_int (by rw [HD.out]; rfl), (Below.refl _ _).alloc (Nat.le_refl _) _⟩
end Go.Proofs.YtoanelobggledaaGreatDoor

namespace Go.Proofs.YtoanelobggledaaGreatDoor
open Go.RowKit

theorem ne8 (c n : UInt8) (m : Int) (hm : m = n.toNat) (h : c ≠ n) : ((c.toNat : Int) != m) = true := by
  rw [bne, beq_eq_false_iff_ne.2 (fun e => h (UInt8.toNat_inj.1 (by omega)))]; rfl
theorem nq8 (c n : UInt8) (m : Int) (hm : m = n.toNat) (h : c ≠ n) : ((c.toNat : Int) == m) = false :=
  beq_eq_false_iff_ne.2 (fun e => h (UInt8.toNat_inj.1 (by omega)))
theorem take_one {D : List UInt8} {k : Nat} {x : UInt8} (h1 : 1 ≤ k) (h : D[k - 1]? = some x) : D.take k = D.take (k - 1) ++ [x] := by
  obtain ⟨j, rfl⟩ : ∃ j, k = j + 1 := ⟨k - 1, by omega⟩
  obtain ⟨h2, h3⟩ := List.getElem?_eq_some_iff.1 h
  have h4 : j < D.length := by simpa using h2
  have h5 : D[j] = x := by simpa using h3
  rw [List.take_succ_eq_append_getElem h4, h5, Nat.add_sub_cancel]
set_option maxHeartbeats 1600000 in
set_option maxRecDepth 100000 in
theorem rhost_a (t : List UInt8) (w : World) (hl : t.length ≤ 100000) :
    Calls Tryz.prog 171 #[.string (str (91 :: t))] w fun e w' => e = .returned (.bool (Tg.isHost (91 :: t))) ∧ Below w.heap.size w w' := by
  obtain ⟨s, hs⟩ : ∃ s, s = str (91 :: t) := ⟨_, rfl⟩
  have hsd : s.data.toList = 91 :: t := by rw [hs, str_list]
  have hsz : s.size = t.length + 1 := by rw [hs, str_size]; rfl
  rw [← hs]
  have hat : ∀ k (hk : k < s.size), (91 :: t)[k]? = some s[k] := fun k hk => by rw [← hsd]; exact Lib.data_getElem? s k hk
  have h0s : 0 < s.size := by omega
  have i0 : (s[0].toNat : Int) = 91 := by
    have := hat 0 h0s; simp at this; rw [← this]; rfl
  have hp : (0 : Int) < s.size := by omega
  have hs6 : s.size ≤ 100001 := by omega
  by_cases h2 : 2 ≤ t.length
  · have h3 : ¬ ((s.size : Int) < 3) := by omega
    obtain ⟨M, hM⟩ : ∃ M, M = s.size - 1 := ⟨_, rfl⟩
    have hMs : M < s.size := by omega
    have hMi : (s.size : Int) - 1 = (M : Int) := by omega
    have hMw : IntKind.i64.wrap ((s.size : Int) - 1) = (M : Int) := by rw [hMi, IntKind.wrap_i64]; omega
    have hlast : t.getLast? = some s[M] := by
      obtain ⟨j, hj⟩ : ∃ j, M = j + 1 := ⟨M - 1, by omega⟩
      subst hj
      have := hat (j + 1) hMs
      rw [List.getElem?_cons_succ] at this
      rw [List.getLast?_eq_getElem?, show t.length - 1 = j by omega, this]
    by_cases h93 : s[M] = 93
    · have HR : Hid (Tg.isHost (91 :: t) = Oct.allOf Tg.numc t.dropLast) := by
        rw [Tg.isHost_cons, if_pos rfl, hlast, h93, decide_eq_true h2]; exact Lib.hid rfl
      have b93 : ((s[M].toNat : Int) != 93) = false := by rw [h93]; rfl
      have hD : ∀ k (hk : k < s.size), 1 ≤ k → k < M → t.dropLast[k - 1]? = some s[k] := fun k hk h1 h2 => by
        obtain ⟨j, rfl⟩ : ∃ j, k = j + 1 := ⟨k - 1, by omega⟩
        have := hat (j + 1) hk
        rw [List.getElem?_cons_succ] at this
        show t.dropLast[j]? = _
        rw [List.getElem?_dropLast, if_pos (by omega), this]
      have hDl : t.dropLast.length = M - 1 := by rw [List.length_dropLast]; omega
      have HD := Lib.hid hD
      have HDL := Lib.hid hDl
      generalize t.dropLast = D at *
      have hM1 : 1 ≤ M := by omega
      clear hD hDl hs hsd hat hlast h2 hl hM hMi h93 hsz
      go_enter Tryz.func171, Tryz.ntmps171
      go_wp2_with fail
      go_loopw [3] (fun i wr => ∃ k : Nat, 1 ≤ k ∧ k ≤ M ∧ i = .int .i64 k ∧ Hid (Oct.allOf Tg.numc (D.take (k - 1)) = true) ∧ Below w.heap.size w wr) (fun i _ => M - (intOf i).toNat)
      case atStart => exact ⟨1, by omega, by omega, rfl, Lib.hid rfl, Below.refl _ _⟩
      case round =>
        obtain ⟨k, hk1, hk, rfl, HA, hb⟩ := hrel
        by_cases hlt : k < M
        · have hks : k < s.size := by omega
          have hdk := HD.out k hks hk1 hlt
          have cX := fun (W : World) => hexa_c s[k] W
          have hkm : ((k : Int) < (M : Int)) := by omega
          have hsn := take_one hk1 hdk
          by_cases hn : Tg.numc s[k] = true
          · have HA2 : Hid (Oct.allOf Tg.numc (D.take (k + 1 - 1)) = true) := by
              rw [show k + 1 - 1 = k by omega, hsn]
              have h := HA.out
              unfold Oct.allOf at h ⊢
              refine Lib.hid ?_
              rw [List.all_append, h]; simp [hn]
            rcases hexd_digit s[k] with ⟨g1, g2, g3⟩ | ⟨g1, g2⟩
            · have b9 : ((Oct.digit s[k] : Int) == 99) = false := beq_eq_false_iff_ne.2 (fun e => by rw [g2] at e; omega)
              clear g2 g3
              generalize (Oct.digit s[k] : Int) = X at *
              clear hdk hsn hn g1
              go_wp2_with fail
              refine (cX _).mono ?_
              rintro e w1 ⟨rfl, hb1⟩
              go_wp2_with fail
              go_roundw
              case rel => exact ⟨k + 1, by omega, by omega, by go_num, HA2, bt' hb hb1⟩
              case measure => simp [intOf]; omega
            · rw [g2] at cX
              have h46 : s[k] = 58 ∨ s[k] = 46 := by
                unfold Tg.numc at hn; rw [g1] at hn; simpa using hn
              rcases h46 with h46 | h46
              · have i1 : (s[k].toNat : Int) = 58 := by rw [h46]; rfl
                rw [i1] at cX
                clear hdk hsn hn g1 g2 h46
                go_wp2_with fail
                refine (cX _).mono ?_
                rintro e w1 ⟨rfl, hb1⟩
                go_wp2_with fail
                go_roundw
                case rel => exact ⟨k + 1, by omega, by omega, by go_num, HA2, bt' hb hb1⟩
                case measure => simp [intOf]; omega
              · have i1 : (s[k].toNat : Int) = 46 := by rw [h46]; rfl
                rw [i1] at cX
                clear hdk hsn hn g1 g2 h46
                go_wp2_with fail
                refine (cX _).mono ?_
                rintro e w1 ⟨rfl, hb1⟩
                go_wp2_with fail
                go_roundw
                case rel => exact ⟨k + 1, by omega, by omega, by go_num, HA2, bt' hb hb1⟩
                case measure => simp [intOf]; omega
          · have HN : Hid (Oct.allOf Tg.numc D = false) := by
              refine Lib.hid ?_
              unfold Oct.allOf
              rw [Bool.eq_false_iff]; intro h
              exact hn (List.all_eq_true.1 h _ (List.mem_of_getElem? hdk))
            have hn2 : Tg.hexd s[k] = false ∧ s[k] ≠ 58 ∧ s[k] ≠ 46 := by
              unfold Tg.numc at hn; simp at hn; exact ⟨hn.1.1, hn.1.2, hn.2⟩
            have g2 : Oct.digit s[k] = 99 := by
              rcases hexd_digit s[k] with ⟨g1, _⟩ | ⟨_, g2⟩
              · rw [hn2.1] at g1; cases g1
              · exact g2
            have b1 : ((s[k].toNat : Int) != 58) = true := ne8 _ 58 58 rfl hn2.2.1
            have b2 : ((s[k].toNat : Int) != 46) = true := ne8 _ 46 46 rfl hn2.2.2
            rw [g2] at cX
            clear hdk hsn hn g2 hn2
            go_wp2_with fail
            refine (cX _).mono ?_
            rintro e w1 ⟨rfl, hb1⟩
            go_wp2_with fail
            go_ret
            exact ⟨ret_bool (by rw [HR.out, HN.out]), bt' hb hb1⟩
        · obtain rfl : k = M := by omega
          have HE : Hid (D.take (k - 1) = D) := List.take_of_length_le (by rw [HDL.out]; omega)
          go_wp2_with fail
          go_ret
          exact ⟨ret_bool (by rw [HR.out, ← HE.out, HA.out]), hb⟩
    · have HR : Hid (Tg.isHost (91 :: t) = false) := by
        rw [Tg.isHost_cons, if_pos rfl, hlast]
        refine Lib.hid ?_
        have : ((some s[M] : Option UInt8) == some 93) = false := beq_eq_false_iff_ne.2 (fun e => h93 (Option.some.inj e))
        rw [this]; simp
      have b93 : ((s[M].toNat : Int) != 93) = true := ne8 _ 93 93 rfl h93
      clear hs hsd hat hlast h2 hl hM hMi h93 hsz
      go_enter Tryz.func171, Tryz.ntmps171
      go_wp2_with fail
      go_ret
      exact ⟨ret_bool HR.out.symm, Below.refl _ _⟩
  · have h3 : ((s.size : Int) < 3) := by omega
    have HR : Hid (Tg.isHost (91 :: t) = false) := by rw [Tg.isHost_cons, if_pos rfl, decide_eq_false h2]; exact Lib.hid rfl
    clear hs hsd hat h2 hl hsz
    go_enter Tryz.func171, Tryz.ntmps171
    go_wp2_with fail
    go_ret
    exact ⟨ret_bool HR.out.symm, Below.refl _ _⟩
set_option maxHeartbeats 1600000 in
set_option maxRecDepth 100000 in
theorem rhost_b (l : List UInt8) (w : World) (hl : l.length ≤ 100000) (h91 : ¬ l.head? = some 91) :
    Calls Tryz.prog 171 #[.string (str l)] w fun e w' => e = .returned (.bool (Tg.isHost l)) ∧ Below w.heap.size w w' := by
  obtain ⟨s, hs⟩ : ∃ s, s = str l := ⟨_, rfl⟩
  have hsd : s.data.toList = l := by rw [hs, str_list]
  have hsz : s.size = l.length := by rw [hs, str_size]
  rw [← hs]
  have b0 : ∀ h : 0 < s.size, ((s[0].toNat : Int) == 91) = false := fun h => by
    rw [beq_eq_false_iff_ne]; intro e
    apply h91
    have h2 : s[0] = 91 := Oct.u8_eq (n := 91) e
    have h3 := Lib.data_getElem? s 0 h
    rw [hsd, h2] at h3
    rw [List.head?_eq_getElem?]; exact h3
  have HR : Hid (Tg.isHost l = (decide (0 < s.size) && Oct.allOf Tg.hostc s.data.toList)) := by
    rw [hsd, hsz]
    refine Lib.hid ?_
    cases l with
    | nil => rfl
    | cons c t => rw [Tg.isHost_cons, if_neg (fun e => h91 (by rw [e]; rfl))]; simp [Oct.allOf]
  have hs6 : s.size ≤ 1000000 := by omega
  clear hs hsd hsz h91 hl
  have hcond : s.size = 0 ∨ 0 < s.size := by omega
  rcases hcond with h0 | h0
  · have h0i : (s.size : Int) = 0 := by omega
    have hE : ¬ ((0 : Int) < s.size) := by omega
    have HR2 : Hid (Tg.isHost l = false) := by rw [HR.out, decide_eq_false (by omega)]; exact Lib.hid rfl
    clear b0 HR h0
    go_enter Tryz.func171, Tryz.ntmps171
    go_wp2_with fail
    refine wp_loop_rounds 1 ?_
    rw [rounds_succ]
    go_wp2_with fail
    go_ret
    exact ⟨ret_bool (by rw [HR2.out]), Below.refl _ _⟩
  · have hE : ((0 : Int) < s.size) := by omega
    have b0 := b0 h0
    have HR2 : Hid (Tg.isHost l = Oct.allOf Tg.hostc s.data.toList) := by rw [HR.out, decide_eq_true h0]; exact Lib.hid rfl
    clear HR
    go_enter Tryz.func171, Tryz.ntmps171
    go_wp2_with fail
    go_loopw [4] (fun i wr => ∃ k : Nat, k ≤ s.size ∧ i = .int .i64 k ∧ Hid (Oct.allOf Tg.hostc (s.data.toList.take k) = true) ∧ Below w.heap.size w wr) (fun i _ => s.size - (intOf i).toNat)
    case atStart => exact ⟨0, by omega, rfl, Lib.hid rfl, Below.refl _ _⟩
    case round =>
      obtain ⟨k, hk, rfl, HA, hb⟩ := hrel
      by_cases hlt : k < s.size
      · have HN := Lib.hid (Oct.all_snoc Tg.hostc s k hlt)
        have HM := Lib.hid (Oct.all_miss Tg.hostc s k hlt)
        have cF := fun (W : World) => rfree_c s[k] W
        have cM := fun (W : World) => among_c s[k] ⟨#[33, 36, 38, 39, 40, 41, 42, 43, 44, 59, 61]⟩ W (by decide)
        rw [show has (⟨#[33, 36, 38, 39, 40, 41, 42, 43, 44, 59, 61]⟩ : ByteArray).data.toList s[k] = Tg.mark s[k] from rfl] at cM
        have HH : Hid (Tg.hostc s[k] = (Tg.free s[k] || Tg.mark s[k])) := Lib.hid rfl
        generalize Tg.free s[k] = f at *
        generalize Tg.mark s[k] = m at *
        generalize Tg.hostc s[k] = hc at *
        cases f with
        | true =>
          have HA2 : Hid (Oct.allOf Tg.hostc (s.data.toList.take (k + 1)) = true) := by rw [HN.out, HA.out, HH.out]; exact Lib.hid rfl
          clear HM cM
          go_wp2_with fail
          refine (cF _).mono ?_
          rintro e w1 ⟨rfl, rfl⟩
          go_wp2_with fail
          go_roundw
          case rel => exact ⟨k + 1, by omega, by go_num, HA2, hb⟩
          case measure => simp [intOf]; omega
        | false =>
          cases m with
          | true =>
            have HA2 : Hid (Oct.allOf Tg.hostc (s.data.toList.take (k + 1)) = true) := by rw [HN.out, HA.out, HH.out]; exact Lib.hid rfl
            clear HM
            go_wp2_with fail
            refine (cF _).mono ?_
            rintro e w1 ⟨rfl, rfl⟩
            go_wp2_with fail
            refine (cM _).mono ?_
            rintro e w1 ⟨rfl, rfl⟩
            go_wp2_with fail
            go_roundw
            case rel => exact ⟨k + 1, by omega, by go_num, HA2, hb⟩
            case measure => simp [intOf]; omega
          | false =>
            have HN2 : Hid (Oct.allOf Tg.hostc s.data.toList = false) := Lib.hid (HM.out (by rw [HH.out]; rfl))
            clear HM
            go_wp2_with fail
            refine (cF _).mono ?_
            rintro e w1 ⟨rfl, rfl⟩
            go_wp2_with fail
            refine (cM _).mono ?_
            rintro e w1 ⟨rfl, rfl⟩
            go_wp2_with fail
            go_ret
            exact ⟨ret_bool (by rw [HR2.out, HN2.out]), hb⟩
      · have HE := Lib.hid (Oct.take_all s k (by omega))
        go_wp2_with fail
        go_ret
        exact ⟨ret_bool (by rw [HR2.out, ← HE.out, HA.out]), hb⟩
theorem rhost_s (l : List UInt8) (w : World) (hl : l.length ≤ 100000) :
    Calls Tryz.prog 171 #[.string (str l)] w fun e w' => e = .returned (.bool (Tg.isHost l)) ∧ Below w.heap.size w w' := by
  by_cases h : l.head? = some 91
  · cases l with
    | nil => cases h
    | cons c t =>
      obtain rfl : c = 91 := by simpa using h
      exact rhost_a t w (by simp at hl; omega)
  · exact rhost_b l w hl h
end Go.Proofs.YtoanelobggledaaGreatDoor

namespace Go.Proofs.YtoanelobggledaaGreatDoor
open Go.RowKit

def qres : Option (List UInt8 × Int) → Value
  | none => .tuple #[.string ⟨#[]⟩, .int .i64 0, .bool false]
  | some x => .tuple #[.string (str x.1), .int .i64 x.2, .bool true]
theorem rcut_col (l : List UInt8) (k : Nat) (hk : k < l.length) (h : l[k] = 58) (hn : ∀ c ∈ l.drop (k + 1), c ≠ 58 ∧ c ≠ 93) : Tg.RCut l k :=
  .inl ⟨l.drop (k + 1), by omega, by rw [List.drop_eq_getElem_cons hk, h], hn⟩
theorem rcut_close (l : List UInt8) (k : Nat) (hk : k < l.length) (h : l[k] = 93) (hn : ∀ c ∈ l.drop (k + 1), c ≠ 58 ∧ c ≠ 93) : Tg.RCut l l.length := by
  refine .inr ⟨rfl, .inr ⟨l.take k, l.drop (k + 1), ?_, hn⟩⟩
  conv => lhs; rw [← List.take_append_drop k l, List.drop_eq_getElem_cons hk, h]
theorem drop_step (l : List UInt8) (k : Nat) (hk : k < l.length) (h : l[k] ≠ 58) (h2 : l[k] ≠ 93) (hn : ∀ c ∈ l.drop (k + 1), c ≠ 58 ∧ c ≠ 93) : ∀ c ∈ l.drop k, c ≠ 58 ∧ c ≠ 93 := by
  rw [List.drop_eq_getElem_cons hk]
  intro c hc
  rcases List.mem_cons.1 hc with rfl | hc
  · exact ⟨h, h2⟩
  · exact hn c hc
theorem seat_no {l : List UInt8} {a : Nat} (h : Tg.RCut l a) (hh : Tg.isHost (l.take a) = false) : Tg.site l = none := by
  rw [← Tg.site_ref h]; unfold Tg.siteAt; rw [if_neg (by rw [hh]; decide)]
theorem seat_80 {l : List UInt8} {a : Nat} (h : Tg.RCut l a) (hh : Tg.isHost (l.take a) = true) (h1 : l.length ≤ a + 1) : Tg.site l = some (Oct.lower (l.take a), 80) := by
  rw [← Tg.site_ref h]; unfold Tg.siteAt; rw [if_pos hh]
  have hp : Tg.portOf (l.drop a) = some 80 := by
    rcases h.drop.2 with e | ⟨t, e⟩
    · rw [e]; rfl
    · have := congrArg List.length e
      rw [List.length_drop] at this
      have ht : t = [] := List.eq_nil_of_length_eq_zero (by simp at this; omega)
      rw [e, ht]; rfl
  rw [hp]; rfl
theorem seat_num {l : List UInt8} {a : Nat} (h : Tg.RCut l a) (hh : Tg.isHost (l.take a) = true) (h1 : a + 1 < l.length) {x y : Int} (hn : Oct.number 10 65535 (l.drop (a + 1)) = (x, y)) :
    Tg.site l = if y = 0 ∧ l.length - a - 1 ≤ 5 then some (Oct.lower (l.take a), x) else none := by
  rw [← Tg.site_ref h]; unfold Tg.siteAt; rw [if_pos hh]
  rcases h.drop.2 with e | ⟨t, e⟩
  · have := congrArg List.length e
    rw [List.length_drop] at this; simp at this; omega
  · have ht : t = l.drop (a + 1) := by rw [← List.drop_drop, e]; rfl
    have htl : t.length = l.length - a - 1 := by rw [ht, List.length_drop]; omega
    have hp : Tg.portOf (l.drop a) = if y = 0 ∧ l.length - a - 1 ≤ 5 then some x else none := by
      rw [e]
      show Tg.portV t = _
      unfold Tg.portV
      rw [if_neg (by intro e2; rw [e2] at htl; simp at htl; omega), ht, hn, ← ht, htl]
    rw [hp]
    split <;> rfl
set_option maxHeartbeats 3200000 in
set_option maxRecDepth 100000 in
theorem seat_s (l : List UInt8) (w : World) (hl : l.length ≤ 100000) :
    Calls Tryz.prog 132 #[.string (str l)] w fun e w' => e = .returned (qres (Tg.site l)) ∧ Below w.heap.size w w' := by
  obtain ⟨s, hs⟩ : ∃ s, s = str l := ⟨_, rfl⟩
  have hsd : s.data.toList = l := by rw [hs, str_list]
  have hsz : s.size = l.length := by rw [hs, str_size]
  rw [← hs]
  have hat : ∀ k (hk : k < s.size) (hk2 : k < l.length), l[k] = s[k] := fun k hk hk2 => by
    have := Lib.data_getElem? s k hk
    rw [hsd] at this
    exact (List.getElem?_eq_some_iff.1 this).2
  have HAT := Lib.hid hat
  have HSZ := Lib.hid hsz
  have hs6 : s.size ≤ 100000 := by omega
  have cH := fun (a : Nat) (ha : a ≤ l.length) (W : World) => rhost_s (l.take a) W (by rw [List.length_take]; omega)
  have cL := fun (a : Nat) (ha : a ≤ l.length) (W : World) => rLower_s (s.extract 0 a) W (by simp; omega)
  have e0 : ∀ a, (s.extract 0 a).data.toList = l.take a := fun a => by rw [Lib.extract_data, hsd]; simp
  have e1 : ∀ a, a ≤ l.length → (s.extract (a + 1) s.size).data.toList = l.drop (a + 1) := fun a ha => by
    rw [Lib.extract_data, hsd, List.take_of_length_le]; rw [List.length_drop]; omega
  have cH2 : ∀ a, a ≤ l.length → ∀ W, Calls Tryz.prog 171 #[.string (s.extract 0 a)] W fun e w' => e = .returned (.bool (Tg.isHost (l.take a))) ∧ Below W.heap.size W w' := fun a ha W => by
    have := cH a ha W
    rwa [← str_same (e0 a)] at this
  have cL2 : ∀ a, a ≤ l.length → ∀ W, Calls Tryz.prog 47 #[.string (s.extract 0 a)] W fun e w' => e = .returned (.string (str (Oct.lower (l.take a)))) ∧ Below W.heap.size W w' := fun a ha W => by
    have := cL a ha W
    rwa [e0 a] at this
  have cN2 : ∀ a, a ≤ l.length → ∀ x y, Oct.number 10 65535 (l.drop (a + 1)) = (x, y) → ∀ W, Calls Tryz.prog 145 #[.string (s.extract (a + 1) s.size), .int .i64 10, .int .i64 65535] W fun e w' => e = .returned (.tuple #[.int .i64 x, .int .i64 y]) ∧ W = w' := fun a ha x y hxy W =>
    rNumber_is (s.extract (a + 1) s.size) 65535 x y W (by simp; omega) (by decide) (by decide) (by rw [e1 a ha]; exact hxy)
  have HH := Lib.hid cH2
  have HL := Lib.hid cL2
  have HN := Lib.hid cN2
  clear cH cL cH2 cL2 cN2 e0 e1 hs hsd hat hsz
  have hx0 : s.extract 0 s.size = s := ByteArray.extract_zero_size
  have hw1 : IntKind.i64.wrap ((s.size : Int) - 1) = (s.size : Int) - 1 := by rw [IntKind.wrap_i64]; omega
  go_enter Tryz.func132, Tryz.ntmps132
  go_wp2_with fail
  have hb : Below w.heap.size w w := Below.refl _ _
  go_loop [5, 6] (fun a5 i => ∃ k : Nat, k ≤ s.size ∧ a5 = .int .i64 s.size ∧ i = .int .i64 ((k : Int) - 1) ∧ Hid (∀ c ∈ l.drop k, c ≠ 58 ∧ c ≠ 93)) (fun _ i => (intOf i + 1).toNat)
  case atStart => exact ⟨s.size, by omega, rfl, rfl, Lib.hid (by rw [HSZ.out, List.drop_length]; intro c hc; cases hc)⟩
  case round =>
    obtain ⟨k, hk, rfl, rfl, HA⟩ := hrel
    by_cases h0 : k = 0
    · subst h0
      have hrc : Tg.RCut l s.size := by rw [HSZ.out]; exact .inr ⟨rfl, .inl (by have := HA.out; simpa using this)⟩
      have hal : s.size ≤ l.length := by rw [HSZ.out]; exact Nat.le_refl _
      cases hih : Tg.isHost (l.take (s.size)) with
      | false =>
        have HV : Hid (Tg.site l = none) := Lib.hid (seat_no hrc hih)
        have cH := HH.out _ hal
        rw [hih] at cH
        rw [hx0] at cH
        have HQ : Hid (qres (Tg.site l) = .tuple #[.string ⟨#[]⟩, .int .i64 0, .bool false]) := by rw [HV.out]; exact Lib.hid rfl
        clear HV
        clear hih hrc hal
        go_wp2_with fail
        refine (cH _).mono ?_
        rintro e w1 ⟨rfl, hb1⟩
        have hb := bt' hb hb1
        clear hb1
        go_wp2_with fail
        go_ret3
        exact ⟨congrArg Ending.returned HQ.out.symm, hb⟩
      | true =>
        have cH := HH.out _ hal
        rw [hih] at cH
        rw [hx0] at cH
        have cL := HL.out _ hal
        rw [hx0] at cL
        have h1 : l.length ≤ s.size + 1 := by have := HSZ.out; omega
        have HV : Hid (Tg.site l = some (Oct.lower (l.take (s.size)), 80)) := Lib.hid (seat_80 hrc hih h1)
        obtain ⟨lo, hlo⟩ : ∃ lo, str (Oct.lower (l.take (s.size))) = lo := ⟨_, rfl⟩
        rw [hlo] at cL
        have HQ : Hid (qres (Tg.site l) = .tuple #[.string lo, .int .i64 80, .bool true]) := by rw [HV.out, ← hlo]; exact Lib.hid rfl
        clear hlo HV
        have h1i : (s.size : Int) ≤ (((s.size) : Nat) : Int) + 1 := by have := HSZ.out; omega
        clear hih hrc hal h1
        go_wp2_with fail
        refine (cH _).mono ?_
        rintro e w1 ⟨rfl, hb1⟩
        have hb := bt' hb hb1
        clear hb1
        go_wp2_with fail
        refine (cL _).mono ?_
        rintro e w2 ⟨rfl, hb1⟩
        have hb := bt' hb hb1
        clear hb1
        go_wp2_with fail
        go_ret3
        exact ⟨congrArg Ending.returned HQ.out.symm, hb⟩
    · obtain ⟨k, rfl⟩ : ∃ j, k = j + 1 := ⟨k - 1, by omega⟩
      have hks : k < s.size := by omega
      have hkl : k < l.length := by have := HSZ.out; omega
      have hkk : ((k + 1 : Nat) : Int) - 1 = (k : Int) := by omega
      have hge : (0 : Int) ≤ (k : Int) := by omega
      rw [hkk]
      clear h0 hkk
      have hlk := HAT.out k hks hkl
      by_cases h93 : s[k] = 93
      · have hrc : Tg.RCut l s.size := by rw [HSZ.out]; exact rcut_close l k hkl (hlk.trans h93) HA.out
        have hal : s.size ≤ l.length := by rw [HSZ.out]; exact Nat.le_refl _
        have i93 : (s[k].toNat : Int) = 93 := by rw [h93]; rfl
        clear hlk h93
        cases hih : Tg.isHost (l.take (s.size)) with
        | false =>
          have HV : Hid (Tg.site l = none) := Lib.hid (seat_no hrc hih)
          have cH := HH.out _ hal
          rw [hih] at cH
          rw [hx0] at cH
          have HQ : Hid (qres (Tg.site l) = .tuple #[.string ⟨#[]⟩, .int .i64 0, .bool false]) := by rw [HV.out]; exact Lib.hid rfl
          clear HV
          clear hih hrc hal
          go_wp2_with fail
          refine (cH _).mono ?_
          rintro e w1 ⟨rfl, hb1⟩
          have hb := bt' hb hb1
          clear hb1
          go_wp2_with fail
          go_ret3
          exact ⟨congrArg Ending.returned HQ.out.symm, hb⟩
        | true =>
          have cH := HH.out _ hal
          rw [hih] at cH
          rw [hx0] at cH
          have cL := HL.out _ hal
          rw [hx0] at cL
          have h1 : l.length ≤ s.size + 1 := by have := HSZ.out; omega
          have HV : Hid (Tg.site l = some (Oct.lower (l.take (s.size)), 80)) := Lib.hid (seat_80 hrc hih h1)
          obtain ⟨lo, hlo⟩ : ∃ lo, str (Oct.lower (l.take (s.size))) = lo := ⟨_, rfl⟩
          rw [hlo] at cL
          have HQ : Hid (qres (Tg.site l) = .tuple #[.string lo, .int .i64 80, .bool true]) := by rw [HV.out, ← hlo]; exact Lib.hid rfl
          clear hlo HV
          have h1i : (s.size : Int) ≤ (((s.size) : Nat) : Int) + 1 := by have := HSZ.out; omega
          clear hih hrc hal h1
          go_wp2_with fail
          refine (cH _).mono ?_
          rintro e w1 ⟨rfl, hb1⟩
          have hb := bt' hb hb1
          clear hb1
          go_wp2_with fail
          refine (cL _).mono ?_
          rintro e w2 ⟨rfl, hb1⟩
          have hb := bt' hb hb1
          clear hb1
          go_wp2_with fail
          go_ret3
          exact ⟨congrArg Ending.returned HQ.out.symm, hb⟩
      · have n93 := nq8 s[k] 93 93 rfl h93
        by_cases h58 : s[k] = 58
        · have hrc : Tg.RCut l k := rcut_col l k hkl (hlk.trans h58) HA.out
          have hal : k ≤ l.length := by omega
          have i58 : (s[k].toNat : Int) = 58 := by rw [h58]; rfl
          clear hlk h93 h58
          cases hih : Tg.isHost (l.take (k)) with
          | false =>
            have HV : Hid (Tg.site l = none) := Lib.hid (seat_no hrc hih)
            have cH := HH.out _ hal
            rw [hih] at cH
            have HQ : Hid (qres (Tg.site l) = .tuple #[.string ⟨#[]⟩, .int .i64 0, .bool false]) := by rw [HV.out]; exact Lib.hid rfl
            clear HV
            clear hih hrc hal
            go_wp2_with fail
            refine (cH _).mono ?_
            rintro e w1 ⟨rfl, hb1⟩
            have hb := bt' hb hb1
            clear hb1
            go_wp2_with fail
            go_ret3
            exact ⟨congrArg Ending.returned HQ.out.symm, hb⟩
          | true =>
            have cH := HH.out _ hal
            rw [hih] at cH
            have cL := HL.out _ hal
            by_cases h1 : l.length ≤ k + 1
            · have HV : Hid (Tg.site l = some (Oct.lower (l.take (k)), 80)) := Lib.hid (seat_80 hrc hih h1)
              obtain ⟨lo, hlo⟩ : ∃ lo, str (Oct.lower (l.take (k))) = lo := ⟨_, rfl⟩
              rw [hlo] at cL
              have HQ : Hid (qres (Tg.site l) = .tuple #[.string lo, .int .i64 80, .bool true]) := by rw [HV.out, ← hlo]; exact Lib.hid rfl
              clear hlo HV
              have h1i : (s.size : Int) ≤ (((k) : Nat) : Int) + 1 := by have := HSZ.out; omega
              clear hih hrc hal h1
              go_wp2_with fail
              refine (cH _).mono ?_
              rintro e w1 ⟨rfl, hb1⟩
              have hb := bt' hb hb1
              clear hb1
              go_wp2_with fail
              refine (cL _).mono ?_
              rintro e w2 ⟨rfl, hb1⟩
              have hb := bt' hb hb1
              clear hb1
              go_wp2_with fail
              go_ret3
              exact ⟨congrArg Ending.returned HQ.out.symm, hb⟩
            · have h1i : ¬ (s.size : Int) ≤ (((k) : Nat) : Int) + 1 := by have := HSZ.out; omega
              obtain ⟨x, y, hxy⟩ : ∃ x y, Oct.number 10 65535 (l.drop (k + 1)) = (x, y) := ⟨_, _, rfl⟩
              have HV := Lib.hid (seat_num hrc hih (by omega) hxy)
              have cN := HN.out _ hal x y hxy
              have hsl : (((k) : Nat) : Int) + 1 ≤ (s.size : Int) := by omega
              have hsub : IntKind.i64.wrap ((s.size : Int) - (((k) : Nat) : Int)) = (s.size : Int) - (((k) : Nat) : Int) := by rw [IntKind.wrap_i64]; omega
              have hsub2 : IntKind.i64.wrap ((s.size : Int) - (((k) : Nat) : Int) - 1) = (s.size : Int) - (((k) : Nat) : Int) - 1 := by rw [IntKind.wrap_i64]; omega
              have HLEN : Hid (l.length - (k) - 1 ≤ 5 ↔ ¬ (5 : Int) < (s.size : Int) - (((k) : Nat) : Int) - 1) := Lib.hid (by have := HSZ.out; omega)
              by_cases hy : y = 0
              · by_cases h5 : (5 : Int) < (s.size : Int) - (((k) : Nat) : Int) - 1
                · have HV : Hid (Tg.site l = none) := by rw [HV.out, if_neg (fun e => HLEN.out.1 e.2 h5)]; exact Lib.hid rfl
                  have HQ : Hid (qres (Tg.site l) = .tuple #[.string ⟨#[]⟩, .int .i64 0, .bool false]) := by rw [HV.out]; exact Lib.hid rfl
                  clear HV
                  subst hy
                  clear HLEN hih hrc hal h1 hxy
                  generalize str (Oct.lower (l.take (k))) = lo at *
                  go_wp2_with fail
                  refine (cH _).mono ?_
                  rintro e w1 ⟨rfl, hb1⟩
                  have hb := bt' hb hb1
                  clear hb1
                  go_wp2_with fail
                  refine (cL _).mono ?_
                  rintro e w2 ⟨rfl, hb1⟩
                  have hb := bt' hb hb1
                  clear hb1
                  go_wp2_with fail
                  refine (cN _).mono ?_
                  rintro e w3 ⟨rfl, rfl⟩
                  go_wp2_with fail
                  go_ret3
                  exact ⟨congrArg Ending.returned HQ.out.symm, hb⟩
                · have HV : Hid (Tg.site l = some (Oct.lower (l.take (k)), x)) := by rw [HV.out, if_pos ⟨hy, HLEN.out.2 h5⟩]; exact Lib.hid rfl
                  obtain ⟨lo, hlo⟩ : ∃ lo, str (Oct.lower (l.take (k))) = lo := ⟨_, rfl⟩
                  rw [hlo] at cL
                  have HQ : Hid (qres (Tg.site l) = .tuple #[.string lo, .int .i64 x, .bool true]) := by rw [HV.out, ← hlo]; exact Lib.hid rfl
                  clear hlo HV
                  subst hy
                  clear HLEN hih hrc hal h1 hxy
                  go_wp2_with fail
                  refine (cH _).mono ?_
                  rintro e w1 ⟨rfl, hb1⟩
                  have hb := bt' hb hb1
                  clear hb1
                  go_wp2_with fail
                  refine (cL _).mono ?_
                  rintro e w2 ⟨rfl, hb1⟩
                  have hb := bt' hb hb1
                  clear hb1
                  go_wp2_with fail
                  refine (cN _).mono ?_
                  rintro e w3 ⟨rfl, rfl⟩
                  go_wp2_with fail
                  go_ret3
                  exact ⟨congrArg Ending.returned HQ.out.symm, hb⟩
              · have HV : Hid (Tg.site l = none) := by rw [HV.out, if_neg (fun e => hy e.1)]; exact Lib.hid rfl
                have HQ : Hid (qres (Tg.site l) = .tuple #[.string ⟨#[]⟩, .int .i64 0, .bool false]) := by rw [HV.out]; exact Lib.hid rfl
                clear HV
                have by0 : (y != 0) = true := by rw [bne, beq_eq_false_iff_ne.2 hy]; rfl
                clear HLEN hih hrc hal h1 hxy hy
                generalize str (Oct.lower (l.take (k))) = lo at *
                go_wp2_with fail
                refine (cH _).mono ?_
                rintro e w1 ⟨rfl, hb1⟩
                have hb := bt' hb hb1
                clear hb1
                go_wp2_with fail
                refine (cL _).mono ?_
                rintro e w2 ⟨rfl, hb1⟩
                have hb := bt' hb hb1
                clear hb1
                go_wp2_with fail
                refine (cN _).mono ?_
                rintro e w3 ⟨rfl, rfl⟩
                go_wp2_with fail
                go_ret3
                exact ⟨congrArg Ending.returned HQ.out.symm, hb⟩
        · have n58 := nq8 s[k] 58 58 rfl h58
          have HA2 := Lib.hid (drop_step l k hkl (by rw [hlk]; exact h58) (by rw [hlk]; exact h93) HA.out)
          clear hlk h93 h58
          go_wp2_with fail
          go_round
          case rel => exact ⟨k, by omega, rfl, by go_num, HA2⟩
          case measure => simp [intOf]
end Go.Proofs.YtoanelobggledaaGreatDoor

namespace Go.Proofs.YtoanelobggledaaGreatDoor
open Go.RowKit

theorem app3 {o : Oper} {a : Act} {K : Act → World → Prop} {Q : Exit → Act → World → Prop} {W w : World} {v : Value} {l : List UInt8} (h : Buf W w v l) (c1 c2 c3 : UInt8) (hlen : l.length ≤ 100000000)
    (s x : Operand) (ho : o.op = .call { callee := .builtin .append, args := #[s, x], argTypes := #[25, 25] })
    (n1 n2 n3 : Int) (h1 : n1 = c1.toNat) (h2 : n2 = c2.toNat) (h3 : n3 = c3.toNat) (hs : a.eval s = v) (hx : a.eval x = .slice (some ⟨w.heap.size, 0, none⟩) 3 3)
    (hK : ∀ v' w', Buf W w' v' (l ++ [c1, c2, c3]) → K (a.put o.dst v') w') : o.wp Tryz.prog a (w.alloc (.cells #[.int .u8 n1, .int .u8 n2, .int .u8 n3] 5)) K Q := by
  obtain ⟨i0, hi, hz0, hz1, hz2⟩ := info_parts bytes_info
  have hA := h.alloc (.cells #[.int .u8 n1, .int .u8 n2, .int .u8 n3] 5)
  refine wp_append_own _ s x _ ho W.heap.size 5 i0 (.int .u8 0) 1 1 Tryz.underlying25 hi hz0 hz1 hz2 rfl (by decide) v l.length (Lib.byteCells l) hs hA.1 ⟨w.heap.size, 0, none⟩ 3 3 [.int .u8 n1, .int .u8 n2, .int .u8 n3] hx rfl ?_ ?_ (by unfold maxLen; omega) (by omega) hA.2.size (fun v' w' h1' h2' _ => ?_)
  · intro j u hj
    match j, hj with
    | 0, hj =>
      simp at hj; subst hj
      show (w.alloc (.cells #[.int .u8 n1, .int .u8 n2, .int .u8 n3] 5)).cell? ⟨w.heap.size, 0 + 0, none⟩ = _
      rw [World.cell?_alloc_at _ _ _ _ rfl]; rfl
    | 1, hj =>
      simp at hj; subst hj
      show (w.alloc (.cells #[.int .u8 n1, .int .u8 n2, .int .u8 n3] 5)).cell? ⟨w.heap.size, 0 + 1, none⟩ = _
      rw [World.cell?_alloc_at _ _ _ _ rfl]; rfl
    | 2, hj =>
      simp at hj; subst hj
      show (w.alloc (.cells #[.int .u8 n1, .int .u8 n2, .int .u8 n3] 5)).cell? ⟨w.heap.size, 0 + 2, none⟩ = _
      rw [World.cell?_alloc_at _ _ _ _ rfl]; rfl
  · intro u hu; simp at hu; rcases hu with rfl | rfl | rfl <;> rfl
  · refine hK v' w' ⟨?_, hA.2.grown h2' hA.2.size (fun k hk => (hA.1.lt k hk).1)⟩
    have e : Lib.byteCells (l ++ [c1, c2, c3]) = Lib.byteCells l ++ [.int .u8 n1, .int .u8 n2, .int .u8 n3] := by subst h1 h2 h3; simp [Lib.byteCells]
    rw [e]; simpa using h1'
def CSt (p : UInt8 → Bool) (R : Option (List UInt8)) (D acc : List UInt8) : Prop := R = (Tg.coded p D).map (acc ++ ·)
theorem CSt.start (p : UInt8 → Bool) (l : List UInt8) : CSt p (Tg.coded p l) l [] := by
  unfold CSt; cases Tg.coded p l <;> rfl
theorem CSt.done {p : UInt8 → Bool} {R : Option (List UInt8)} {acc : List UInt8} (h : CSt p R [] acc) : R = some acc := by
  unfold CSt at h; rw [h, Tg.coded_nil]; simp
theorem CSt.plain {p : UInt8 → Bool} {R : Option (List UInt8)} {c : UInt8} {t acc : List UInt8} (h : CSt p R (c :: t) acc) (hc : c ≠ 37) :
    (p c = true → CSt p R t (acc ++ [c])) ∧ (p c = false → R = none) := by
  unfold CSt at h ⊢
  rw [Tg.coded_plain p c t hc] at h
  constructor
  · intro hp; rw [h, if_pos hp]; cases Tg.coded p t <;> simp
  · intro hp; rw [h, if_neg (by rw [hp]; decide)]; rfl
theorem CSt.esc {p : UInt8 → Bool} {R : Option (List UInt8)} {a b : UInt8} {r acc : List UInt8} (h : CSt p R (37 :: a :: b :: r) acc) :
    ((Tg.hexd a && Tg.hexd b) = true → CSt p R r (acc ++ Tg.norm (16 * Oct.worth a + Oct.worth b))) ∧ ((Tg.hexd a && Tg.hexd b) = false → R = none) := by
  unfold CSt at h ⊢
  rw [Tg.coded_esc] at h
  constructor
  · intro hp; rw [h, if_pos hp]; cases Tg.coded p r <;> simp
  · intro hp; rw [h, if_neg (by rw [hp]; decide)]; rfl
theorem CSt.short {p : UInt8 → Bool} {R : Option (List UInt8)} {t acc : List UInt8} (h : CSt p R (37 :: t) acc) (ht : t.length < 2) : R = none := by
  unfold CSt at h
  match t, ht with
  | [], _ => rw [h, Tg.coded_one]; rfl
  | [a], _ => rw [h, Tg.coded_two]; rfl
theorem up_lit (r : Nat) (h : r < 16) : (⟨#[48, 49, 50, 51, 52, 53, 54, 55, 56, 57, 65, 66, 67, 68, 69, 70]⟩ : ByteArray)[r]'(show r < (⟨#[48, 49, 50, 51, 52, 53, 54, 55, 56, 57, 65, 66, 67, 68, 69, 70]⟩ : ByteArray).size from h) = Tg.up r := by
  have : ∀ k : Fin 16, (⟨#[48, 49, 50, 51, 52, 53, 54, 55, 56, 57, 65, 66, 67, 68, 69, 70]⟩ : ByteArray)[k.1]'(show k.1 < (⟨#[48, 49, 50, 51, 52, 53, 54, 55, 56, 57, 65, 66, 67, 68, 69, 70]⟩ : ByteArray).size from k.2) = Tg.up k.1 := by decide +kernel
  exact this ⟨r, h⟩
theorem p_query (c : UInt8) (q : Bool) : (if q then Tg.queryc c else Tg.pathc c) = (Tg.free c || has [33, 36, 38, 39, 40, 41, 42, 43, 44, 59, 61, 58, 64, 47] c || (q && c == 63)) := by
  have e : has [33, 36, 38, 39, 40, 41, 42, 43, 44, 59, 61, 58, 64, 47] c = (Tg.mark c || c == 58 || c == 64 || c == 47) := by
    unfold has Tg.mark
    simp only [List.contains_cons, List.contains_nil, Bool.or_false, Bool.or_assoc]
  unfold Tg.queryc Tg.pathc
  rw [e]
  cases q <;> simp [Bool.or_assoc]
set_option maxHeartbeats 6400000 in
set_option maxRecDepth 100000 in
theorem rcoded_s (p : UInt8 → Bool) (q : Bool) (l : List UInt8) (w : World) (hl : l.length ≤ 100000) (hp : ∀ c, p c = (Tg.free c || has [33, 36, 38, 39, 40, 41, 42, 43, 44, 59, 61, 58, 64, 47] c || (q && c == 63))) :
    Calls Tryz.prog 172 #[.string (str l), .bool q] w fun e w' => e = .returned (eres (Tg.coded p l)) ∧ Below w.heap.size w w' := by
  obtain ⟨s, hs⟩ : ∃ s, s = str l := ⟨_, rfl⟩
  have hsd : s.data.toList = l := by rw [hs, str_list]
  have hsz : s.size = l.length := by rw [hs, str_size]
  rw [← hs]
  have hdr : ∀ k (hk : k < s.size), l.drop k = s[k] :: l.drop (k + 1) := fun k hk => by
    have h1 := Lib.data_getElem? s k hk
    rw [hsd] at h1
    obtain ⟨h2, h3⟩ := List.getElem?_eq_some_iff.1 h1
    rw [List.drop_eq_getElem_cons h2, h3]
  have HD := Lib.hid hdr
  have HS0 := Lib.hid (CSt.start p l)
  have HZ := Lib.hid hsz
  generalize Tg.coded p l = R at *
  have hs6 : s.size ≤ 100000 := by omega
  have HP := Lib.hid hp
  clear hs hsd hdr hsz hp hl
  go_enter Tryz.func172, Tryz.ntmps172
  go_wp2_with fail
  go_loopw [6, 7] (fun b i wr => ∃ (k : Nat) (acc : List UInt8), k ≤ s.size ∧ i = .int .i64 k ∧ Buf w wr b acc ∧ acc.length ≤ k ∧ Hid (CSt p R (l.drop k) acc)) (fun _ i _ => s.size - (intOf i).toNat)
  case atStart => exact ⟨0, [], by omega, rfl, Buf.nil w, by simp, by rw [List.drop_zero]; exact HS0⟩
  case round =>
    obtain ⟨k, acc, hk, rfl, hB, hac, HI⟩ := hrel
    have hbw := hB.below
    by_cases hlt : k < s.size
    · have hdk := HD.out k hlt
      have hac8 : acc.length ≤ 100000000 := by omega
      have hk0 : (0 : Int) ≤ (k : Int) := by omega
      have hki : (k : Int) < s.size := by omega
      by_cases h37 : s[k] = 37
      · have b37 : ((s[k].toNat : Int) == 37) = true := by rw [h37]; rfl
        have i37 : ((s[k].toNat : Int) = 37) := by rw [h37]; rfl
        by_cases h2 : k + 2 < s.size
        · have h2i : ¬ ((s.size : Int) ≤ (k : Int) + 2) := by omega
          have h2j : (k : Int) + 2 < s.size := by omega
          have h1j : (k : Int) + 1 < s.size := by omega
          have h1k : (0 : Int) ≤ (k : Int) + 1 := by omega
          have h2k : (0 : Int) ≤ (k : Int) + 2 := by omega
          have hw1 : IntKind.i64.wrap ((k : Int) + 1) = (k : Int) + 1 := by rw [IntKind.wrap_i64]; omega
          have hw2 : IntKind.i64.wrap ((k : Int) + 2) = (k : Int) + 2 := by rw [IntKind.wrap_i64]; omega
          have hlt1 : k + 1 < s.size := by omega
          have hE := HI.out
          rw [hdk, h37, HD.out (k + 1) hlt1, HD.out (k + 1 + 1) h2] at hE
          have hE := hE.esc
          have cXa := fun (W : World) => hexa_c s[k + 1] W
          have cXb := fun (W : World) => hexa_c s[k + 2] W
          rcases hexd_digit s[k + 1] with ⟨g1, g2, g3⟩ | ⟨g1, g2⟩
          · rw [g2] at cXa
            have na : ¬ ((Oct.worth s[k + 1] : Int) = 99) := by omega
            have ba : ((Oct.worth s[k + 1] : Int) == 99) = false := beq_eq_false_iff_ne.2 na
            rcases hexd_digit s[k + 2] with ⟨f1, f2, f3⟩ | ⟨f1, f2⟩
            · rw [f2] at cXb
              have nb : ¬ ((Oct.worth s[k + 2] : Int) = 99) := by omega
              have bb : ((Oct.worth s[k + 2] : Int) == 99) = false := beq_eq_false_iff_ne.2 nb
              have HI2 := Lib.hid (hE.1 (by rw [show s[k + 1 + 1] = s[k + 2] from rfl, g1, f1]; rfl))
              obtain ⟨n, hn⟩ : ∃ n, n = 16 * Oct.worth s[k + 1] + Oct.worth s[k + 2] := ⟨_, rfl⟩
              have HI3 : Hid (CSt p R (l.drop (k + 3)) (acc ++ Tg.norm n)) := by rw [hn]; exact HI2
              have hn256 : n < 256 := by omega
              have hm : IntKind.i64.wrap (16 * (Oct.worth s[k + 1] : Int)) = 16 * (Oct.worth s[k + 1] : Int) := by rw [IntKind.wrap_i64]; omega
              have hsn : IntKind.i64.wrap (16 * (Oct.worth s[k + 1] : Int) + (Oct.worth s[k + 2] : Int)) = (n : Int) := by rw [IntKind.wrap_i64]; omega
              have hsn2 : 16 * (Oct.worth s[k + 1] : Int) + (Oct.worth s[k + 2] : Int) = (n : Int) := by omega
              have hc8 : IntKind.u8.wrap (n : Int) = (n : Int) := by rw [IntKind.wrap_u8]; omega
              obtain ⟨x, hx⟩ : ∃ x, x = UInt8.ofNat n := ⟨_, rfl⟩
              have hxn : x.toNat = n := by rw [hx]; simp; omega
              have HV : Hid (Tg.norm n = if Tg.free x then [x] else [37, Tg.up (n / 16), Tg.up (n % 16)]) := by rw [hx]; exact Lib.hid rfl
              have cF := fun (W : World) => rfree_c x W
              rw [hxn] at cF
              have hw3 : IntKind.i64.wrap ((k : Int) + 2 + 1) = ((k + 3 : Nat) : Int) := by rw [IntKind.wrap_i64]; omega
              clear hE HI2 HI hn hx hdk h37
              generalize Oct.worth s[k + 1] = wa at *
              generalize Oct.worth s[k + 2] = wb at *
              go_wp2_with fail
              refine (cXa _).mono ?_
              rintro e W1 ⟨rfl, hb1⟩
              have hB1 := hB.after hb1
              clear hb1
              go_wp2_with fail
              refine (cXb _).mono ?_
              rintro e W2 ⟨rfl, hb2⟩
              have hB2 := hB1.after hb2
              clear hb2
              go_upto_region 9 with fail
              have GXa := fun pw : LateOf W2 => late pw (cXa pw.w)
              have GXb := fun pw : LateOf W2 => late pw (cXb pw.w)
              refine wp_region_late (by kernel_rfl) (by kernel_rfl) ?_
              quiet_step (fail)
              quiet_step (fail)
              quiet_step (fail)
              quiet_step (fail)
              quiet_step ((go_at_call 213; exact GXa _))
              quiet_step (fail)
              quiet_step (fail)
              quiet_step (fail)
              quiet_step (fail)
              quiet_step (fail)
              quiet_step ((go_at_call 213; exact GXb _))
              quiet_step (fail)
              quiet_step (fail)
              refine wpQuiet_nil ?_
              intro W3 hw'
              have hb3 : Below W2.heap.size W2 W3 := by obtain ⟨pw, rfl⟩ := hw'; exact pw.h
              have hB3 := hB2.after hb3
              clear hw' hb3 GXa GXb cXa cXb hB hB1 hB2 hbw
              cases hf : Tg.free x with
              | true =>
                rw [hf] at cF
                have hno : Tg.norm n = [x] := by rw [HV.out, hf]; rfl
                rw [hno] at HI3
                clear hf HV hno
                go_wp2_with fail
                refine (cF _).mono ?_
                rintro e W ⟨rfl, rfl⟩
                go_wp2_with (at_builtin; refine app1 hB3 x hac8 rfl _ _ rfl _ (by omega) rfl rfl ?_; intro v4 W4 hB4)
                go_roundw
                case rel => exact ⟨k + 3, acc ++ [x], by omega, by go_num, hB4, by simp; omega, HI3⟩
                case measure => simp [intOf]; omega
              | false =>
                rw [hf] at cF
                have hno : Tg.norm n = [37, Tg.up (n / 16), Tg.up (n % 16)] := by rw [HV.out, hf]; rfl
                rw [hno] at HI3
                have hd1 : n / 16 < 16 := by omega
                have hd2 : n % 16 < 16 := Nat.mod_lt _ (by decide)
                have u1 := up_lit _ hd1
                have u2 := up_lit _ hd2
                have q1 : IntKind.i64.wrap ((n : Int).tdiv 16) = ((n / 16 : Nat) : Int) := by rw [IntKind.wrap_i64, Int.tdiv_eq_ediv_of_nonneg (by omega)]; omega
                have q2 : IntKind.i64.wrap ((n : Int).tmod 16) = ((n % 16 : Nat) : Int) := by rw [IntKind.wrap_i64, Int.tmod_eq_emod_of_nonneg (by omega)]; omega
                have q3 : (n : Int).tdiv 16 = ((n / 16 : Nat) : Int) := by rw [Int.tdiv_eq_ediv_of_nonneg (by omega)]; omega
                have q4 : (n : Int).tmod 16 = ((n % 16 : Nat) : Int) := by rw [Int.tmod_eq_emod_of_nonneg (by omega)]; omega
                generalize n / 16 = d1 at *
                generalize n % 16 = d2 at *
                have hd1i : (d1 : Int) < 16 := by omega
                have hd2i : (d2 : Int) < 16 := by omega
                have hwn : IntKind.i64.wrap (n : Int) = (n : Int) := by rw [IntKind.wrap_i64]; omega
                have hwd1 : IntKind.i64.wrap (d1 : Int) = (d1 : Int) := by rw [IntKind.wrap_i64]; omega
                have hwd2 : IntKind.i64.wrap (d2 : Int) = (d2 : Int) := by rw [IntKind.wrap_i64]; omega
                have hp1 : (0 : Int) ≤ (d1 : Int) := by omega
                have hp2 : (0 : Int) ≤ (d2 : Int) := by omega
                clear hf HV hno
                go_wp2_with fail
                refine (cF _).mono ?_
                rintro e W ⟨rfl, rfl⟩
                go_upto_region 13 with fail
                go_region_held3 (fun _ => True) (trivial) (first
                  | (rw [if_pos (by rfl)]; refine app3 hB3.drew 37 (Tg.up d1) (Tg.up d2) hac8 (.tmp 63) (.tmp 72) rfl _ _ _ rfl (by first | rfl | (rw [← u1]; rfl)) (by first | rfl | (rw [← u2]; rfl)) rfl rfl ?_; intro v5 W5 hB5))
                all_goals go_wp2_with fail
                all_goals go_roundw
                all_goals first
                  | exact ⟨k + 3, acc ++ [37, Tg.up d1, Tg.up d2], by omega, by go_num, hB5, by simp; omega, HI3⟩
                  | (simp [intOf]; omega)
            · rw [f2] at cXb
              have HR : Hid (R = none) := Lib.hid (hE.2 (by rw [show s[k + 1 + 1] = s[k + 2] from rfl, f1, Bool.and_false]))
              clear hE HI g1 f1 g2 f2 b37 h37 hdk
              generalize Oct.worth s[k + 1] = wa at *
              go_wp2_with fail
              refine (cXa _).mono ?_
              rintro e W1 ⟨rfl, hb1⟩
              have hb1 := bt' hbw hb1
              go_wp2_with fail
              refine (cXb _).mono ?_
              rintro e W2 ⟨rfl, hb2⟩
              have hb2 := bt' hb1 hb2
              go_wp2_with fail
              go_ret2
              exact ⟨by rw [HR.out]; rfl, hb2⟩
          · rw [g2] at cXa
            have HR : Hid (R = none) := Lib.hid (hE.2 (by rw [g1, Bool.false_and]))
            clear hE HI g1 g2 b37 h37 hdk cXb
            go_wp2_with fail
            refine (cXa _).mono ?_
            rintro e W1 ⟨rfl, hb1⟩
            have hb1 := bt' hbw hb1
            go_wp2_with fail
            go_ret2
            exact ⟨by rw [HR.out]; rfl, hb1⟩
        · have h2i : (s.size : Int) ≤ (k : Int) + 2 := by omega
          have hw2 : IntKind.i64.wrap ((k : Int) + 2) = (k : Int) + 2 := by rw [IntKind.wrap_i64]; omega
          have hE := HI.out
          rw [hdk, h37] at hE
          have HR : Hid (R = none) := Lib.hid (hE.short (by rw [List.length_drop]; have := HZ.out; omega))
          clear hE HI b37 h37 hdk h2
          go_wp2_with fail
          go_ret2
          exact ⟨by rw [HR.out]; rfl, hbw⟩
      · have b37 := nq8 s[k] 37 37 rfl h37
        have n37 : ¬ ((s[k].toNat : Int) = 37) := fun e => h37 (UInt8.toNat_inj.1 (by have : (37 : UInt8).toNat = 37 := rfl; omega))
        have hE := HI.out
        rw [hdk] at hE
        have hE := hE.plain h37
        rw [HP.out] at hE
        have cF := fun (W : World) => rfree_c s[k] W
        have cA := fun (W : World) => among_c s[k] ⟨#[33, 36, 38, 39, 40, 41, 42, 43, 44, 59, 61, 58, 64, 47]⟩ W (by decide)
        have hw1 : IntKind.i64.wrap ((k : Int) + 1) = ((k + 1 : Nat) : Int) := by rw [IntKind.wrap_i64]; omega
        simp only [] at cA
        generalize has [33, 36, 38, 39, 40, 41, 42, 43, 44, 59, 61, 58, 64, 47] s[k] = hb at *
        generalize Tg.free s[k] = fb at *
        obtain ⟨eb, heb⟩ : ∃ eb, eb = (s[k] == 63) := ⟨_, rfl⟩
        rw [← heb] at hE
        have b63 : ((s[k].toNat : Int) == 63) = eb := by
          rw [heb]
          by_cases h63 : s[k] = 63
          · rw [h63]; rfl
          · rw [nq8 s[k] 63 63 rfl h63]; exact (beq_eq_false_iff_ne.2 h63).symm
        clear h37 HI hdk heb
        cases fb with
        | true =>
          have HI2 := Lib.hid (hE.1 (by simp))
          clear hE
          go_wp2_with fail
          refine (cF _).mono ?_
          rintro e W ⟨rfl, rfl⟩
          go_wp2_with (at_builtin; refine app1 hB s[k] hac8 rfl _ _ rfl _ rfl rfl rfl ?_; intro v4 W4 hB4)
          go_roundw
          case rel => exact ⟨k + 1, acc ++ [s[k]], by omega, by go_num, hB4, by simp; omega, HI2⟩
          case measure => simp [intOf]; omega
        | false =>
          cases hb with
          | true =>
            have HI2 := Lib.hid (hE.1 (by simp))
            clear hE
            go_wp2_with fail
            refine (cF _).mono ?_
            rintro e W ⟨rfl, rfl⟩
            go_wp2_with fail
            refine (cA _).mono ?_
            rintro e W ⟨rfl, rfl⟩
            go_wp2_with (at_builtin; refine app1 hB s[k] hac8 rfl _ _ rfl _ rfl rfl rfl ?_; intro v4 W4 hB4)
            go_roundw
            case rel => exact ⟨k + 1, acc ++ [s[k]], by omega, by go_num, hB4, by simp; omega, HI2⟩
            case measure => simp [intOf]; omega
          | false =>
            cases q with
            | false =>
              have HR := Lib.hid (hE.2 (by simp))
              clear hE
              go_wp2_with fail
              refine (cF _).mono ?_
              rintro e W ⟨rfl, rfl⟩
              go_wp2_with fail
              refine (cA _).mono ?_
              rintro e W ⟨rfl, rfl⟩
              go_wp2_with fail
              go_ret2
              exact ⟨by rw [HR.out]; rfl, hbw⟩
            | true =>
              cases eb with
              | true =>
                have HI2 := Lib.hid (hE.1 (by simp))
                clear hE
                go_wp2_with fail
                refine (cF _).mono ?_
                rintro e W ⟨rfl, rfl⟩
                go_wp2_with fail
                refine (cA _).mono ?_
                rintro e W ⟨rfl, rfl⟩
                go_wp2_with (at_builtin; refine app1 hB s[k] hac8 rfl _ _ rfl _ rfl rfl rfl ?_; intro v4 W4 hB4)
                go_roundw
                case rel => exact ⟨k + 1, acc ++ [s[k]], by omega, by go_num, hB4, by simp; omega, HI2⟩
                case measure => simp [intOf]; omega
              | false =>
                have HR := Lib.hid (hE.2 (by simp))
                clear hE
                go_wp2_with fail
                refine (cF _).mono ?_
                rintro e W ⟨rfl, rfl⟩
                go_wp2_with fail
                refine (cA _).mono ?_
                rintro e W ⟨rfl, rfl⟩
                go_wp2_with fail
                go_ret2
                exact ⟨by rw [HR.out]; rfl, hbw⟩
    · have hc := hB.string
      have HR : Hid (R = some acc) := Lib.hid (by have h := HI.out; rw [List.drop_eq_nil_of_le (by have := HZ.out; omega)] at h; exact h.done)
      have hki : ¬ ((k : Int) < s.size) := by omega
      obtain ⟨x, hx⟩ : ∃ x, str acc = x := ⟨_, rfl⟩
      rw [hx] at hc
      have HQ : Hid (eres R = .tuple #[.string x, .bool true]) := by rw [HR.out, ← hx]; exact Lib.hid rfl
      clear HI HR hx
      go_wp2_with fail
      go_ret2
      exact ⟨congrArg Ending.returned HQ.out.symm, hbw⟩
end Go.Proofs.YtoanelobggledaaGreatDoor

namespace Go.Proofs.YtoanelobggledaaGreatDoor
open Go.RowKit

set_option maxHeartbeats 800000 in
set_option maxRecDepth 100000 in
theorem rhttp_s (l : List UInt8) (w : World) (hl : l.length ≤ 100000) :
    Calls Tryz.prog 94 #[.string (str l)] w fun e w' => e = .returned (.bool (Tg.http l)) ∧ Below w.heap.size w w' := by
  obtain ⟨s, hs⟩ : ∃ s, s = str l := ⟨_, rfl⟩
  have hsd : s.data.toList = l := by rw [hs, str_list]
  have hsz : s.size = l.length := by rw [hs, str_size]
  rw [← hs]
  by_cases h7 : 7 ≤ l.length
  · have h7i : (7 : Int) ≤ s.size := by omega
    have e7 : (s.extract 0 7).data.toList = l.take 7 := by rw [Lib.extract_data, hsd]; simp
    have cL := fun (W : World) => rLower_s (s.extract 0 7) W (by simp; omega)
    rw [e7] at cL
    by_cases hy : Oct.lower (l.take 7) = Tg.httpT
    · have HR : Hid (Tg.http l = true) := Lib.hid (by show (decide (7 ≤ l.length) && Oct.lower (l.take 7) == Tg.httpT) = true; rw [hy, decide_eq_true h7]; rfl)
      rw [hy, show str Tg.httpT = ⟨#[104, 116, 116, 112, 58, 47, 47]⟩ from rfl] at cL
      clear hs hsd e7 hy h7
      go_enter Tryz.func94, Tryz.ntmps94
      go_wp2_with fail
      refine (cL _).mono ?_
      rintro e W ⟨rfl, hb⟩
      go_wp2_with fail
      go_ret
      exact ⟨ret_bool HR.out.symm, hb⟩
    · have HR : Hid (Tg.http l = false) := Lib.hid (by
        show (decide (7 ≤ l.length) && Oct.lower (l.take 7) == Tg.httpT) = false
        rw [beq_eq_false_iff_ne.2 hy, Bool.and_false])
      have hne : str (Oct.lower (l.take 7)) ≠ ⟨#[104, 116, 116, 112, 58, 47, 47]⟩ := fun e => hy (str_inj e)
      generalize str (Oct.lower (l.take 7)) = y at *
      have hn2 : ¬ y.toList = (⟨#[104, 116, 116, 112, 58, 47, 47]⟩ : ByteArray).toList := fun e => hne (ByteArray.ext (Array.toList_inj.1 (by rw [← Lib.toList_data, ← Lib.toList_data]; exact e)))
      have hn3 : ¬ y.toList = [104, 116, 116, 112, 58, 47, 47] := by rw [Lib.toList_data] at hn2 ⊢; exact fun e => hne (ByteArray.ext (Array.toList_inj.1 e))
      have bn3 : (y.toList == [104, 116, 116, 112, 58, 47, 47]) = false := beq_eq_false_iff_ne.2 hn3
      clear hs hsd e7 hy h7 hn2
      go_enter Tryz.func94, Tryz.ntmps94
      go_wp2_with fail
      refine (cL _).mono ?_
      rintro e W ⟨rfl, hb⟩
      go_wp2_with fail
      all_goals go_ret
      all_goals exact ⟨ret_bool HR.out.symm, hb⟩
  · have HR : Hid (Tg.http l = false) := Lib.hid (by
      show (decide (7 ≤ l.length) && Oct.lower (l.take 7) == Tg.httpT) = false
      rw [decide_eq_false h7, Bool.false_and])
    have h7i : ¬ (7 : Int) ≤ s.size := by omega
    clear hs hsd h7
    go_enter Tryz.func94, Tryz.ntmps94
    go_wp2_with fail
    go_ret
    exact ⟨ret_bool HR.out.symm, Below.refl _ _⟩
end Go.Proofs.YtoanelobggledaaGreatDoor

namespace Go.Proofs.YtoanelobggledaaGreatDoor
open Go.RowKit

theorem seg_facts (x : ByteArray) (X rest : List UInt8) (e : x.data.toList = 47 :: X ++ rest) (hX : ∀ c ∈ X, c ≠ 47) (hr : rest = [] ∨ ∃ r, rest = 47 :: r) :
    ∃ m, m = X.length + 1 ∧ x.size = m + rest.length ∧ (∀ k (hk : k < x.size), 1 ≤ k → k < m → x[k] ≠ 47) ∧ (∀ hk : m < x.size, x[m] = 47) ∧ x.extract 0 m = str (47 :: X) ∧ x.extract m x.size = str rest := by
  have hz : x.size = X.length + 1 + rest.length := by rw [Lib.size_eq, e]; simp; omega
  have hg : ∀ k (hk : k < x.size), (47 :: X ++ rest)[k]? = some x[k] := fun k hk => by rw [← e]; exact Lib.data_getElem? x k hk
  refine ⟨_, rfl, hz, ?_, ?_, ?_, ?_⟩
  · intro k hk h1 h2
    obtain ⟨j, rfl⟩ : ∃ j, k = j + 1 := ⟨k - 1, by omega⟩
    have h := hg (j + 1) hk
    rw [List.cons_append, List.getElem?_cons_succ, List.getElem?_append_left (by omega)] at h
    exact hX _ (List.mem_of_getElem? h)
  · intro hk
    have h := hg (X.length + 1) hk
    rw [List.cons_append, List.getElem?_cons_succ, List.getElem?_append_right (Nat.le_refl _), Nat.sub_self] at h
    rcases hr with rfl | ⟨r, rfl⟩
    · cases h
    · exact (Option.some.inj h).symm
  · refine str_same ?_
    rw [Lib.extract_data, e]
    simp
  · refine str_same ?_
    rw [Lib.extract_data, e, List.take_of_length_le (by simp; omega)]
    simp
theorem last_facts (y : ByteArray) (o z : List UInt8) (e : y.data.toList = o ++ 47 :: z) (hzz : ∀ c ∈ z, c ≠ 47) :
    ∃ q, q = o.length ∧ y.size = q + 1 + z.length ∧ (∀ k (hk : k < y.size), q < k → y[k] ≠ 47) ∧ (∀ hk : q < y.size, y[q] = 47) ∧ y.extract 0 q = str o := by
  have hz : y.size = o.length + 1 + z.length := by rw [Lib.size_eq, e]; simp; omega
  have hg : ∀ k (hk : k < y.size), (o ++ 47 :: z)[k]? = some y[k] := fun k hk => by rw [← e]; exact Lib.data_getElem? y k hk
  refine ⟨_, rfl, hz, ?_, ?_, ?_⟩
  · intro k hk h1
    obtain ⟨j, rfl⟩ : ∃ j, k = o.length + 1 + j := ⟨k - o.length - 1, by omega⟩
    have h := hg _ hk
    rw [List.getElem?_append_right (by omega), show o.length + 1 + j - o.length = j + 1 by omega, List.getElem?_cons_succ] at h
    exact hzz _ (List.mem_of_getElem? h)
  · intro hk
    have h := hg _ hk
    rw [List.getElem?_append_right (Nat.le_refl _), Nat.sub_self] at h
    exact (Option.some.inj h).symm
  · refine str_same ?_
    rw [Lib.extract_data, e]
    simp
def strSz : Value → Nat
  | .string x => x.size
  | _ => 0
theorem list_ne {a : ByteArray} {l : List UInt8} (h : a.data.toList ≠ l) : ¬ a.toList = l ∧ (a.toList == l) = false ∧ (a.toList != l) = true := by
  rw [Lib.toList_data]
  have h2 : (a.data.toList == l) = false := beq_eq_false_iff_ne.2 h
  exact ⟨h, h2, by rw [bne, h2]; rfl⟩
set_option maxHeartbeats 6400000 in
set_option maxRecDepth 100000 in
theorem rdots_s (t : List UInt8) (w : World) (ht : t.length ≤ 100000) :
    Calls Tryz.prog 173 #[.string (str (47 :: t))] w fun e w' => e = .returned (.string (str (Tg.straight (47 :: t)))) ∧ w = w' := by
  obtain ⟨R, hR⟩ : ∃ R, R = Tg.straight (47 :: t) := ⟨_, rfl⟩
  have h0 := Tg.Steps.start t
  rw [← hR] at h0 ⊢
  have HS0 : Hid (Tg.Steps R (str (47 :: t)).data.toList (⟨#[]⟩ : ByteArray).data.toList) := by rw [str_list]; exact Lib.hid h0
  have hz0 : (str (47 :: t)).size + (⟨#[]⟩ : ByteArray).size ≤ 100001 := by
    rw [str_size]
    have h2 : (⟨#[]⟩ : ByteArray).size = 0 := rfl
    rw [h2]; simp; omega
  generalize str (47 :: t) = s at *
  clear hR h0 ht
  go_enter Tryz.func173, Tryz.ntmps173
  go_wp2_with fail
  go_loop [0, 3] (fun a b => ∃ x y : ByteArray, a = .string x ∧ b = .string y ∧ x.size + y.size ≤ 100001 ∧ Hid (Tg.Steps R x.data.toList y.data.toList)) (fun a _ => strSz a)
  case atStart => exact ⟨s, ⟨#[]⟩, rfl, rfl, hz0, HS0⟩
  case round =>
    obtain ⟨x, y, rfl, rfl, hz, HI⟩ := hrel
    by_cases hx : x.data.toList = []
    · have hx2 : x = ⟨#[]⟩ := str_same hx
      have HR : Hid (str R = y) := by
        have h := HI.out
        rw [hx] at h
        exact Lib.hid (str_same h.done).symm
      subst hx2
      clear hx HI
      go_wp2_with fail
      go_ret
      exact ⟨by rw [HR.out]; rfl, rfl⟩
    · obtain ⟨X, rest, e1, hX, hrest, c1, c2, c3⟩ := HI.out.next hx
      obtain ⟨m, hm, f1, f2, f3, f4, f5⟩ := seg_facts x X rest e1 hX hrest
      have hm1 : 1 ≤ m := by omega
      have hmx : m ≤ x.size := by omega
      have hxs : x.size ≤ 100001 := by omega
      have hys : y.size ≤ 100001 := by omega
      obtain ⟨nx1, nx2, nx3⟩ := list_ne hx
      have HLT : Hid (rest.length < x.size) := Lib.hid (by omega)
      have HSUM : Hid (m + rest.length + y.size ≤ 100001) := Lib.hid (by omega)
      have hmi : (m : Int) ≤ x.size := by omega
      have hm0 : (0 : Int) ≤ m := by omega
      have F2 := Lib.hid f2
      have F3 := Lib.hid f3
      clear f2 f3 hx HI hz e1 hX
      by_cases hre : rest = []
      · obtain rfl := hre
        have eI : x.extract m x.size = ⟨#[]⟩ := f5
        have hxm : x.size = m := by simpa using f1
        have HI2 : Hid ((⟨#[]⟩ : ByteArray).data.toList = []) := Lib.hid rfl
        have HLEN : Hid ((⟨#[]⟩ : ByteArray).size < x.size) := Lib.hid (by show 0 < _; omega)
        have hI0 : (⟨#[]⟩ : ByteArray).size = 0 := rfl
        obtain ⟨I, hIe⟩ : ∃ I : ByteArray, I = ⟨#[]⟩ := ⟨_, rfl⟩
        clear f5 hrest
        by_cases hd : X = [46]
        · have eS : x.extract 0 m = ⟨#[47, 46]⟩ := by rw [f4, hd]; rfl
          have m2 : m = 2 := by rw [hm, hd]; rfl
          have HN : Hid (Tg.Steps R (⟨#[]⟩ : ByteArray).data.toList (y ++ ⟨#[47]⟩ : ByteArray).data.toList) := by rw [app_data]; exact Lib.hid ((c2 hd).1 rfl)
          have HZ : Hid ((⟨#[]⟩ : ByteArray).size + (y ++ ⟨#[47]⟩ : ByteArray).size ≤ 100001) := Lib.hid (by rw [ByteArray.size_append]; have h9 := HSUM.out; show 0 + (y.size + 1) ≤ _; simp at h9; omega)
          clear c1 c2 c3 hd hm f1 f4 m2
          go_wp2_with fail
          go_loop [4] (fun i => ∃ k : Nat, 1 ≤ k ∧ k ≤ m ∧ i = .int .i64 k) (fun i => m - (intOf i).toNat)
          case atStart => exact ⟨1, by omega, hm1, rfl⟩
          case round =>
            obtain ⟨k, hk1, hkm, rfl⟩ := hrel
            by_cases hlt : k < m
            · have hkx : k < x.size := by omega
              have hki : (k : Int) < x.size := by omega
              have hk0 : (0 : Int) ≤ k := by omega
              have b1 := ne8 x[k] 47 47 rfl (F2.out k hkx hk1 hlt)
              go_wp2_with fail
              go_round
              case rel => exact ⟨k + 1, by omega, by omega, by go_num⟩
              case measure => simp [intOf]; omega
            · obtain rfl : k = m := by omega
              have hnl : ¬ ((k : Int) < x.size) := by omega
              go_wp2_with fail
              go_round
              case rel => exact ⟨_, (y ++ (⟨#[47]⟩ : ByteArray) : ByteArray), rfl, rfl, HZ.out, HN⟩
              case measure => exact HLEN.out
        · have hdot := hd
          clear hd
          by_cases hd : X = [46, 46]
          · have eS : x.extract 0 m = ⟨#[47, 46, 46]⟩ := by rw [f4, hd]; rfl
            have m3 : m = 3 := by rw [hm, hd]; rfl
            rcases c3 hd with ⟨ho, d1, d2⟩ | ⟨o, z, ho, hz2, d1, d2⟩
            · clear m3 c3
              have hy0 : y.size = 0 := by rw [Lib.size_eq, ho]; rfl
              have HN : Hid (Tg.Steps R (⟨#[]⟩ : ByteArray).data.toList (y ++ ⟨#[47]⟩ : ByteArray).data.toList) := by rw [app_data, ho]; exact Lib.hid (d1 rfl)
              have HZ : Hid ((⟨#[]⟩ : ByteArray).size + (y ++ ⟨#[47]⟩ : ByteArray).size ≤ 100001) := Lib.hid (by rw [ByteArray.size_append]; show 0 + (y.size + 1) ≤ _; omega)
              clear c1 c2 d1 d2 hd hm f1 f4 ho
              go_wp2_with fail
              go_loop [4] (fun i => ∃ k : Nat, 1 ≤ k ∧ k ≤ m ∧ i = .int .i64 k) (fun i => m - (intOf i).toNat)
              case atStart => exact ⟨1, by omega, hm1, rfl⟩
              case round =>
                obtain ⟨k, hk1, hkm, rfl⟩ := hrel
                by_cases hlt : k < m
                · have hkx : k < x.size := by omega
                  have hki : (k : Int) < x.size := by omega
                  have hk0 : (0 : Int) ≤ k := by omega
                  have b1 := ne8 x[k] 47 47 rfl (F2.out k hkx hk1 hlt)
                  go_wp2_with fail
                  go_round
                  case rel => exact ⟨k + 1, by omega, by omega, by go_num⟩
                  case measure => simp [intOf]; omega
                · obtain rfl : k = m := by omega
                  have hnl : ¬ ((k : Int) < x.size) := by omega
                  go_wp2_with fail
                  refine wp_loop_rounds 1 ?_
                  rw [rounds_succ]
                  go_wp2_with fail
                  go_round
                  case rel => exact ⟨_, (y ++ (⟨#[47]⟩ : ByteArray) : ByteArray), rfl, rfl, HZ.out, HN⟩
                  case measure => exact HLEN.out
            · clear c3
              obtain ⟨q, hq, g1, g2, g3, g4⟩ := last_facts y o z ho hz2
              obtain ⟨O, hO⟩ : ∃ O : ByteArray, O = str o := ⟨_, rfl⟩
              rw [← hO] at g4
              have hOz : O.size = q := by rw [hO, str_size, hq]
              have hOd : O.data.toList = o := by rw [hO, str_list]
              have hqy : q < y.size := by omega
              have hqi : (q : Int) < y.size := by omega
              have hq0 : (0 : Int) ≤ q := by omega
              have G2 := Lib.hid g2
              have iq : (y[q].toNat : Int) = 47 := by rw [g3 hqy]; rfl
              have HN : Hid (Tg.Steps R (⟨#[]⟩ : ByteArray).data.toList (O ++ ⟨#[47]⟩ : ByteArray).data.toList) := by rw [app_data, hOd]; exact Lib.hid (d1 rfl)
              have HZ : Hid ((⟨#[]⟩ : ByteArray).size + (O ++ ⟨#[47]⟩ : ByteArray).size ≤ 100001) := Lib.hid (by rw [ByteArray.size_append]; show 0 + (O.size + 1) ≤ _; omega)
              have hOs : O.size ≤ 100001 := by omega
              clear m3 c1 c2 d1 d2 hd hm f1 f4 ho hz2 g1 g2 g3 hO hOd hq hOz
              go_wp2_with fail
              go_loop [4] (fun i => ∃ k : Nat, 1 ≤ k ∧ k ≤ m ∧ i = .int .i64 k) (fun i => m - (intOf i).toNat)
              case atStart => exact ⟨1, by omega, hm1, rfl⟩
              case round =>
                obtain ⟨k, hk1, hkm, rfl⟩ := hrel
                by_cases hlt : k < m
                · have hkx : k < x.size := by omega
                  have hki : (k : Int) < x.size := by omega
                  have hk0 : (0 : Int) ≤ k := by omega
                  have b1 := ne8 x[k] 47 47 rfl (F2.out k hkx hk1 hlt)
                  go_wp2_with fail
                  go_round
                  case rel => exact ⟨k + 1, by omega, by omega, by go_num⟩
                  case measure => simp [intOf]; omega
                · obtain rfl : k = m := by omega
                  have hnl : ¬ ((k : Int) < x.size) := by omega
                  go_wp2_with fail
                  go_loop [6] (fun i => ∃ j : Nat, q ≤ j ∧ j < y.size ∧ i = .int .i64 ((j : Int) + 1)) (fun i => (intOf i).toNat)
                  case atStart => exact ⟨y.size - 1, by omega, by omega, by congr 1; omega⟩
                  case round =>
                    obtain ⟨j, hqj, hjy, rfl⟩ := hrel
                    have hj1 : (0 : Int) < (j : Int) + 1 := by omega
                    have hj2 : (j : Int) < y.size := by omega
                    have hj3 : (0 : Int) ≤ (j : Int) := by omega
                    have hw1 : IntKind.i64.wrap ((j : Int) + 1 - 1) = (j : Int) := by rw [IntKind.wrap_i64]; omega
                    have hw2 : IntKind.i64.wrap (j : Int) = (j : Int) := by rw [IntKind.wrap_i64]; omega
                    by_cases hlt : q < j
                    · have b2 := ne8 y[j] 47 47 rfl (G2.out j hjy hlt)
                      obtain ⟨p, rfl⟩ : ∃ p, j = p + 1 := ⟨j - 1, by omega⟩
                      go_wp2_with fail
                      go_round
                      case rel => exact ⟨p, by omega, by omega, by go_num⟩
                      case measure => simp [intOf]; omega
                    · obtain rfl : j = q := by omega
                      go_wp2_with fail
                      go_round
                      case rel => exact ⟨_, (O ++ (⟨#[47]⟩ : ByteArray) : ByteArray), rfl, rfl, HZ.out, HN⟩
                      case measure => exact HLEN.out
          · have hdd := hd
            clear hd
            have hd := hdot
            clear hdot
            obtain ⟨S, hS⟩ : ∃ S : ByteArray, S = str (47 :: X) := ⟨_, rfl⟩
            have eS : x.extract 0 m = S := by rw [f4, hS]
            have hSd : S.data.toList = 47 :: X := by rw [hS, str_list]
            have hSz : S.size = m := by rw [hS, str_size, hm]; rfl
            obtain ⟨nS1, nS2, nS3⟩ := list_ne (a := S) (l := [47, 46]) (by rw [hSd]; intro e; exact hd (List.cons.inj e).2)
            obtain ⟨nT1, nT2, nT3⟩ := list_ne (a := S) (l := [47, 46, 46]) (by rw [hSd]; intro e; exact hdd (List.cons.inj e).2)
            have HN : Hid (Tg.Steps R (⟨#[]⟩ : ByteArray).data.toList (y ++ S : ByteArray).data.toList) := by rw [app_data, hSd]; exact Lib.hid (c1 hd hdd)
            have HZ : Hid ((⟨#[]⟩ : ByteArray).size + (y ++ S : ByteArray).size ≤ 100001) := Lib.hid (by rw [ByteArray.size_append]; have h9 := HSUM.out; simp at h9; show 0 + _ ≤ _; omega)
            have hSs : S.size ≤ 100001 := by omega
            clear c1 c2 c3 hd hdd hm f1 f4 hS hSd hSz
            go_wp2_with fail
            go_loop [4] (fun i => ∃ k : Nat, 1 ≤ k ∧ k ≤ m ∧ i = .int .i64 k) (fun i => m - (intOf i).toNat)
            case atStart => exact ⟨1, by omega, hm1, rfl⟩
            case round =>
              obtain ⟨k, hk1, hkm, rfl⟩ := hrel
              by_cases hlt : k < m
              · have hkx : k < x.size := by omega
                have hki : (k : Int) < x.size := by omega
                have hk0 : (0 : Int) ≤ k := by omega
                have b1 := ne8 x[k] 47 47 rfl (F2.out k hkx hk1 hlt)
                go_wp2_with fail
                go_round
                case rel => exact ⟨k + 1, by omega, by omega, by go_num⟩
                case measure => simp [intOf]; omega
              · obtain rfl : k = m := by omega
                have hnl : ¬ ((k : Int) < x.size) := by omega
                go_wp2_with fail
                go_round
                case rel => exact ⟨_, y ++ S, rfl, rfl, HZ.out, HN⟩
                case measure => exact HLEN.out
      · have f5' := f5
        obtain ⟨I, hI⟩ : ∃ I : ByteArray, I = str rest := ⟨_, rfl⟩
        rw [← hI] at f5
        have eI : x.extract m x.size = I := f5
        have hId : I.data.toList = rest := by rw [hI, str_list]
        have hxm : m < x.size := by
          rw [f1]
          cases rest with
          | nil => exact absurd rfl hre
          | cons a b => simp
        have hIz : I.size = rest.length := by rw [hI, str_size]
        have HLEN : Hid (I.size < x.size) := Lib.hid (by rw [hIz]; exact HLT.out)
        obtain ⟨nI1, nI2, nI3⟩ := list_ne (a := I) (l := []) (by rw [hId]; exact hre)
        clear f5 f5' hrest hI
        by_cases hd : X = [46]
        · have eS : x.extract 0 m = ⟨#[47, 46]⟩ := by rw [f4, hd]; rfl
          have m2 : m = 2 := by rw [hm, hd]; rfl
          have HN : Hid (Tg.Steps R I.data.toList y.data.toList) := by rw [hId]; exact Lib.hid ((c2 hd).2 hre)
          have HZ : Hid (I.size + y.size ≤ 100001) := Lib.hid (by have h9 := HSUM.out; omega)
          clear c1 c2 c3 hd hm f1 f4 m2
          go_wp2_with fail
          go_loop [4] (fun i => ∃ k : Nat, 1 ≤ k ∧ k ≤ m ∧ i = .int .i64 k) (fun i => m - (intOf i).toNat)
          case atStart => exact ⟨1, by omega, hm1, rfl⟩
          case round =>
            obtain ⟨k, hk1, hkm, rfl⟩ := hrel
            by_cases hlt : k < m
            · have hkx : k < x.size := by omega
              have hki : (k : Int) < x.size := by omega
              have hk0 : (0 : Int) ≤ k := by omega
              have b1 := ne8 x[k] 47 47 rfl (F2.out k hkx hk1 hlt)
              go_wp2_with fail
              go_round
              case rel => exact ⟨k + 1, by omega, by omega, by go_num⟩
              case measure => simp [intOf]; omega
            · obtain rfl : k = m := by omega
              have hkx : k < x.size := by omega
              have hki : (k : Int) < x.size := by omega
              have i47 : (x[k].toNat : Int) = 47 := by rw [F3.out hkx]; rfl
              go_wp2_with fail
              go_round
              case rel => exact ⟨_, y, rfl, rfl, HZ.out, HN⟩
              case measure => exact HLEN.out
        · have hdot := hd
          clear hd
          by_cases hd : X = [46, 46]
          · have eS : x.extract 0 m = ⟨#[47, 46, 46]⟩ := by rw [f4, hd]; rfl
            have m3 : m = 3 := by rw [hm, hd]; rfl
            rcases c3 hd with ⟨ho, d1, d2⟩ | ⟨o, z, ho, hz2, d1, d2⟩
            · clear m3 c3
              have hy0 : y.size = 0 := by rw [Lib.size_eq, ho]; rfl
              have HN : Hid (Tg.Steps R I.data.toList y.data.toList) := by rw [hId, ho]; exact Lib.hid (d2 hre)
              have HZ : Hid (I.size + y.size ≤ 100001) := Lib.hid (by have h9 := HSUM.out; omega)
              clear c1 c2 d1 d2 hd hm f1 f4 ho
              go_wp2_with fail
              go_loop [4] (fun i => ∃ k : Nat, 1 ≤ k ∧ k ≤ m ∧ i = .int .i64 k) (fun i => m - (intOf i).toNat)
              case atStart => exact ⟨1, by omega, hm1, rfl⟩
              case round =>
                obtain ⟨k, hk1, hkm, rfl⟩ := hrel
                by_cases hlt : k < m
                · have hkx : k < x.size := by omega
                  have hki : (k : Int) < x.size := by omega
                  have hk0 : (0 : Int) ≤ k := by omega
                  have b1 := ne8 x[k] 47 47 rfl (F2.out k hkx hk1 hlt)
                  go_wp2_with fail
                  go_round
                  case rel => exact ⟨k + 1, by omega, by omega, by go_num⟩
                  case measure => simp [intOf]; omega
                · obtain rfl : k = m := by omega
                  have hkx : k < x.size := by omega
                  have hki : (k : Int) < x.size := by omega
                  have i47 : (x[k].toNat : Int) = 47 := by rw [F3.out hkx]; rfl
                  go_wp2_with fail
                  refine wp_loop_rounds 1 ?_
                  rw [rounds_succ]
                  go_wp2_with fail
                  go_round
                  case rel => exact ⟨_, y, rfl, rfl, HZ.out, HN⟩
                  case measure => exact HLEN.out
            · clear c3
              obtain ⟨q, hq, g1, g2, g3, g4⟩ := last_facts y o z ho hz2
              obtain ⟨O, hO⟩ : ∃ O : ByteArray, O = str o := ⟨_, rfl⟩
              rw [← hO] at g4
              have hOz : O.size = q := by rw [hO, str_size, hq]
              have hOd : O.data.toList = o := by rw [hO, str_list]
              have hqy : q < y.size := by omega
              have hqi : (q : Int) < y.size := by omega
              have hq0 : (0 : Int) ≤ q := by omega
              have G2 := Lib.hid g2
              have iq : (y[q].toNat : Int) = 47 := by rw [g3 hqy]; rfl
              have HN : Hid (Tg.Steps R I.data.toList O.data.toList) := by rw [hId, hOd]; exact Lib.hid (d2 hre)
              have HZ : Hid (I.size + O.size ≤ 100001) := Lib.hid (by have h9 := HSUM.out; omega)
              have hOs : O.size ≤ 100001 := by omega
              clear m3 c1 c2 d1 d2 hd hm f1 f4 ho hz2 g1 g2 g3 hO hOd hq hOz
              go_wp2_with fail
              go_loop [4] (fun i => ∃ k : Nat, 1 ≤ k ∧ k ≤ m ∧ i = .int .i64 k) (fun i => m - (intOf i).toNat)
              case atStart => exact ⟨1, by omega, hm1, rfl⟩
              case round =>
                obtain ⟨k, hk1, hkm, rfl⟩ := hrel
                by_cases hlt : k < m
                · have hkx : k < x.size := by omega
                  have hki : (k : Int) < x.size := by omega
                  have hk0 : (0 : Int) ≤ k := by omega
                  have b1 := ne8 x[k] 47 47 rfl (F2.out k hkx hk1 hlt)
                  go_wp2_with fail
                  go_round
                  case rel => exact ⟨k + 1, by omega, by omega, by go_num⟩
                  case measure => simp [intOf]; omega
                · obtain rfl : k = m := by omega
                  have hkx : k < x.size := by omega
                  have hki : (k : Int) < x.size := by omega
                  have i47 : (x[k].toNat : Int) = 47 := by rw [F3.out hkx]; rfl
                  go_wp2_with fail
                  go_loop [6] (fun i => ∃ j : Nat, q ≤ j ∧ j < y.size ∧ i = .int .i64 ((j : Int) + 1)) (fun i => (intOf i).toNat)
                  case atStart => exact ⟨y.size - 1, by omega, by omega, by congr 1; omega⟩
                  case round =>
                    obtain ⟨j, hqj, hjy, rfl⟩ := hrel
                    have hj1 : (0 : Int) < (j : Int) + 1 := by omega
                    have hj2 : (j : Int) < y.size := by omega
                    have hj3 : (0 : Int) ≤ (j : Int) := by omega
                    have hw1 : IntKind.i64.wrap ((j : Int) + 1 - 1) = (j : Int) := by rw [IntKind.wrap_i64]; omega
                    have hw2 : IntKind.i64.wrap (j : Int) = (j : Int) := by rw [IntKind.wrap_i64]; omega
                    by_cases hlt : q < j
                    · have b2 := ne8 y[j] 47 47 rfl (G2.out j hjy hlt)
                      obtain ⟨p, rfl⟩ : ∃ p, j = p + 1 := ⟨j - 1, by omega⟩
                      go_wp2_with fail
                      go_round
                      case rel => exact ⟨p, by omega, by omega, by go_num⟩
                      case measure => simp [intOf]; omega
                    · obtain rfl : j = q := by omega
                      go_wp2_with fail
                      go_round
                      case rel => exact ⟨_, O, rfl, rfl, HZ.out, HN⟩
                      case measure => exact HLEN.out
          · have hdd := hd
            clear hd
            have hd := hdot
            clear hdot
            obtain ⟨S, hS⟩ : ∃ S : ByteArray, S = str (47 :: X) := ⟨_, rfl⟩
            have eS : x.extract 0 m = S := by rw [f4, hS]
            have hSd : S.data.toList = 47 :: X := by rw [hS, str_list]
            have hSz : S.size = m := by rw [hS, str_size, hm]; rfl
            obtain ⟨nS1, nS2, nS3⟩ := list_ne (a := S) (l := [47, 46]) (by rw [hSd]; intro e; exact hd (List.cons.inj e).2)
            obtain ⟨nT1, nT2, nT3⟩ := list_ne (a := S) (l := [47, 46, 46]) (by rw [hSd]; intro e; exact hdd (List.cons.inj e).2)
            have HN : Hid (Tg.Steps R I.data.toList (y ++ S : ByteArray).data.toList) := by rw [app_data, hSd]; rw [hId]; exact Lib.hid (c1 hd hdd)
            have HZ : Hid (I.size + (y ++ S : ByteArray).size ≤ 100001) := Lib.hid (by rw [ByteArray.size_append]; have h9 := HSUM.out; omega)
            have hSs : S.size ≤ 100001 := by omega
            clear c1 c2 c3 hd hdd hm f1 f4 hS hSd hSz
            go_wp2_with fail
            go_loop [4] (fun i => ∃ k : Nat, 1 ≤ k ∧ k ≤ m ∧ i = .int .i64 k) (fun i => m - (intOf i).toNat)
            case atStart => exact ⟨1, by omega, hm1, rfl⟩
            case round =>
              obtain ⟨k, hk1, hkm, rfl⟩ := hrel
              by_cases hlt : k < m
              · have hkx : k < x.size := by omega
                have hki : (k : Int) < x.size := by omega
                have hk0 : (0 : Int) ≤ k := by omega
                have b1 := ne8 x[k] 47 47 rfl (F2.out k hkx hk1 hlt)
                go_wp2_with fail
                go_round
                case rel => exact ⟨k + 1, by omega, by omega, by go_num⟩
                case measure => simp [intOf]; omega
              · obtain rfl : k = m := by omega
                have hkx : k < x.size := by omega
                have hki : (k : Int) < x.size := by omega
                have i47 : (x[k].toNat : Int) = 47 := by rw [F3.out hkx]; rfl
                go_wp2_with fail
                go_round
                case rel => exact ⟨_, y ++ S, rfl, rfl, HZ.out, HN⟩
                case measure => exact HLEN.out
end Go.Proofs.YtoanelobggledaaGreatDoor

namespace Go.Proofs.YtoanelobggledaaGreatDoor
open Go.RowKit

theorem ahead_facts (p : UInt8 → Bool) (s : ByteArray) : ∃ N, N = Tg.ahead p s.data.toList ∧ N ≤ s.size ∧ (∀ k (hk : k < s.size), k < N → p s[k] = false) ∧ (∀ hk : N < s.size, p s[N] = true) := by
  have hz : s.data.toList.length = s.size := by simp
  have hle := Tg.ahead_le p s.data.toList
  refine ⟨_, rfl, by omega, ?_, ?_⟩
  · intro k hk h
    refine Tg.ahead_take p s.data.toList s[k] ?_
    have h1 := Lib.data_getElem? s k hk
    refine List.mem_of_getElem? (i := k) ?_
    rw [List.getElem?_take_of_lt h, h1]
  · intro hk
    rcases Tg.ahead_drop p s.data.toList with h | ⟨c, t, h, hc⟩
    · have := congrArg List.length h
      rw [List.length_drop] at this; simp at this; omega
    · have h1 := Lib.data_getElem? s _ hk
      have h2 : (s.data.toList.drop (Tg.ahead p s.data.toList))[0]? = some c := by rw [h]; rfl
      rw [List.getElem?_drop, Nat.add_zero, h1] at h2
      rw [Option.some.inj h2]; exact hc
theorem qm_false {c : UInt8} (h : Tg.qm c = false) : ((c.toNat : Int) != 63) = true := ne8 c 63 63 rfl (fun e => by rw [e] at h; cases h)
theorem qm_true {c : UInt8} (h : Tg.qm c = true) : (c.toNat : Int) = 63 := by
  have : c = 63 := by simpa [Tg.qm] using h
  rw [this]; rfl
theorem p_path (c : UInt8) : Tg.pathc c = (Tg.free c || has [33, 36, 38, 39, 40, 41, 42, 43, 44, 59, 61, 58, 64, 47] c || (false && c == 63)) := by
  rw [← p_query]; rfl
theorem p_quer (c : UInt8) : Tg.queryc c = (Tg.free c || has [33, 36, 38, 39, 40, 41, 42, 43, 44, 59, 61, 58, 64, 47] c || (true && c == 63)) := by
  rw [← p_query]; rfl
set_option maxHeartbeats 6400000 in
set_option maxRecDepth 100000 in
theorem rplace_s (l : List UInt8) (w : World) (hl : l.length ≤ 90000) (hbg : Tg.Begins l) :
    Calls Tryz.prog 133 #[.string (str l)] w fun e w' => (∃ x, e = .returned (.tuple #[.string x, .bool (Tg.place (Tg.slash l)).isSome]) ∧ ∀ m, Tg.place (Tg.slash l) = some m → x = str m) ∧ Below w.heap.size w w' := by
  obtain ⟨s, hs⟩ : ∃ s, s = str l := ⟨_, rfl⟩
  have hsd : s.data.toList = l := by rw [hs, str_list]
  have hsz : s.size = l.length := by rw [hs, str_size]
  rw [← hs]
  have HV0 := Lib.hid (@Tg.place_none1 l hbg)
  have HV1 := Lib.hid (fun a => @Tg.place_end l hbg a)
  have HV2 := Lib.hid (fun a => @Tg.place_more l hbg a)
  have hfull := fun a => @Tg.full_head l hbg a
  have hpath := hbg.path
  have cC := fun (W : World) => rcoded_s Tg.pathc false (l.take (Tg.ahead Tg.qm l)) W (by rw [List.length_take]; omega) p_path
  have cQ := fun (W : World) => rcoded_s Tg.queryc true (l.drop (Tg.ahead Tg.qm l + 1)) W (by rw [List.length_drop]; omega) p_quer
  have hql : ∀ q, Tg.coded Tg.queryc (l.drop (Tg.ahead Tg.qm l + 1)) = some q → q.length ≤ 90000 := fun q hq => by
    have := Tg.coded_len _ _ hq
    rw [List.length_drop] at this; omega
  change ∀ W, Calls Tryz.prog 172 _ W fun e w' => e = .returned (eres (Tg.pathOf l)) ∧ Below W.heap.size W w' at cC
  obtain ⟨N, hN, f1, f2, f3⟩ := ahead_facts Tg.qm s
  rw [hsd] at hN
  rw [← hN] at cC cQ hql
  simp only [← hN] at HV1 HV2
  have ex0 : s.extract 0 N = str (l.take N) := str_same (by rw [Lib.extract_data, hsd]; simp)
  have ex1 : s.extract (N + 1) s.size = str (l.drop (N + 1)) := str_same (by rw [Lib.extract_data, hsd, List.take_of_length_le]; rw [List.length_drop]; omega)
  rw [← ex0] at cC
  rw [← ex1] at cQ
  generalize Tg.place (Tg.slash l) = R at *
  generalize Tg.pathOf l = po at *
  generalize Tg.coded Tg.queryc (l.drop (N + 1)) = qo at *
  have F2 := Lib.hid f2
  have F3 := Lib.hid f3
  have HLN : Hid (s.size = l.length) := Lib.hid hsz
  have hs6 : s.size ≤ 90000 := by omega
  have hNi : (N : Int) ≤ s.size := by omega
  have hN0 : (0 : Int) ≤ N := by omega
  clear f2 f3 ex0 ex1 hN hs hsd hsz
  cases po with
  | none =>
    have HV : Hid (R = none) := Lib.hid (HV0.out rfl)
    have e0 : eres none = .tuple #[.string ⟨#[]⟩, .bool false] := rfl
    rw [e0] at cC
    clear HV0 HV1 HV2 cQ hql hfull hpath
    go_enter Tryz.func133, Tryz.ntmps133
    go_upto_block 0 with fail
    go_cut [4] from 8 to 19 (fun i wx => i = .int .i64 N ∧ wx = w)
    case first =>
      go_wp2_with fail
      go_loop [4] (fun i => ∃ k : Nat, k ≤ N ∧ i = .int .i64 k) (fun i => N - (intOf i).toNat)
      case atStart => exact ⟨0, by omega, rfl⟩
      case round =>
        obtain ⟨k, hk, rfl⟩ := hrel
        by_cases hlt : k < N
        · have hks : k < s.size := by omega
          have b63 := qm_false (F2.out k hks hlt)
          have hki : (k : Int) < s.size := by omega
          have hk0 : (0 : Int) ≤ k := by omega
          go_wp2_with fail
          go_round
          case rel => exact ⟨k + 1, by omega, by go_num⟩
          case measure => simp [intOf]; omega
        · obtain rfl : k = N := by omega
          by_cases hks : k < s.size
          · have i63 := qm_true (F3.out hks)
            have hki : (k : Int) < s.size := by omega
            go_wp2_with fail
            go_meet
            case rel => exact ⟨rfl, rfl⟩
          · have hki : ¬ ((k : Int) < s.size) := by omega
            go_wp2_with fail
            go_meet
            case rel => exact ⟨rfl, rfl⟩
    case rest =>
      obtain ⟨rfl, rfl⟩ := hcut
      go_wp2_with fail
      refine (cC _).mono ?_
      rintro e W1 ⟨rfl, hb1⟩
      have hb1 := bt' (Below.refl _ _) hb1
      go_wp2_with fail
      go_ret2
      exact ⟨⟨_, by rw [HV.out] <;> rfl, fun m h => by rw [HV.out] at h; cases h⟩, hb1⟩
  | some a =>
    obtain ⟨b, hb, hbl⟩ := hfull a rfl
    have e0 : eres (some a) = .tuple #[.string (str a), .bool true] := rfl
    rw [e0] at cC
    have cD := fun (W : World) => rdots_s b W (by omega)
    have hsl := Tg.straight_len b
    have HE1 := Lib.hid (HV1.out a rfl)
    have HE2 := Lib.hid (HV2.out a rfl)
    clear HV0 HV1 HV2
    rw [hb] at HE1 HE2
    obtain ⟨G, hG⟩ : ∃ G, G = str (Tg.straight (47 :: b)) := ⟨_, rfl⟩
    rw [← hG] at cD
    have hGz : G.size ≤ 90001 := by rw [hG, str_size]; omega
    have HG := Lib.hid hG
    clear hG
    rcases hpath with h | h | ⟨b2, h⟩
    · cases h
    · obtain rfl := Option.some.inj h
      obtain rfl : b = [] := by
        have : Tg.full [] = [47] := rfl
        rw [this] at hb; exact (List.cons.inj hb).2.symm
      rw [show str [] = ⟨#[]⟩ from rfl] at cC
      rw [show str [47] = ⟨#[47]⟩ from rfl] at cD
      clear h hb hsl hfull e0
      by_cases hNs : N = s.size
      · have bN : ((N : Int) == (s.size : Int)) = true := by rw [hNs]; exact beq_self_eq_true _
        have HV : Hid (R = some (Tg.straight [47])) := Lib.hid (HE1.out (by rw [hNs]; exact HLN.out))
        clear HE1 HE2 cQ hql hNs
        go_enter Tryz.func133, Tryz.ntmps133
        go_upto_block 0 with fail
        go_cut [4] from 8 to 19 (fun i wx => i = .int .i64 N ∧ wx = w)
        case first =>
          go_wp2_with fail
          go_loop [4] (fun i => ∃ k : Nat, k ≤ N ∧ i = .int .i64 k) (fun i => N - (intOf i).toNat)
          case atStart => exact ⟨0, by omega, rfl⟩
          case round =>
            obtain ⟨k, hk, rfl⟩ := hrel
            by_cases hlt : k < N
            · have hks : k < s.size := by omega
              have b63 := qm_false (F2.out k hks hlt)
              have hki : (k : Int) < s.size := by omega
              have hk0 : (0 : Int) ≤ k := by omega
              go_wp2_with fail
              go_round
              case rel => exact ⟨k + 1, by omega, by go_num⟩
              case measure => simp [intOf]; omega
            · obtain rfl : k = N := by omega
              by_cases hks : k < s.size
              · have i63 := qm_true (F3.out hks)
                have hki : (k : Int) < s.size := by omega
                go_wp2_with fail
                go_meet
                case rel => exact ⟨rfl, rfl⟩
              · have hki : ¬ ((k : Int) < s.size) := by omega
                go_wp2_with fail
                go_meet
                case rel => exact ⟨rfl, rfl⟩
        case rest =>
          obtain ⟨rfl, rfl⟩ := hcut
          go_wp2_with fail
          refine (cC _).mono ?_
          rintro e W1 ⟨rfl, hb1⟩
          have hb1 := bt' (Below.refl _ _) hb1
          go_wp2_with fail
          refine (cD _).mono ?_
          rintro e W2 ⟨rfl, rfl⟩
          go_wp2_with fail
          go_ret2
          exact ⟨⟨_, by rw [HV.out] <;> rfl, fun m h => by rw [HV.out] at h; rw [← Option.some.inj h]; exact HG.out⟩, hb1⟩
      · have bN : ((N : Int) == (s.size : Int)) = false := beq_eq_false_iff_ne.2 (by omega)
        have hN1 : (N : Int) + 1 ≤ s.size := by omega
        have hw1 : IntKind.i64.wrap ((N : Int) + 1) = (N : Int) + 1 := by rw [IntKind.wrap_i64]; omega
        have HVm := Lib.hid (HE2.out (by have := HLN.out; omega))
        cases qo with
        | none =>
          have HV : Hid (R = none) := Lib.hid HVm.out
          have e0 : eres none = .tuple #[.string ⟨#[]⟩, .bool false] := rfl
          rw [e0] at cQ
          clear HE1 HE2 hql hNs HVm
          go_enter Tryz.func133, Tryz.ntmps133
          go_upto_block 0 with fail
          go_cut [4] from 8 to 19 (fun i wx => i = .int .i64 N ∧ wx = w)
          case first =>
            go_wp2_with fail
            go_loop [4] (fun i => ∃ k : Nat, k ≤ N ∧ i = .int .i64 k) (fun i => N - (intOf i).toNat)
            case atStart => exact ⟨0, by omega, rfl⟩
            case round =>
              obtain ⟨k, hk, rfl⟩ := hrel
              by_cases hlt : k < N
              · have hks : k < s.size := by omega
                have b63 := qm_false (F2.out k hks hlt)
                have hki : (k : Int) < s.size := by omega
                have hk0 : (0 : Int) ≤ k := by omega
                go_wp2_with fail
                go_round
                case rel => exact ⟨k + 1, by omega, by go_num⟩
                case measure => simp [intOf]; omega
              · obtain rfl : k = N := by omega
                by_cases hks : k < s.size
                · have i63 := qm_true (F3.out hks)
                  have hki : (k : Int) < s.size := by omega
                  go_wp2_with fail
                  go_meet
                  case rel => exact ⟨rfl, rfl⟩
                · have hki : ¬ ((k : Int) < s.size) := by omega
                  go_wp2_with fail
                  go_meet
                  case rel => exact ⟨rfl, rfl⟩
          case rest =>
            obtain ⟨rfl, rfl⟩ := hcut
            go_wp2_with fail
            refine (cC _).mono ?_
            rintro e W1 ⟨rfl, hb1⟩
            have hb1 := bt' (Below.refl _ _) hb1
            go_wp2_with fail
            refine (cD _).mono ?_
            rintro e W2 ⟨rfl, rfl⟩
            go_wp2_with fail
            refine (cQ _).mono ?_
            rintro e W3 ⟨rfl, hb3⟩
            have hb3 := bt' hb1 hb3
            have hzs : (G ++ ⟨#[63]⟩ : ByteArray).size ≤ 90002 := by rw [ByteArray.size_append]; show G.size + 1 ≤ _; omega
            go_wp2_with fail
            go_ret2
            exact ⟨⟨_, by rw [HV.out] <;> rfl, fun m h => by rw [HV.out] at h; cases h⟩, hb3⟩
        | some q =>
          have HV : Hid (R = some (Tg.straight [47] ++ 63 :: q)) := Lib.hid HVm.out
          have e0 : eres (some q) = .tuple #[.string (str q), .bool true] := rfl
          rw [e0] at cQ
          have hqz : (str q).size ≤ 90000 := by rw [str_size]; exact hql q rfl
          have HS : Hid (G ++ ⟨#[63]⟩ ++ str q = str (Tg.straight [47] ++ 63 :: q)) := Lib.hid (str_same (by rw [app_data, app_data, HG.out, str_list, str_list]; simp))
          clear HE1 HE2 hql hNs HVm
          generalize str q = Q at *
          go_enter Tryz.func133, Tryz.ntmps133
          go_upto_block 0 with fail
          go_cut [4] from 8 to 19 (fun i wx => i = .int .i64 N ∧ wx = w)
          case first =>
            go_wp2_with fail
            go_loop [4] (fun i => ∃ k : Nat, k ≤ N ∧ i = .int .i64 k) (fun i => N - (intOf i).toNat)
            case atStart => exact ⟨0, by omega, rfl⟩
            case round =>
              obtain ⟨k, hk, rfl⟩ := hrel
              by_cases hlt : k < N
              · have hks : k < s.size := by omega
                have b63 := qm_false (F2.out k hks hlt)
                have hki : (k : Int) < s.size := by omega
                have hk0 : (0 : Int) ≤ k := by omega
                go_wp2_with fail
                go_round
                case rel => exact ⟨k + 1, by omega, by go_num⟩
                case measure => simp [intOf]; omega
              · obtain rfl : k = N := by omega
                by_cases hks : k < s.size
                · have i63 := qm_true (F3.out hks)
                  have hki : (k : Int) < s.size := by omega
                  go_wp2_with fail
                  go_meet
                  case rel => exact ⟨rfl, rfl⟩
                · have hki : ¬ ((k : Int) < s.size) := by omega
                  go_wp2_with fail
                  go_meet
                  case rel => exact ⟨rfl, rfl⟩
          case rest =>
            obtain ⟨rfl, rfl⟩ := hcut
            go_wp2_with fail
            refine (cC _).mono ?_
            rintro e W1 ⟨rfl, hb1⟩
            have hb1 := bt' (Below.refl _ _) hb1
            go_wp2_with fail
            refine (cD _).mono ?_
            rintro e W2 ⟨rfl, rfl⟩
            go_wp2_with fail
            refine (cQ _).mono ?_
            rintro e W3 ⟨rfl, hb3⟩
            have hb3 := bt' hb1 hb3
            have hzs : (G ++ ⟨#[63]⟩ : ByteArray).size ≤ 90002 := by rw [ByteArray.size_append]; show G.size + 1 ≤ _; omega
            go_wp2_with fail
            go_ret2
            exact ⟨⟨_, by rw [HV.out] <;> rfl, fun m h => by rw [HV.out] at h; rw [← Option.some.inj h]; exact HS.out⟩, hb3⟩
    · obtain rfl := Option.some.inj h
      obtain rfl : b = b2 := by
        have : Tg.full (47 :: b2) = 47 :: b2 := rfl
        rw [this] at hb; exact (List.cons.inj hb).2.symm
      obtain ⟨PT, hPT⟩ : ∃ PT, PT = str (47 :: b) := ⟨_, rfl⟩
      rw [← hPT] at cC cD
      have hPz : 0 < PT.size := by rw [hPT, str_size]; simp
      have hPzi : (0 : Int) < PT.size := by omega
      have i47 : ((PT[0]'hPz).toNat : Int) = 47 := by rw [idx0 PT 47 b hPT hPz]; rfl
      obtain ⟨nP1, nP2, nP3⟩ := list_ne (a := PT) (l := []) (by rw [hPT, str_list]; simp)
      clear h hb hsl hfull hPT e0
      by_cases hNs : N = s.size
      · have bN : ((N : Int) == (s.size : Int)) = true := by rw [hNs]; exact beq_self_eq_true _
        have HV : Hid (R = some (Tg.straight (47 :: b))) := Lib.hid (HE1.out (by rw [hNs]; exact HLN.out))
        clear HE1 HE2 cQ hql hNs
        go_enter Tryz.func133, Tryz.ntmps133
        go_upto_block 0 with fail
        go_cut [4] from 8 to 19 (fun i wx => i = .int .i64 N ∧ wx = w)
        case first =>
          go_wp2_with fail
          go_loop [4] (fun i => ∃ k : Nat, k ≤ N ∧ i = .int .i64 k) (fun i => N - (intOf i).toNat)
          case atStart => exact ⟨0, by omega, rfl⟩
          case round =>
            obtain ⟨k, hk, rfl⟩ := hrel
            by_cases hlt : k < N
            · have hks : k < s.size := by omega
              have b63 := qm_false (F2.out k hks hlt)
              have hki : (k : Int) < s.size := by omega
              have hk0 : (0 : Int) ≤ k := by omega
              go_wp2_with fail
              go_round
              case rel => exact ⟨k + 1, by omega, by go_num⟩
              case measure => simp [intOf]; omega
            · obtain rfl : k = N := by omega
              by_cases hks : k < s.size
              · have i63 := qm_true (F3.out hks)
                have hki : (k : Int) < s.size := by omega
                go_wp2_with fail
                go_meet
                case rel => exact ⟨rfl, rfl⟩
              · have hki : ¬ ((k : Int) < s.size) := by omega
                go_wp2_with fail
                go_meet
                case rel => exact ⟨rfl, rfl⟩
        case rest =>
          obtain ⟨rfl, rfl⟩ := hcut
          go_wp2_with fail
          refine (cC _).mono ?_
          rintro e W1 ⟨rfl, hb1⟩
          have hb1 := bt' (Below.refl _ _) hb1
          go_wp2_with fail
          refine (cD _).mono ?_
          rintro e W2 ⟨rfl, rfl⟩
          go_wp2_with fail
          go_ret2
          exact ⟨⟨_, by rw [HV.out] <;> rfl, fun m h => by rw [HV.out] at h; rw [← Option.some.inj h]; exact HG.out⟩, hb1⟩
      · have bN : ((N : Int) == (s.size : Int)) = false := beq_eq_false_iff_ne.2 (by omega)
        have hN1 : (N : Int) + 1 ≤ s.size := by omega
        have hw1 : IntKind.i64.wrap ((N : Int) + 1) = (N : Int) + 1 := by rw [IntKind.wrap_i64]; omega
        have HVm := Lib.hid (HE2.out (by have := HLN.out; omega))
        cases qo with
        | none =>
          have HV : Hid (R = none) := Lib.hid HVm.out
          have e0 : eres none = .tuple #[.string ⟨#[]⟩, .bool false] := rfl
          rw [e0] at cQ
          clear HE1 HE2 hql hNs HVm
          go_enter Tryz.func133, Tryz.ntmps133
          go_upto_block 0 with fail
          go_cut [4] from 8 to 19 (fun i wx => i = .int .i64 N ∧ wx = w)
          case first =>
            go_wp2_with fail
            go_loop [4] (fun i => ∃ k : Nat, k ≤ N ∧ i = .int .i64 k) (fun i => N - (intOf i).toNat)
            case atStart => exact ⟨0, by omega, rfl⟩
            case round =>
              obtain ⟨k, hk, rfl⟩ := hrel
              by_cases hlt : k < N
              · have hks : k < s.size := by omega
                have b63 := qm_false (F2.out k hks hlt)
                have hki : (k : Int) < s.size := by omega
                have hk0 : (0 : Int) ≤ k := by omega
                go_wp2_with fail
                go_round
                case rel => exact ⟨k + 1, by omega, by go_num⟩
                case measure => simp [intOf]; omega
              · obtain rfl : k = N := by omega
                by_cases hks : k < s.size
                · have i63 := qm_true (F3.out hks)
                  have hki : (k : Int) < s.size := by omega
                  go_wp2_with fail
                  go_meet
                  case rel => exact ⟨rfl, rfl⟩
                · have hki : ¬ ((k : Int) < s.size) := by omega
                  go_wp2_with fail
                  go_meet
                  case rel => exact ⟨rfl, rfl⟩
          case rest =>
            obtain ⟨rfl, rfl⟩ := hcut
            go_wp2_with fail
            refine (cC _).mono ?_
            rintro e W1 ⟨rfl, hb1⟩
            have hb1 := bt' (Below.refl _ _) hb1
            go_wp2_with fail
            refine (cD _).mono ?_
            rintro e W2 ⟨rfl, rfl⟩
            go_wp2_with fail
            refine (cQ _).mono ?_
            rintro e W3 ⟨rfl, hb3⟩
            have hb3 := bt' hb1 hb3
            have hzs : (G ++ ⟨#[63]⟩ : ByteArray).size ≤ 90002 := by rw [ByteArray.size_append]; show G.size + 1 ≤ _; omega
            go_wp2_with fail
            go_ret2
            exact ⟨⟨_, by rw [HV.out] <;> rfl, fun m h => by rw [HV.out] at h; cases h⟩, hb3⟩
        | some q =>
          have HV : Hid (R = some (Tg.straight (47 :: b) ++ 63 :: q)) := Lib.hid HVm.out
          have e0 : eres (some q) = .tuple #[.string (str q), .bool true] := rfl
          rw [e0] at cQ
          have hqz : (str q).size ≤ 90000 := by rw [str_size]; exact hql q rfl
          have HS : Hid (G ++ ⟨#[63]⟩ ++ str q = str (Tg.straight (47 :: b) ++ 63 :: q)) := Lib.hid (str_same (by rw [app_data, app_data, HG.out, str_list, str_list]; simp))
          clear HE1 HE2 hql hNs HVm
          generalize str q = Q at *
          go_enter Tryz.func133, Tryz.ntmps133
          go_upto_block 0 with fail
          go_cut [4] from 8 to 19 (fun i wx => i = .int .i64 N ∧ wx = w)
          case first =>
            go_wp2_with fail
            go_loop [4] (fun i => ∃ k : Nat, k ≤ N ∧ i = .int .i64 k) (fun i => N - (intOf i).toNat)
            case atStart => exact ⟨0, by omega, rfl⟩
            case round =>
              obtain ⟨k, hk, rfl⟩ := hrel
              by_cases hlt : k < N
              · have hks : k < s.size := by omega
                have b63 := qm_false (F2.out k hks hlt)
                have hki : (k : Int) < s.size := by omega
                have hk0 : (0 : Int) ≤ k := by omega
                go_wp2_with fail
                go_round
                case rel => exact ⟨k + 1, by omega, by go_num⟩
                case measure => simp [intOf]; omega
              · obtain rfl : k = N := by omega
                by_cases hks : k < s.size
                · have i63 := qm_true (F3.out hks)
                  have hki : (k : Int) < s.size := by omega
                  go_wp2_with fail
                  go_meet
                  case rel => exact ⟨rfl, rfl⟩
                · have hki : ¬ ((k : Int) < s.size) := by omega
                  go_wp2_with fail
                  go_meet
                  case rel => exact ⟨rfl, rfl⟩
          case rest =>
            obtain ⟨rfl, rfl⟩ := hcut
            go_wp2_with fail
            refine (cC _).mono ?_
            rintro e W1 ⟨rfl, hb1⟩
            have hb1 := bt' (Below.refl _ _) hb1
            go_wp2_with fail
            refine (cD _).mono ?_
            rintro e W2 ⟨rfl, rfl⟩
            go_wp2_with fail
            refine (cQ _).mono ?_
            rintro e W3 ⟨rfl, hb3⟩
            have hb3 := bt' hb1 hb3
            have hzs : (G ++ ⟨#[63]⟩ : ByteArray).size ≤ 90002 := by rw [ByteArray.size_append]; show G.size + 1 ≤ _; omega
            go_wp2_with fail
            go_ret2
            exact ⟨⟨_, by rw [HV.out] <;> rfl, fun m h => by rw [HV.out] at h; rw [← Option.some.inj h]; exact HS.out⟩, hb3⟩
set_option maxHeartbeats 1600000 in
set_option maxRecDepth 100000 in
theorem rat_s (h : List UInt8) (k : Int) (l : List UInt8) (w : World) (hl : l.length ≤ 90000) (hbg : Tg.Begins l) :
    Calls Tryz.prog 96 #[.string (str h), .int .i64 k, .string (str l)] w fun e w' => e = .returned (ures (Tg.atU h k (Tg.slash l))) ∧ Below w.heap.size w w' := by
  have cP := fun (W : World) => rplace_s l W hl hbg
  have hR0 := Res.start w (.string ⟨#[]⟩) (.int .i64 0) (.string ⟨#[]⟩)
  have HAT : Hid (∀ r, Tg.place (Tg.slash l) = r → Tg.atU h k (Tg.slash l) = match r with | none => (Tg.zero, 10) | some m => (⟨h, k, m⟩, 0)) := Lib.hid (by rintro r rfl; rfl)
  generalize str l = s at *
  cases hp : Tg.place (Tg.slash l) with
  | none =>
    have HV : Hid (Tg.atU h k (Tg.slash l) = (Tg.zero, 10)) := Lib.hid (HAT.out none hp)
    rw [hp, show (none : Option (List UInt8)).isSome = false from rfl] at cP
    generalize str h = H at *
    clear HAT hp hl hbg
    go_enter Tryz.func96, Tryz.ntmps96
    go_upto_region 1 with fail
    generalize w.alloc (.cells #[.string ⟨#[]⟩, .int .i64 0, .string ⟨#[]⟩] 46) = W0 at hR0 ⊢
    go_wp2_with fail
    refine (cP _).mono ?_
    rintro e W1 ⟨⟨x, rfl, _⟩, hb1⟩
    have hR1 := hR0.later hb1
    go_wp2_with (refine stU hR1 rfl (.tmp 6) (.tmp 17) rfl _ _ _ rfl rfl ?_; intro W2 hR2 _)
    (try simp only [Exit.inBlock, Exit.then])
    refine ret_uri rfl w.heap.size _ _ _ rfl hR2.cell rfl ?_
    exact ⟨by rw [HV.out]; rfl, hR2.below⟩
  | some m =>
    have HV : Hid (Tg.atU h k (Tg.slash l) = (⟨h, k, m⟩, 0)) := Lib.hid (HAT.out (some m) hp)
    have HU : Hid (ures (⟨h, k, m⟩, 0) = .tuple #[.agg #[.string (str h), .int .i64 k, .string (str m)], .int .i64 0]) := Lib.hid rfl
    rw [hp, show (some m : Option (List UInt8)).isSome = true from rfl] at cP
    generalize str h = H at *
    clear HAT hp hl hbg
    go_enter Tryz.func96, Tryz.ntmps96
    go_upto_region 1 with fail
    generalize w.alloc (.cells #[.string ⟨#[]⟩, .int .i64 0, .string ⟨#[]⟩] 46) = W0 at hR0 ⊢
    go_wp2_with fail
    refine (cP _).mono ?_
    rintro e W1 ⟨⟨x, rfl, hx⟩, hb1⟩
    have hR1 := hR0.later hb1
    obtain rfl := hx m rfl
    go_wp2_with (refine stU hR1 rfl (.tmp 6) (.tmp 21) rfl _ _ _ rfl rfl ?_; intro W2 hR2 _)
    (try simp only [Exit.inBlock, Exit.then])
    refine ret_uri rfl w.heap.size _ _ _ rfl hR2.cell rfl ?_
    exact ⟨by rw [HV.out, HU.out]; rfl, hR2.below⟩
end Go.Proofs.YtoanelobggledaaGreatDoor

namespace Go.Proofs.YtoanelobggledaaGreatDoor
open Go.RowKit

theorem ahead_from (p : UInt8 → Bool) (s : ByteArray) (a : Nat) (ha : a ≤ s.size) (E : Nat) (hE : E = a + Tg.ahead p (s.data.toList.drop a)) :
    a ≤ E ∧ E ≤ s.size ∧ (∀ k (hk : k < s.size), a ≤ k → k < E → p s[k] = false) ∧ (∀ hk : E < s.size, p s[E] = true) := by
  have hz : s.data.toList.length = s.size := by simp
  have hle := Tg.ahead_le p (s.data.toList.drop a)
  rw [List.length_drop] at hle
  refine ⟨by omega, by omega, ?_, ?_⟩
  · intro k hk h1 h2
    refine Tg.ahead_take p (s.data.toList.drop a) s[k] ?_
    have h3 := Lib.data_getElem? s k hk
    refine List.mem_of_getElem? (i := k - a) ?_
    rw [List.getElem?_take_of_lt (by omega), List.getElem?_drop, show a + (k - a) = k by omega, h3]
  · intro hk
    rcases Tg.ahead_drop p (s.data.toList.drop a) with h | ⟨c, t, h, hc⟩
    · have := congrArg List.length h
      rw [List.length_drop, List.length_drop] at this; simp at this; omega
    · have h1 := Lib.data_getElem? s _ hk
      have h2 : ((s.data.toList.drop a).drop (Tg.ahead p (s.data.toList.drop a)))[0]? = some c := by rw [h]; rfl
      rw [List.getElem?_drop, Nat.add_zero, List.getElem?_drop, ← hE, h1] at h2
      rw [Option.some.inj h2]; exact hc
theorem sq_false {c : UInt8} (h : Tg.sq c = false) : ((c.toNat : Int) != 47) = true ∧ ((c.toNat : Int) != 63) = true :=
  ⟨ne8 c 47 47 rfl (fun e => by rw [e] at h; cases h), ne8 c 63 63 rfl (fun e => by rw [e] at h; cases h)⟩
theorem sq_true {c : UInt8} (h : Tg.sq c = true) : (c.toNat : Int) = 47 ∨ (c.toNat : Int) = 63 := by
  have : c = 47 ∨ c = 63 := by simpa [Tg.sq] using h
  rcases this with rfl | rfl
  · exact .inl rfl
  · exact .inr rfl
theorem begins_sq (l : List UInt8) : Tg.Begins (l.drop (Tg.ahead Tg.sq l)) := by
  rcases Tg.ahead_drop Tg.sq l with h | ⟨c, t, h, hc⟩
  · exact .inl h
  · rw [h]
    have : c = 47 ∨ c = 63 := by simpa [Tg.sq] using hc
    rcases this with rfl | rfl
    · exact .inr (.inl rfl)
    · exact .inr (.inr rfl)
theorem ures_u (ra : List UInt8) (rb : Int) (rc : List UInt8) (rd : Int) : ures (⟨ra, rb, rc⟩, rd) = .tuple #[.agg #[.string (str ra), .int .i64 rb, .string (str rc)], .int .i64 rd] := rfl
set_option maxHeartbeats 3200000 in
set_option maxRecDepth 100000 in
theorem rParse_s (l : List UInt8) (w : World) (hl : l.length ≤ 90000) :
    Calls Tryz.prog 95 #[.string (str l)] w fun e w' => e = .returned (ures (Tg.parse l)) ∧ Below w.heap.size w w' := by
  have cH := fun (W : World) => rhttp_s l W (by omega)
  obtain ⟨s, hs⟩ : ∃ s, s = str l := ⟨_, rfl⟩
  have hsd : s.data.toList = l := by rw [hs, str_list]
  have hsz : s.size = l.length := by rw [hs, str_size]
  rw [← hs] at cH ⊢
  have hR0 := Res.start w (.string ⟨#[]⟩) (.int .i64 0) (.string ⟨#[]⟩)
  by_cases h8 : 8000 < l.length
  · have HV : Hid (Tg.parse l = (Tg.zero, 12)) := by unfold Tg.parse; rw [if_pos h8]; exact Lib.hid rfl
    have h8i : (8000 : Int) < s.size := by omega
    clear hs hsd hsz cH h8 hl
    go_enter Tryz.func95, Tryz.ntmps95
    go_upto_region 1 with fail
    generalize w.alloc (.cells #[.string ⟨#[]⟩, .int .i64 0, .string ⟨#[]⟩] 46) = W0 at hR0 ⊢
    go_wp2_with (refine stU hR0 rfl (.tmp 2) (.tmp 11) rfl _ _ _ rfl rfl ?_; intro W9 hR9 _)
    (try simp only [Exit.inBlock, Exit.then])
    refine ret_uri rfl w.heap.size _ _ _ rfl hR9.cell rfl ?_
    exact ⟨by rw [HV.out]; rfl, hR9.below⟩
  have h8i : ¬ (8000 : Int) < s.size := by omega
  cases hh : Tg.http l with
  | false =>
    have HV : Hid (Tg.parse l = (Tg.zero, 10)) := by unfold Tg.parse; rw [if_neg h8, if_pos hh]; exact Lib.hid rfl
    rw [hh] at cH
    clear hs hsd hsz h8 hl hh
    go_enter Tryz.func95, Tryz.ntmps95
    go_upto_region 1 with fail
    generalize w.alloc (.cells #[.string ⟨#[]⟩, .int .i64 0, .string ⟨#[]⟩] 46) = W0 at hR0 ⊢
    go_wp2_with fail
    refine (cH _).mono ?_
    rintro e W1 ⟨rfl, hb1⟩
    have hR1 := hR0.later hb1
    go_wp2_with (refine stU hR1 rfl (.tmp 2) (.tmp 15) rfl _ _ _ rfl rfl ?_; intro W9 hR9 _)
    (try simp only [Exit.inBlock, Exit.then])
    refine ret_uri rfl w.heap.size _ _ _ rfl hR9.cell rfl ?_
    exact ⟨by rw [HV.out]; rfl, hR9.below⟩
  | true =>
    have h7 : 7 ≤ l.length := by unfold Tg.http at hh; simp at hh; exact hh.1
    obtain ⟨E, hE⟩ : ∃ E, E = 7 + Tg.ahead Tg.sq (s.data.toList.drop 7) := ⟨_, rfl⟩
    obtain ⟨f0, f1, f2, f3⟩ := ahead_from Tg.sq s 7 (by omega) E hE
    rw [hsd] at hE
    have hdE : (l.drop 7).drop (Tg.ahead Tg.sq (l.drop 7)) = l.drop E := by rw [List.drop_drop, hE]
    have htE : (l.drop 7).take (Tg.ahead Tg.sq (l.drop 7)) = (l.take E).drop 7 := by rw [List.drop_take, hE]; congr 1; omega
    have HP : Hid (∀ r, Tg.site ((l.take E).drop 7) = r → Tg.parse l = match r with | none => (Tg.zero, 10) | some x => Tg.atU x.1 x.2 (Tg.slash (l.drop E))) := Lib.hid (by
      rintro r rfl
      unfold Tg.parse
      rw [if_neg h8, if_neg (by rw [hh]; decide), hdE, htE]
      cases Tg.site ((l.take E).drop 7) <;> rfl)
    have hbg : Tg.Begins (l.drop E) := by rw [← hdE]; exact begins_sq _
    have e1 : s.extract 7 E = str ((l.take E).drop 7) := str_same (by rw [Lib.extract_data, hsd, List.drop_take])
    have e2 : s.extract E s.size = str (l.drop E) := str_same (by rw [Lib.extract_data, hsd, List.take_of_length_le]; rw [List.length_drop]; omega)
    have cS := fun (W : World) => seat_s ((l.take E).drop 7) W (by simp; omega)
    rw [← e1] at cS
    have cA := fun (h : List UInt8) (k : Int) (W : World) => rat_s h k (l.drop E) W (by rw [List.length_drop]; omega) hbg
    rw [← e2] at cA
    rw [hh] at cH
    have F2 := Lib.hid f2
    have F3 := Lib.hid f3
    have hEi : (E : Int) ≤ s.size := by omega
    have hE7 : (7 : Int) ≤ E := by omega
    have hE0 : (0 : Int) ≤ E := by omega
    have hs6 : s.size ≤ 90000 := by omega
    clear f2 f3 e1 e2 hbg hdE htE hE h7 h8 hs hsd hsz hl hh
    cases hsi : Tg.site ((l.take E).drop 7) with
    | none =>
      have HV : Hid (Tg.parse l = (Tg.zero, 10)) := Lib.hid (HP.out none hsi)
      have e0 : qres none = .tuple #[.string ⟨#[]⟩, .int .i64 0, .bool false] := rfl
      rw [hsi, e0] at cS
      clear HP hsi cA e0
      go_enter Tryz.func95, Tryz.ntmps95
      go_upto_region 1 with fail
      generalize w.alloc (.cells #[.string ⟨#[]⟩, .int .i64 0, .string ⟨#[]⟩] 46) = W0 at hR0 ⊢
      go_wp2_with fail
      refine (cH _).mono ?_
      rintro e W1 ⟨rfl, hb1⟩
      have hR1 := hR0.later hb1
      clear hR0 hb1
      go_upto_block 0 with fail
      go_cut [4] from 16 to 33 (fun i wx => i = .int .i64 E ∧ wx = W1)
      case first =>
        go_wp2_with fail
        go_loop [4] (fun i => ∃ k : Nat, 7 ≤ k ∧ k ≤ E ∧ i = .int .i64 k) (fun i => E - (intOf i).toNat)
        case atStart => exact ⟨7, by omega, by omega, rfl⟩
        case round =>
          obtain ⟨k, hk7, hk, rfl⟩ := hrel
          have hk0 : (0 : Int) ≤ k := by omega
          by_cases hlt : k < E
          · have hks : k < s.size := by omega
            obtain ⟨b47, b63⟩ := sq_false (F2.out k hks hk7 hlt)
            have hki : (k : Int) < s.size := by omega
            go_wp2_with fail
            go_round
            case rel => exact ⟨k + 1, by omega, by omega, by go_num⟩
            case measure => simp [intOf]; omega
          · obtain rfl : k = E := by omega
            by_cases hks : k < s.size
            · have hki : (k : Int) < s.size := by omega
              rcases sq_true (F3.out hks) with i47 | i63
              · go_wp2_with fail
                go_meet
                case rel => exact ⟨rfl, rfl⟩
              · go_wp2_with fail
                go_meet
                case rel => exact ⟨rfl, rfl⟩
            · have hki : ¬ ((k : Int) < s.size) := by omega
              go_wp2_with fail
              go_meet
              case rel => exact ⟨rfl, rfl⟩
      case rest =>
        obtain ⟨rfl, rfl⟩ := hcut
        go_wp2_with fail
        refine (cS _).mono ?_
        rintro e W2 ⟨rfl, hb2⟩
        have hR2 := hR1.later hb2
        go_wp2_with (refine stU hR2 rfl (.tmp 2) (.tmp 44) rfl _ _ _ rfl rfl ?_; intro W9 hR9 _)
        (try simp only [Exit.inBlock, Exit.then])
        refine ret_uri rfl w.heap.size _ _ _ rfl hR9.cell rfl ?_
        exact ⟨by rw [HV.out]; rfl, hR9.below⟩
    | some x =>
      obtain ⟨xh, xk⟩ := x
      have HV : Hid (Tg.parse l = Tg.atU xh xk (Tg.slash (l.drop E))) := Lib.hid (HP.out (some (xh, xk)) hsi)
      have e0 : qres (some (xh, xk)) = .tuple #[.string (str xh), .int .i64 xk, .bool true] := rfl
      rw [hsi, e0] at cS
      have cA := cA xh xk
      obtain ⟨⟨⟨ra, rb, rc⟩, rd⟩, hr⟩ : ∃ r, Tg.atU xh xk (Tg.slash (l.drop E)) = r := ⟨_, rfl⟩
      rw [hr, ures_u] at cA
      rw [hr] at HV
      generalize str xh = sh at *
      clear HP hsi hr e0
      go_enter Tryz.func95, Tryz.ntmps95
      go_upto_region 1 with fail
      generalize w.alloc (.cells #[.string ⟨#[]⟩, .int .i64 0, .string ⟨#[]⟩] 46) = W0 at hR0 ⊢
      go_wp2_with fail
      refine (cH _).mono ?_
      rintro e W1 ⟨rfl, hb1⟩
      have hR1 := hR0.later hb1
      clear hR0 hb1
      go_upto_block 0 with fail
      go_cut [4] from 16 to 33 (fun i wx => i = .int .i64 E ∧ wx = W1)
      case first =>
        go_wp2_with fail
        go_loop [4] (fun i => ∃ k : Nat, 7 ≤ k ∧ k ≤ E ∧ i = .int .i64 k) (fun i => E - (intOf i).toNat)
        case atStart => exact ⟨7, by omega, by omega, rfl⟩
        case round =>
          obtain ⟨k, hk7, hk, rfl⟩ := hrel
          have hk0 : (0 : Int) ≤ k := by omega
          by_cases hlt : k < E
          · have hks : k < s.size := by omega
            obtain ⟨b47, b63⟩ := sq_false (F2.out k hks hk7 hlt)
            have hki : (k : Int) < s.size := by omega
            go_wp2_with fail
            go_round
            case rel => exact ⟨k + 1, by omega, by omega, by go_num⟩
            case measure => simp [intOf]; omega
          · obtain rfl : k = E := by omega
            by_cases hks : k < s.size
            · have hki : (k : Int) < s.size := by omega
              rcases sq_true (F3.out hks) with i47 | i63
              · go_wp2_with fail
                go_meet
                case rel => exact ⟨rfl, rfl⟩
              · go_wp2_with fail
                go_meet
                case rel => exact ⟨rfl, rfl⟩
            · have hki : ¬ ((k : Int) < s.size) := by omega
              go_wp2_with fail
              go_meet
              case rel => exact ⟨rfl, rfl⟩
      case rest =>
        obtain ⟨rfl, rfl⟩ := hcut
        go_wp2_with fail
        refine (cS _).mono ?_
        rintro e W2 ⟨rfl, hb2⟩
        have hR2 := hR1.later hb2
        go_wp2_with fail
        refine (cA _).mono ?_
        rintro e W3 ⟨rfl, hb3⟩
        have hR3 := hR2.later hb3
        go_wp2_with (refine stU hR3 rfl (.tmp 2) (.tmp 51) rfl _ _ _ rfl rfl ?_; intro W9 hR9 _)
        (try simp only [Exit.inBlock, Exit.then])
        refine ret_uri rfl w.heap.size _ _ _ rfl hR9.cell rfl ?_
        exact ⟨by rw [HV.out]; rfl, hR9.below⟩
set_option maxHeartbeats 1600000 in
set_option maxRecDepth 100000 in
theorem rPrint_u (u : Tg.U) (w : World) (h1 : u.host.length ≤ 1000000) (h2 : u.path.length ≤ 1000000) (h3 : u.port ≤ 9223372036854775807) :
    Calls Tryz.prog 131 #[uval u] w fun e w' => e = .returned (.string (str (Tg.print u))) ∧ Below w.heap.size w w' := by
  rw [uval_u]
  have hU0 := Res.start w (.string (str u.host)) (.int .i64 u.port) (.string (str u.path))
  have hz1 : (str u.host).size ≤ 1000000 := by rw [str_size]; exact h1
  have hz2 : (str u.path).size ≤ 1000000 := by rw [str_size]; exact h2
  by_cases h80 : u.port = 80
  · have HV : Hid ((⟨#[104, 116, 116, 112, 58, 47, 47]⟩ : ByteArray) ++ str u.host ++ str u.path = str (Tg.print u)) := by
      refine Lib.hid (str_same ?_)
      rw [app_data, app_data, str_list, str_list]
      unfold Tg.print Tg.portT; rw [if_pos h80, List.append_nil]; rfl
    rw [h80] at hU0 ⊢
    generalize str u.host = H at *
    generalize str u.path = P at *
    clear h1 h2 h3 h80
    go_enter Tryz.func131, Tryz.ntmps131
    go_upto_region 1 with fail
    generalize w.alloc (.cells #[.string H, .int .i64 80, .string P] 46) = W0 at hU0 ⊢
    obtain ⟨c0, c1, c2⟩ := box_cell hU0.cell
    have hB := hU0.below
    have hzs : (⟨#[104, 116, 116, 112, 58, 47, 47]⟩ ++ H : ByteArray).size ≤ 1000007 := by rw [ByteArray.size_append]; show 7 + H.size ≤ _; omega
    clear hU0
    go_wp2_with fail
    go_ret
    exact ⟨by rw [← HV.out]; rfl, hB⟩
  · have b80 : (u.port != 80) = true := by rw [bne, beq_eq_false_iff_ne.2 h80]; rfl
    have HV : Hid ((⟨#[104, 116, 116, 112, 58, 47, 47]⟩ : ByteArray) ++ str u.host ++ ⟨#[58]⟩ ++ str (Oct.print u.port 10) ++ str u.path = str (Tg.print u)) := by
      refine Lib.hid (str_same ?_)
      rw [app_data, app_data, app_data, app_data, str_list, str_list, str_list]
      unfold Tg.print Tg.portT; rw [if_neg h80]
      simp [Tg.httpT]
    have cP := fun (W : World) => rPrint_is u.port 10 _ W h3 rfl
    have hz3 : (str (Oct.print u.port 10)).size ≤ 100 := by rw [str_size]; exact Oct.dgs_len10 u.port.toNat (by omega)
    generalize str u.host = H at *
    generalize str u.path = P at *
    generalize str (Oct.print u.port 10) = D at *
    generalize u.port = K at *
    clear h1 h2 h3 h80
    go_enter Tryz.func131, Tryz.ntmps131
    go_upto_region 1 with fail
    generalize w.alloc (.cells #[.string H, .int .i64 K, .string P] 46) = W0 at hU0 ⊢
    obtain ⟨c0, c1, c2⟩ := box_cell hU0.cell
    have hzs : (⟨#[104, 116, 116, 112, 58, 47, 47]⟩ ++ H : ByteArray).size ≤ 1000007 := by rw [ByteArray.size_append]; show 7 + H.size ≤ _; omega
    have hzs2 : (⟨#[104, 116, 116, 112, 58, 47, 47]⟩ ++ H ++ ⟨#[58]⟩ : ByteArray).size ≤ 1000008 := by rw [ByteArray.size_append]; show _ + 1 ≤ _; omega
    have hzs3 : (⟨#[104, 116, 116, 112, 58, 47, 47]⟩ ++ H ++ ⟨#[58]⟩ ++ D : ByteArray).size ≤ 1000108 := by rw [ByteArray.size_append]; omega
    go_wp2_with fail
    refine (cP _).mono ?_
    rintro e W1 ⟨rfl, hb1⟩
    have hU1 := hU0.later hb1
    obtain ⟨d0, d1, d2⟩ := box_cell hU1.cell
    have hB := hU1.below
    clear c0 c1 c2 hU0 hU1 cP hb1
    go_wp2_with fail
    go_ret
    exact ⟨by rw [← HV.out]; rfl, hB⟩
set_option maxHeartbeats 1600000 in
set_option maxRecDepth 100000 in
theorem rRight_u (u : Tg.U) (w : World) (h1 : u.host.length ≤ 40000) (h2 : u.path.length ≤ 40000) (h3 : u.port ≤ 9223372036854775807) :
    Calls Tryz.prog 93 #[uval u] w fun e w' => e = .returned (.bool (Tg.right u)) ∧ Below w.heap.size w w' := by
  have hpl : (Tg.print u).length ≤ 90000 := by
    unfold Tg.print Tg.portT
    have h4 : Tg.httpT.length = 7 := rfl
    have h5 := Oct.dgs_len10 u.port.toNat (by omega)
    have h6 : (Oct.print u.port 10).length ≤ 100 := h5
    split <;> simp <;> omega
  have cP := fun (W : World) => rPrint_u u W (by omega) (by omega) h3
  have cQ := fun (W : World) => rParse_s (Tg.print u) W hpl
  obtain ⟨⟨v, e⟩, hve⟩ : ∃ r, Tg.parse (Tg.print u) = r := ⟨_, rfl⟩
  have HV : Hid (Tg.right u = (decide (e = 0) && decide (v = u))) := by
    have : Tg.right u = (decide (e = 0) && decide (v = u)) := by
      unfold Tg.right; rw [hve, Bool.eq_iff_iff]; simp [and_comm]
    exact Lib.hid this
  rw [hve] at cQ
  have e1 : ures (v, e) = .tuple #[.agg #[.string (str v.host), .int .i64 v.port, .string (str v.path)], .int .i64 e] := rfl
  rw [e1] at cQ
  have hG := fun (x y : Nat) (W : World) => guard_uri .eql (.inl rfl) x y v u W
  have hE := fun (W : World) => eql_uri v u W
  rw [uval_u, uval_u] at hE
  simp only [uval_u] at hG
  rw [uval_u] at cP
  have hU0 := Res.start w (.string (str u.host)) (.int .i64 u.port) (.string (str u.path))
  clear e1 hve hpl h1 h2 h3
  rw [uval_u]
  generalize str (Tg.print u) = PR at *
  generalize decide (v = u) = q at *
  generalize str u.host = H at *
  generalize str u.path = P at *
  generalize u.port = K at *
  generalize str v.host = H2 at *
  generalize str v.path = P2 at *
  generalize v.port = K2 at *
  go_enter Tryz.func93, Tryz.ntmps93
  go_upto_region 1 with fail
  generalize w.alloc (.cells #[.string H, .int .i64 K, .string P] 46) = W0 at hU0 ⊢
  go_wp2_with (refine ldU hU0.cell rfl (.tmp 1) rfl rfl ?_)
  refine (cP _).mono ?_
  rintro e' W1 ⟨rfl, hb1⟩
  have hU1 := hU0.later hb1
  go_wp2_with fail
  refine (cQ _).mono ?_
  rintro e' W2 ⟨rfl, hb2⟩
  have hU2 := (hU1.later hb2).alloc (.cells #[.string H2, .int .i64 K2, .string P2] 46)
  have hS2 := Res.start W2 (.string H2) (.int .i64 K2) (.string P2)
  clear hU0 hU1 hb1 hb2 cP cQ
  go_upto_region 2 with fail
  generalize W2.alloc (.cells #[.string H2, .int .i64 K2, .string P2] 46) = W3 at hU2 hS2 ⊢
  generalize W2.heap.size = G at hS2 ⊢
  obtain ⟨c0, c1, c2⟩ := box_cell hU2.cell
  obtain ⟨d0, d1, d2⟩ := box_cell hS2.cell
  have hB := hU2.below
  clear hU2 hS2
  by_cases he : e = 0
  · subst he
    have HV2 : Hid (Tg.right u = q) := by rw [HV.out]; exact Lib.hid (by simp)
    go_wp2_with fail
    go_ret
    exact ⟨ret_bool HV2.out.symm, hB⟩
  · have b0 : (e == 0) = false := beq_eq_false_iff_ne.2 he
    have HV2 : Hid (Tg.right u = false) := by rw [HV.out]; exact Lib.hid (by simp [he])
    clear he
    go_wp2_with fail
    go_ret
    exact ⟨ret_bool HV2.out.symm, hB⟩
end Go.Proofs.YtoanelobggledaaGreatDoor

namespace Go.Proofs.YtoanelobggledaaGreatDoor
open Go.RowKit

theorem upto_facts (A : ByteArray) (l : List UInt8) (hl : A.data.toList = l) (h : (47 : UInt8) ∈ l) : ∃ q1, 1 ≤ q1 ∧ q1 ≤ A.size ∧ (∀ j (hj : j < A.size), j + 1 = q1 → A[j] = 47) ∧ (∀ j (hj : j < A.size), q1 ≤ j → A[j] ≠ 47) ∧ A.extract 0 q1 = str (Tg.upto l) := by
  obtain ⟨b, a, h1, h2⟩ := List.eq_append_cons_of_mem (a := (47 : UInt8)) (List.mem_reverse.2 h)
  have e : l = a.reverse ++ 47 :: b.reverse := by
    have := congrArg List.reverse h1
    rw [List.reverse_reverse] at this
    rw [this]; simp
  have hb : ∀ c ∈ b.reverse, c ≠ 47 := fun c hc e2 => h2 (by rw [← e2]; exact List.mem_reverse.1 hc)
  rw [e] at hl
  obtain ⟨q, hq, g1, g2, g3, g4⟩ := last_facts A _ _ hl hb
  refine ⟨q + 1, by omega, by omega, ?_, fun j hj h => g2 j hj (by omega), ?_⟩
  · intro j hj h
    obtain rfl : j = q := by omega
    exact g3 hj
  · refine str_same ?_
    rw [Lib.extract_data, hl, e, upto_last _ _ hb, hq]
    simp [List.take_append]
    exact List.take_of_length_le (by simp)
theorem two_slashes {r : List UInt8} (h : r.take 2 = [47, 47]) : ∃ t, r = 47 :: 47 :: t := by
  match r, h with
  | [], h => cases h
  | [c], h => cases h
  | c :: d :: t, h =>
    have e := List.cons.inj h
    have e2 := List.cons.inj e.2
    obtain rfl := e.1
    obtain rfl := e2.1
    exact ⟨t, rfl⟩
theorem begins_47 {t : List UInt8} (h : t.head? = some 47) : Tg.Begins t ∧ Tg.slash t = t := ⟨.inr (.inl h), by unfold Tg.slash; rw [if_pos h]⟩
set_option maxHeartbeats 6400000 in
set_option maxRecDepth 100000 in
theorem rres_arg (u : Tg.U) (r : List UInt8) (w : World) (hh : u.host.length ≤ 40000) (hp : u.path.length ≤ 40000) (hk : u.port ≤ 9223372036854775807) (_hr : r.length ≤ 80000) (hri : Tg.right u = false) :
    Calls Tryz.prog 64 #[uval u, .string (str r)] w fun e w' => e = .returned (ures (Tg.zero, 2)) ∧ Below w.heap.size w w' := by
  have cRi := fun (W : World) => rRight_u u W hh hp hk
  rw [uval_u] at cRi
  have hU00 := Res.start w (.string (str u.host)) (.int .i64 u.port) (.string (str u.path))
  rw [hri] at cRi
  clear hri hh hp hk _hr
  rw [uval_u]
  generalize str u.host = H at *
  generalize u.port = K at *
  generalize str u.path = P at *
  generalize str r = s at *
  go_enter Tryz.func64, Tryz.ntmps64
  go_upto_region 1 with fail
  have hU0 := hU00.alloc (.cells #[.string ⟨#[]⟩, .int .i64 0, .string ⟨#[]⟩] 46)
  have hR0 : Res w (w.heap.size + 1) ((w.alloc (.cells #[.string H, .int .i64 K, .string P] 46)).alloc (.cells #[.string ⟨#[]⟩, .int .i64 0, .string ⟨#[]⟩] 46)) (.string ⟨#[]⟩) (.int .i64 0) (.string ⟨#[]⟩) :=
    ⟨heap_alloc2_new w _ _, hU0.below, by omega⟩
  generalize (w.alloc (.cells #[.string H, .int .i64 K, .string P] 46)).alloc (.cells #[.string ⟨#[]⟩, .int .i64 0, .string ⟨#[]⟩] 46) = W0 at hU0 hR0 ⊢
  generalize w.heap.size + 1 = G at hR0 ⊢
  go_wp2_with (refine ldU hU0.cell rfl (.tmp 2) rfl rfl ?_)
  refine (cRi _).mono ?_
  rintro e W1 ⟨rfl, hb1⟩
  have hU1 := hU0.later hb1
  have hR1 := hR0.later hb1
  clear hU00 hU0 hR0 hb1 cRi
  go_wp2_with (refine stU hR1 rfl (.tmp 4) (.tmp 13) rfl _ _ _ rfl rfl ?_; intro W9 hR9 _)
  (try simp only [Exit.inBlock, Exit.then])
  refine ret_uri rfl G _ _ _ rfl hR9.cell rfl ?_
  exact ⟨by rfl, hR9.below⟩
set_option maxHeartbeats 6400000 in
set_option maxRecDepth 100000 in
theorem rres_long (u : Tg.U) (r : List UInt8) (w : World) (hh : u.host.length ≤ 40000) (hp : u.path.length ≤ 40000) (hk : u.port ≤ 9223372036854775807) (hr : r.length ≤ 80000) (hri : Tg.right u = true) (h8 : 8000 < r.length) :
    Calls Tryz.prog 64 #[uval u, .string (str r)] w fun e w' => e = .returned (ures (Tg.zero, 12)) ∧ Below w.heap.size w w' := by
  have cRi := fun (W : World) => rRight_u u W hh hp hk
  rw [uval_u] at cRi
  have hU00 := Res.start w (.string (str u.host)) (.int .i64 u.port) (.string (str u.path))
  rw [hri] at cRi
  have i8 : (8000 : Int) < (str r).size := by rw [str_size]; omega
  clear hri hh hp hk hr h8
  rw [uval_u]
  generalize str u.host = H at *
  generalize u.port = K at *
  generalize str u.path = P at *
  generalize str r = s at *
  go_enter Tryz.func64, Tryz.ntmps64
  go_upto_region 1 with fail
  have hU0 := hU00.alloc (.cells #[.string ⟨#[]⟩, .int .i64 0, .string ⟨#[]⟩] 46)
  have hR0 : Res w (w.heap.size + 1) ((w.alloc (.cells #[.string H, .int .i64 K, .string P] 46)).alloc (.cells #[.string ⟨#[]⟩, .int .i64 0, .string ⟨#[]⟩] 46)) (.string ⟨#[]⟩) (.int .i64 0) (.string ⟨#[]⟩) :=
    ⟨heap_alloc2_new w _ _, hU0.below, by omega⟩
  generalize (w.alloc (.cells #[.string H, .int .i64 K, .string P] 46)).alloc (.cells #[.string ⟨#[]⟩, .int .i64 0, .string ⟨#[]⟩] 46) = W0 at hU0 hR0 ⊢
  generalize w.heap.size + 1 = G at hR0 ⊢
  go_wp2_with (refine ldU hU0.cell rfl (.tmp 2) rfl rfl ?_)
  refine (cRi _).mono ?_
  rintro e W1 ⟨rfl, hb1⟩
  have hU1 := hU0.later hb1
  have hR1 := hR0.later hb1
  clear hU00 hU0 hR0 hb1 cRi
  go_wp2_with (refine stU hR1 rfl (.tmp 4) (.tmp 17) rfl _ _ _ rfl rfl ?_; intro W9 hR9 _)
  (try simp only [Exit.inBlock, Exit.then])
  refine ret_uri rfl G _ _ _ rfl hR9.cell rfl ?_
  exact ⟨by rfl, hR9.below⟩
set_option maxHeartbeats 6400000 in
set_option maxRecDepth 100000 in
theorem rres_empty (u : Tg.U) (r : List UInt8) (w : World) (hh : u.host.length ≤ 40000) (hp : u.path.length ≤ 40000) (hk : u.port ≤ 9223372036854775807) (hr : r.length ≤ 80000) (hri : Tg.right u = true) (_h8 : ¬ 8000 < r.length) (h0 : r = []) :
    Calls Tryz.prog 64 #[uval u, .string (str r)] w fun e w' => e = .returned (ures (u, 0)) ∧ Below w.heap.size w w' := by
  have cRi := fun (W : World) => rRight_u u W hh hp hk
  rw [uval_u] at cRi
  have hU00 := Res.start w (.string (str u.host)) (.int .i64 u.port) (.string (str u.path))
  rw [hri] at cRi
  subst h0
  rw [show ures (u, 0) = .tuple #[.agg #[.string (str u.host), .int .i64 u.port, .string (str u.path)], .int .i64 0] from rfl]
  rw [show str [] = ⟨#[]⟩ from rfl]
  clear hri hh hp hk hr _h8
  rw [uval_u]
  generalize str u.host = H at *
  generalize u.port = K at *
  generalize str u.path = P at *
  go_enter Tryz.func64, Tryz.ntmps64
  go_upto_region 1 with fail
  have hU0 := hU00.alloc (.cells #[.string ⟨#[]⟩, .int .i64 0, .string ⟨#[]⟩] 46)
  have hR0 : Res w (w.heap.size + 1) ((w.alloc (.cells #[.string H, .int .i64 K, .string P] 46)).alloc (.cells #[.string ⟨#[]⟩, .int .i64 0, .string ⟨#[]⟩] 46)) (.string ⟨#[]⟩) (.int .i64 0) (.string ⟨#[]⟩) :=
    ⟨heap_alloc2_new w _ _, hU0.below, by omega⟩
  generalize (w.alloc (.cells #[.string H, .int .i64 K, .string P] 46)).alloc (.cells #[.string ⟨#[]⟩, .int .i64 0, .string ⟨#[]⟩] 46) = W0 at hU0 hR0 ⊢
  generalize w.heap.size + 1 = G at hR0 ⊢
  go_wp2_with (refine ldU hU0.cell rfl (.tmp 2) rfl rfl ?_)
  refine (cRi _).mono ?_
  rintro e W1 ⟨rfl, hb1⟩
  have hU1 := hU0.later hb1
  have hR1 := hR0.later hb1
  clear hU00 hU0 hR0 hb1 cRi
  go_wp2_with (first | (refine ldU hU1.cell rfl (.tmp 2) rfl rfl ?_) | (refine stU hR1 rfl (.tmp 4) (.tmp 20) rfl _ _ _ rfl rfl ?_; intro W9 hR9 _))
  (try simp only [Exit.inBlock, Exit.then])
  refine ret_uri rfl G _ _ _ rfl hR9.cell rfl ?_
  exact ⟨by rfl, hR9.below⟩
set_option maxHeartbeats 6400000 in
set_option maxRecDepth 100000 in
theorem rres_http (u : Tg.U) (r : List UInt8) (w : World) (hh : u.host.length ≤ 40000) (hp : u.path.length ≤ 40000) (hk : u.port ≤ 9223372036854775807) (hr : r.length ≤ 80000) (hri : Tg.right u = true) (h8 : ¬ 8000 < r.length) (h0 : r ≠ []) (hht : Tg.http r = true) :
    Calls Tryz.prog 64 #[uval u, .string (str r)] w fun e w' => e = .returned (ures (Tg.parse r)) ∧ Below w.heap.size w w' := by
  have cRi := fun (W : World) => rRight_u u W hh hp hk
  rw [uval_u] at cRi
  have hU00 := Res.start w (.string (str u.host)) (.int .i64 u.port) (.string (str u.path))
  rw [hri] at cRi
  have i8 : ¬ (8000 : Int) < (str r).size := by rw [str_size]; omega
  obtain ⟨n1, n2, n3⟩ := list_ne (a := str r) (l := []) (by rw [str_list]; exact h0)
  have cH := fun (W : World) => rhttp_s r W (by omega)
  rw [hht] at cH
  have cP := fun (W : World) => rParse_s r W (by omega)
  obtain ⟨⟨⟨ra, rb, rc⟩, rd⟩, hres⟩ : ∃ x, Tg.parse r = x := ⟨_, rfl⟩
  rw [hres, ures_u] at cP
  rw [hres, ures_u]
  clear hres
  clear hri hh hp hk hr h8 h0 hht
  rw [uval_u]
  generalize str u.host = H at *
  generalize u.port = K at *
  generalize str u.path = P at *
  generalize str r = s at *
  go_enter Tryz.func64, Tryz.ntmps64
  go_upto_region 1 with fail
  have hU0 := hU00.alloc (.cells #[.string ⟨#[]⟩, .int .i64 0, .string ⟨#[]⟩] 46)
  have hR0 : Res w (w.heap.size + 1) ((w.alloc (.cells #[.string H, .int .i64 K, .string P] 46)).alloc (.cells #[.string ⟨#[]⟩, .int .i64 0, .string ⟨#[]⟩] 46)) (.string ⟨#[]⟩) (.int .i64 0) (.string ⟨#[]⟩) :=
    ⟨heap_alloc2_new w _ _, hU0.below, by omega⟩
  generalize (w.alloc (.cells #[.string H, .int .i64 K, .string P] 46)).alloc (.cells #[.string ⟨#[]⟩, .int .i64 0, .string ⟨#[]⟩] 46) = W0 at hU0 hR0 ⊢
  generalize w.heap.size + 1 = G at hR0 ⊢
  go_wp2_with (refine ldU hU0.cell rfl (.tmp 2) rfl rfl ?_)
  refine (cRi _).mono ?_
  rintro e W1 ⟨rfl, hb1⟩
  have hU1 := hU0.later hb1
  have hR1 := hR0.later hb1
  clear hU00 hU0 hR0 hb1 cRi
  go_wp2_with fail
  refine (cH _).mono ?_
  rintro e W2 ⟨rfl, hb2⟩
  have hU2 := hU1.later hb2
  have hR2 := hR1.later hb2
  clear hU1 hR1 hb2 cH
  go_wp2_with fail
  refine (cP _).mono ?_
  rintro e W3 ⟨rfl, hb3⟩
  have hR3 := hR2.later hb3
  go_wp2_with (refine stU hR3 rfl (.tmp 4) (.tmp 25) rfl _ _ _ rfl rfl ?_; intro W9 hR9 _)
  (try simp only [Exit.inBlock, Exit.then])
  refine ret_uri rfl G _ _ _ rfl hR9.cell rfl ?_
  exact ⟨by rfl, hR9.below⟩
set_option maxHeartbeats 6400000 in
set_option maxRecDepth 100000 in
theorem rres_two (u : Tg.U) (r : List UInt8) (w : World) (hh : u.host.length ≤ 40000) (hp : u.path.length ≤ 40000) (hk : u.port ≤ 9223372036854775807) (hr : r.length ≤ 80000) (hri : Tg.right u = true) (h8 : ¬ 8000 < r.length) (h0 : r ≠ []) (hht : Tg.http r = false) (h2 : r.take 2 = [47, 47]) :
    Calls Tryz.prog 64 #[uval u, .string (str r)] w fun e w' => e = .returned (ures (Tg.parse (Tg.httpT.take 5 ++ r))) ∧ Below w.heap.size w w' := by
  have cRi := fun (W : World) => rRight_u u W hh hp hk
  rw [uval_u] at cRi
  have hU00 := Res.start w (.string (str u.host)) (.int .i64 u.port) (.string (str u.path))
  rw [hri] at cRi
  have i8 : ¬ (8000 : Int) < (str r).size := by rw [str_size]; omega
  obtain ⟨n1, n2, n3⟩ := list_ne (a := str r) (l := []) (by rw [str_list]; exact h0)
  have cH := fun (W : World) => rhttp_s r W (by omega)
  rw [hht] at cH
  have cP := fun (W : World) => rParse_s (Tg.httpT.take 5 ++ r) W (by simp [Tg.httpT]; omega)
  rw [show str (Tg.httpT.take 5 ++ r) = ⟨#[104, 116, 116, 112, 58]⟩ ++ str r from (str_same (by rw [app_data, str_list]; rfl)).symm] at cP
  obtain ⟨⟨⟨ra, rb, rc⟩, rd⟩, hres⟩ : ∃ x, Tg.parse (Tg.httpT.take 5 ++ r) = x := ⟨_, rfl⟩
  rw [hres, ures_u] at cP
  rw [hres, ures_u]
  clear hres
  obtain ⟨t, rfl⟩ := two_slashes h2
  have hz1 : 1 < (str (47 :: 47 :: t)).size := by rw [str_size]; simp
  have hz0 : 0 < (str (47 :: 47 :: t)).size := by omega
  have hz1i : (1 : Int) < (str (47 :: 47 :: t)).size := by omega
  have hz0i : (0 : Int) < (str (47 :: 47 :: t)).size := by omega
  have j0 : (((str (47 :: 47 :: t))[0]'hz0).toNat : Int) = 47 := rfl
  have j1 : (((str (47 :: 47 :: t))[1]'hz1).toNat : Int) = 47 := rfl
  have hzz : (str (47 :: 47 :: t)).size ≤ 80000 := by rw [str_size]; exact hr
  clear hri hh hp hk hr h8 h0 hht h2
  rw [uval_u]
  generalize str u.host = H at *
  generalize u.port = K at *
  generalize str u.path = P at *
  generalize str (47 :: 47 :: t) = s at *
  go_enter Tryz.func64, Tryz.ntmps64
  go_upto_region 1 with fail
  have hU0 := hU00.alloc (.cells #[.string ⟨#[]⟩, .int .i64 0, .string ⟨#[]⟩] 46)
  have hR0 : Res w (w.heap.size + 1) ((w.alloc (.cells #[.string H, .int .i64 K, .string P] 46)).alloc (.cells #[.string ⟨#[]⟩, .int .i64 0, .string ⟨#[]⟩] 46)) (.string ⟨#[]⟩) (.int .i64 0) (.string ⟨#[]⟩) :=
    ⟨heap_alloc2_new w _ _, hU0.below, by omega⟩
  generalize (w.alloc (.cells #[.string H, .int .i64 K, .string P] 46)).alloc (.cells #[.string ⟨#[]⟩, .int .i64 0, .string ⟨#[]⟩] 46) = W0 at hU0 hR0 ⊢
  generalize w.heap.size + 1 = G at hR0 ⊢
  go_wp2_with (refine ldU hU0.cell rfl (.tmp 2) rfl rfl ?_)
  refine (cRi _).mono ?_
  rintro e W1 ⟨rfl, hb1⟩
  have hU1 := hU0.later hb1
  have hR1 := hR0.later hb1
  clear hU00 hU0 hR0 hb1 cRi
  go_wp2_with fail
  refine (cH _).mono ?_
  rintro e W2 ⟨rfl, hb2⟩
  have hU2 := hU1.later hb2
  have hR2 := hR1.later hb2
  clear hU1 hR1 hb2 cH
  go_wp2_with fail
  refine (cP _).mono ?_
  rintro e W3 ⟨rfl, hb3⟩
  have hR3 := hR2.later hb3
  go_wp2_with (refine stU hR3 rfl (.tmp 4) (.tmp 43) rfl _ _ _ rfl rfl ?_; intro W9 hR9 _)
  (try simp only [Exit.inBlock, Exit.then])
  refine ret_uri rfl G _ _ _ rfl hR9.cell rfl ?_
  exact ⟨by rfl, hR9.below⟩
end Go.Proofs.YtoanelobggledaaGreatDoor

namespace Go.Proofs.YtoanelobggledaaGreatDoor
open Go.RowKit

set_option maxHeartbeats 6400000 in
set_option maxRecDepth 100000 in
theorem rres_slash (u : Tg.U) (r : List UInt8) (w : World) (hh : u.host.length ≤ 40000) (hp : u.path.length ≤ 40000) (hk : u.port ≤ 9223372036854775807) (hr : r.length ≤ 80000) (hri : Tg.right u = true) (h8 : ¬ 8000 < r.length) (h0 : r ≠ []) (hht : Tg.http r = false) (h2 : ¬ r.take 2 = [47, 47]) (h47 : r.head? = some 47) :
    Calls Tryz.prog 64 #[uval u, .string (str r)] w fun e w' => e = .returned (ures (Tg.atU u.host u.port r)) ∧ Below w.heap.size w w' := by
  have cRi := fun (W : World) => rRight_u u W hh hp hk
  rw [uval_u] at cRi
  have hU00 := Res.start w (.string (str u.host)) (.int .i64 u.port) (.string (str u.path))
  rw [hri] at cRi
  have i8 : ¬ (8000 : Int) < (str r).size := by rw [str_size]; omega
  obtain ⟨n1, n2, n3⟩ := list_ne (a := str r) (l := []) (by rw [str_list]; exact h0)
  have cH := fun (W : World) => rhttp_s r W (by omega)
  rw [hht] at cH
  have hok := Tg.ok_of hri
  obtain ⟨pt, hpt⟩ := hok.head
  obtain ⟨N, hN, f1, f2, f3⟩ := ahead_facts Tg.qm (str u.path)
  rw [str_list] at hN
  obtain ⟨A, hA⟩ : ∃ A, A = (str u.path).extract 0 N := ⟨_, rfl⟩
  have hAd : A.data.toList = u.path.take N := by rw [hA, Lib.extract_data, str_list]; simp
  have hAz : A.size = N := by rw [hA]; simp; omega
  have hAP : N = (str u.path).size → A = str u.path := fun e => by rw [hA, e]; exact ByteArray.extract_zero_size
  obtain ⟨N1, hN1⟩ : ∃ N1, N1 = N + 1 := ⟨_, rfl⟩
  have hAh : ∃ a2, u.path.take N = 47 :: a2 := by
    have e : N = Tg.ahead Tg.qm pt + 1 := by rw [hN, hpt, Tg.ahead_miss Tg.qm 47 pt (by decide)]
    exact ⟨pt.take (Tg.ahead Tg.qm pt), by rw [e, hpt]; rfl⟩
  have hPz : (str u.path).size ≤ 40000 := by rw [str_size]; exact hp
  obtain ⟨c, rt, rfl⟩ : ∃ c rt, r = c :: rt := by
    cases r with
    | nil => exact absurd rfl h0
    | cons c rt => exact ⟨c, rt, rfl⟩
  have hz0 : 0 < (str (c :: rt)).size := by rw [str_size]; simp
  have hz0i : (0 : Int) < (str (c :: rt)).size := by omega
  have hzz : (str (c :: rt)).size ≤ 80000 := by rw [str_size]; exact hr
  have hrz := str_size (c :: rt)
  have hx0 : (str (c :: rt))[0]'hz0 = c := rfl
  obtain ⟨hbg, hsl⟩ := begins_47 h47
  have cA := fun (W : World) => rat_s u.host u.port (c :: rt) W (by omega) hbg
  rw [hsl] at cA
  obtain rfl : c = 47 := by simpa using h47
  have i47 : (((str (47 :: rt))[0]'hz0).toNat : Int) = 47 := rfl
  have H9 : Hid (¬ (1 : Int) < (str (47 :: rt)).size ∨ ∃ h1 : 1 < (str (47 :: rt)).size, ((((str (47 :: rt))[1]'h1).toNat : Int) == 47) = false) := Lib.hid (by
    cases rt with
    | nil => left; rw [str_size]; simp
    | cons d rt =>
      right
      refine ⟨by rw [str_size]; simp, ?_⟩
      refine nq8 _ 47 47 rfl ?_
      intro hd
      apply h2
      have e1 : (str (47 :: d :: rt))[1]'(by rw [str_size]; simp) = d := rfl
      rw [e1] at hd
      rw [hd]; rfl)
  obtain ⟨⟨⟨ra, rb, rc⟩, rd⟩, hres⟩ : ∃ x, Tg.atU u.host u.port (47 :: rt) = x := ⟨_, rfl⟩
  rw [hres, ures_u] at cA
  rw [hres, ures_u]
  clear hres
  have hAs : A.size ≤ 40000 := by omega
  have F2 := Lib.hid f2
  have F3 := Lib.hid f3
  have HN1 := Lib.hid hN1
  have HAP := Lib.hid hAP
  have HAZ := Lib.hid hAz
  have eA := hA.symm
  clear f2 f3 hN1 hA hAP hAz hN hri hok hpt hAh hh hp hk hr h8 h0 hht h2 hx0 h47 hbg hsl hAd hrz
  rw [uval_u]
  generalize str u.host = H at *
  generalize u.port = K at *
  generalize str u.path = P at *
  generalize str (47 :: rt) = s at *
  go_enter Tryz.func64, Tryz.ntmps64
  go_upto_region 1 with fail
  have hU0 := hU00.alloc (.cells #[.string ⟨#[]⟩, .int .i64 0, .string ⟨#[]⟩] 46)
  have hR0 : Res w (w.heap.size + 1) ((w.alloc (.cells #[.string H, .int .i64 K, .string P] 46)).alloc (.cells #[.string ⟨#[]⟩, .int .i64 0, .string ⟨#[]⟩] 46)) (.string ⟨#[]⟩) (.int .i64 0) (.string ⟨#[]⟩) :=
    ⟨heap_alloc2_new w _ _, hU0.below, by omega⟩
  generalize (w.alloc (.cells #[.string H, .int .i64 K, .string P] 46)).alloc (.cells #[.string ⟨#[]⟩, .int .i64 0, .string ⟨#[]⟩] 46) = W0 at hU0 hR0 ⊢
  generalize w.heap.size + 1 = G at hR0 ⊢
  go_wp2_with (refine ldU hU0.cell rfl (.tmp 2) rfl rfl ?_)
  refine (cRi _).mono ?_
  rintro e W1 ⟨rfl, hb1⟩
  have hU1 := hU0.later hb1
  have hR1 := hR0.later hb1
  clear hU00 hU0 hR0 hb1 cRi
  go_wp2_with fail
  refine (cH _).mono ?_
  rintro e W2 ⟨rfl, hb2⟩
  have hU2 := hU1.later hb2
  have hR2 := hR1.later hb2
  clear hU1 hR1 hb2 cH
  go_upto_region 9 with fail
  go_cut [39] from 27 to 39 (fun b wx => b = .bool false ∧ W2 = wx)
  case first =>
    rcases H9.out with h9 | ⟨h1, b9⟩
    · go_wp2_with fail
      go_meet
      case rel => exact ⟨rfl, rfl⟩
    · have h1i : (1 : Int) < s.size := by omega
      go_wp2_with fail
      go_meet
      case rel => exact ⟨rfl, rfl⟩
  case rest =>
    obtain ⟨rfl, rfl⟩ := hcut
    have hcb := box_cell hU2.cell
    obtain ⟨k0, k1, k2⟩ := hcb
    go_upto_block 0 with fail
    go_cut [6, 7] from 47 to 59 (fun p i wx => p = .string A ∧ W2 = wx)
    case first =>
      go_wp2_with fail
      go_loop [6, 7] (fun p i => ∃ (k : Nat) (x : ByteArray), p = .string x ∧ i = .int .i64 k ∧ k ≤ N1 ∧ Hid ((k ≤ N ∧ P = x) ∨ (A = x ∧ N1 = k))) (fun _ i => N1 + 1 - (intOf i).toNat)
      case atStart => exact ⟨0, P, rfl, rfl, by omega, Lib.hid (.inl ⟨by omega, rfl⟩)⟩
      case round =>
        obtain ⟨k, x, rfl, rfl, hkN, HC⟩ := hrel
        have hk0 : (0 : Int) ≤ k := by omega
        rcases HC.out with ⟨hk, rfl⟩ | ⟨rfl, rfl⟩
        · clear HC
          by_cases hlt : k < N
          · have hks : k < P.size := by omega
            have hki : (k : Int) < P.size := by omega
            have b63 : ((P[k].toNat : Int) == 63) = false := nq8 P[k] 63 63 rfl (fun e => by have := F2.out k hks hlt; rw [e] at this; cases this)
            go_wp2_with fail
            go_round
            case rel => exact ⟨k + 1, P, rfl, by go_num, by have := HN1.out; omega, Lib.hid (.inl ⟨by omega, rfl⟩)⟩
            case measure => simp [intOf]; omega
          · obtain rfl : k = N := by omega
            by_cases hks : k < P.size
            · have hki : (k : Int) < P.size := by omega
              have hkl : (k : Int) ≤ P.size := by omega
              have i63 := qm_true (F3.out hks)
              go_wp2_with fail
              go_round
              case rel => exact ⟨k + 1, A, rfl, by go_num, by have := HN1.out; omega, Lib.hid (.inr ⟨rfl, HN1.out⟩)⟩
              case measure => simp [intOf]; omega
            · have hki : ¬ ((k : Int) < P.size) := by omega
              go_wp2_with fail
              go_meet
              case rel => exact ⟨by rw [HAP.out (by omega)], rfl⟩
        · have hki : ¬ ((N1 : Int) < A.size) := by have := HN1.out; have := HAZ.out; omega
          clear HC
          go_wp2_with fail
          go_meet
          case rel => exact ⟨rfl, rfl⟩
    case rest =>
      obtain ⟨rfl, rfl⟩ := hcut
      go_wp2_with fail
      refine (cA _).mono ?_
      rintro e W3 ⟨rfl, hb3⟩
      have hR3 := hR2.later hb3
      go_wp2_with (refine stU hR3 rfl (.tmp 4) (.tmp 69) rfl _ _ _ rfl rfl ?_; intro W9 hR9 _)
      (try simp only [Exit.inBlock, Exit.then])
      refine ret_uri rfl G _ _ _ rfl hR9.cell rfl ?_
      exact ⟨by rfl, hR9.below⟩
set_option maxHeartbeats 6400000 in
set_option maxRecDepth 100000 in
theorem rres_query (u : Tg.U) (r : List UInt8) (w : World) (hh : u.host.length ≤ 40000) (hp : u.path.length ≤ 40000) (hk : u.port ≤ 9223372036854775807) (hr : r.length ≤ 80000) (hri : Tg.right u = true) (h8 : ¬ 8000 < r.length) (h0 : r ≠ []) (hht : Tg.http r = false) (h2 : ¬ r.take 2 = [47, 47]) (h63 : r.head? = some 63) :
    Calls Tryz.prog 64 #[uval u, .string (str r)] w fun e w' => e = .returned (ures (Tg.atU u.host u.port (u.path.take (Tg.ahead Tg.qm u.path) ++ r))) ∧ Below w.heap.size w w' := by
  have cRi := fun (W : World) => rRight_u u W hh hp hk
  rw [uval_u] at cRi
  have hU00 := Res.start w (.string (str u.host)) (.int .i64 u.port) (.string (str u.path))
  rw [hri] at cRi
  have i8 : ¬ (8000 : Int) < (str r).size := by rw [str_size]; omega
  obtain ⟨n1, n2, n3⟩ := list_ne (a := str r) (l := []) (by rw [str_list]; exact h0)
  have cH := fun (W : World) => rhttp_s r W (by omega)
  rw [hht] at cH
  have hok := Tg.ok_of hri
  obtain ⟨pt, hpt⟩ := hok.head
  obtain ⟨N, hN, f1, f2, f3⟩ := ahead_facts Tg.qm (str u.path)
  rw [str_list] at hN
  obtain ⟨A, hA⟩ : ∃ A, A = (str u.path).extract 0 N := ⟨_, rfl⟩
  have hAd : A.data.toList = u.path.take N := by rw [hA, Lib.extract_data, str_list]; simp
  have hAz : A.size = N := by rw [hA]; simp; omega
  have hAP : N = (str u.path).size → A = str u.path := fun e => by rw [hA, e]; exact ByteArray.extract_zero_size
  obtain ⟨N1, hN1⟩ : ∃ N1, N1 = N + 1 := ⟨_, rfl⟩
  have hAh : ∃ a2, u.path.take N = 47 :: a2 := by
    have e : N = Tg.ahead Tg.qm pt + 1 := by rw [hN, hpt, Tg.ahead_miss Tg.qm 47 pt (by decide)]
    exact ⟨pt.take (Tg.ahead Tg.qm pt), by rw [e, hpt]; rfl⟩
  have hPz : (str u.path).size ≤ 40000 := by rw [str_size]; exact hp
  obtain ⟨c, rt, rfl⟩ : ∃ c rt, r = c :: rt := by
    cases r with
    | nil => exact absurd rfl h0
    | cons c rt => exact ⟨c, rt, rfl⟩
  have hz0 : 0 < (str (c :: rt)).size := by rw [str_size]; simp
  have hz0i : (0 : Int) < (str (c :: rt)).size := by omega
  have hzz : (str (c :: rt)).size ≤ 80000 := by rw [str_size]; exact hr
  have hrz := str_size (c :: rt)
  have hx0 : (str (c :: rt))[0]'hz0 = c := rfl
  obtain ⟨a2, ha2⟩ := hAh
  rw [← hN]
  obtain ⟨hbg, hsl⟩ := begins_47 (t := u.path.take N ++ c :: rt) (by rw [ha2]; rfl)
  have cA := fun (W : World) => rat_s u.host u.port (u.path.take N ++ c :: rt) W (by rw [List.length_append, List.length_take]; omega) hbg
  rw [hsl, show str (u.path.take N ++ c :: rt) = A ++ str (c :: rt) from (str_same (by rw [app_data, hAd, str_list])).symm] at cA
  obtain rfl : c = 63 := by simpa using h63
  have i63 : (((str (63 :: rt))[0]'hz0).toNat : Int) = 63 := rfl
  have H9 : Hid (((((str (63 :: rt))[0]'hz0).toNat : Int) == 47) = false) := Lib.hid (nq8 63 47 47 rfl (by decide))
  obtain ⟨⟨⟨ra, rb, rc⟩, rd⟩, hres⟩ : ∃ x, Tg.atU u.host u.port (u.path.take N ++ 63 :: rt) = x := ⟨_, rfl⟩
  rw [hres, ures_u] at cA
  rw [hres, ures_u]
  clear hres
  have hAs : A.size ≤ 40000 := by omega
  have F2 := Lib.hid f2
  have F3 := Lib.hid f3
  have HN1 := Lib.hid hN1
  have HAP := Lib.hid hAP
  have HAZ := Lib.hid hAz
  have eA := hA.symm
  clear f2 f3 hN1 hA hAP hAz hN hri hok hpt hh hp hk hr h8 h0 hht h2 hx0 h63 hbg hsl hAd hrz ha2
  rw [uval_u]
  generalize str u.host = H at *
  generalize u.port = K at *
  generalize str u.path = P at *
  generalize str (63 :: rt) = s at *
  go_enter Tryz.func64, Tryz.ntmps64
  go_upto_region 1 with fail
  have hU0 := hU00.alloc (.cells #[.string ⟨#[]⟩, .int .i64 0, .string ⟨#[]⟩] 46)
  have hR0 : Res w (w.heap.size + 1) ((w.alloc (.cells #[.string H, .int .i64 K, .string P] 46)).alloc (.cells #[.string ⟨#[]⟩, .int .i64 0, .string ⟨#[]⟩] 46)) (.string ⟨#[]⟩) (.int .i64 0) (.string ⟨#[]⟩) :=
    ⟨heap_alloc2_new w _ _, hU0.below, by omega⟩
  generalize (w.alloc (.cells #[.string H, .int .i64 K, .string P] 46)).alloc (.cells #[.string ⟨#[]⟩, .int .i64 0, .string ⟨#[]⟩] 46) = W0 at hU0 hR0 ⊢
  generalize w.heap.size + 1 = G at hR0 ⊢
  go_wp2_with (refine ldU hU0.cell rfl (.tmp 2) rfl rfl ?_)
  refine (cRi _).mono ?_
  rintro e W1 ⟨rfl, hb1⟩
  have hU1 := hU0.later hb1
  have hR1 := hR0.later hb1
  clear hU00 hU0 hR0 hb1 cRi
  go_wp2_with fail
  refine (cH _).mono ?_
  rintro e W2 ⟨rfl, hb2⟩
  have hU2 := hU1.later hb2
  have hR2 := hR1.later hb2
  clear hU1 hR1 hb2 cH
  go_upto_region 9 with fail
  go_cut [39] from 27 to 39 (fun b wx => b = .bool false ∧ W2 = wx)
  case first =>
    have b9 := H9.out
    by_cases h1 : (1 : Int) < s.size
    · go_wp2_with fail
      go_meet
      case rel => exact ⟨rfl, rfl⟩
    · go_wp2_with fail
      go_meet
      case rel => exact ⟨rfl, rfl⟩
  case rest =>
    obtain ⟨rfl, rfl⟩ := hcut
    have hcb := box_cell hU2.cell
    obtain ⟨k0, k1, k2⟩ := hcb
    go_upto_block 0 with fail
    go_cut [6, 7] from 47 to 59 (fun p i wx => p = .string A ∧ W2 = wx)
    case first =>
      go_wp2_with fail
      go_loop [6, 7] (fun p i => ∃ (k : Nat) (x : ByteArray), p = .string x ∧ i = .int .i64 k ∧ k ≤ N1 ∧ Hid ((k ≤ N ∧ P = x) ∨ (A = x ∧ N1 = k))) (fun _ i => N1 + 1 - (intOf i).toNat)
      case atStart => exact ⟨0, P, rfl, rfl, by omega, Lib.hid (.inl ⟨by omega, rfl⟩)⟩
      case round =>
        obtain ⟨k, x, rfl, rfl, hkN, HC⟩ := hrel
        have hk0 : (0 : Int) ≤ k := by omega
        rcases HC.out with ⟨hk, rfl⟩ | ⟨rfl, rfl⟩
        · clear HC
          by_cases hlt : k < N
          · have hks : k < P.size := by omega
            have hki : (k : Int) < P.size := by omega
            have b63 : ((P[k].toNat : Int) == 63) = false := nq8 P[k] 63 63 rfl (fun e => by have := F2.out k hks hlt; rw [e] at this; cases this)
            go_wp2_with fail
            go_round
            case rel => exact ⟨k + 1, P, rfl, by go_num, by have := HN1.out; omega, Lib.hid (.inl ⟨by omega, rfl⟩)⟩
            case measure => simp [intOf]; omega
          · obtain rfl : k = N := by omega
            by_cases hks : k < P.size
            · have hki : (k : Int) < P.size := by omega
              have hkl : (k : Int) ≤ P.size := by omega
              have i63 := qm_true (F3.out hks)
              go_wp2_with fail
              go_round
              case rel => exact ⟨k + 1, A, rfl, by go_num, by have := HN1.out; omega, Lib.hid (.inr ⟨rfl, HN1.out⟩)⟩
              case measure => simp [intOf]; omega
            · have hki : ¬ ((k : Int) < P.size) := by omega
              go_wp2_with fail
              go_meet
              case rel => exact ⟨by rw [HAP.out (by omega)], rfl⟩
        · have hki : ¬ ((N1 : Int) < A.size) := by have := HN1.out; have := HAZ.out; omega
          clear HC
          go_wp2_with fail
          go_meet
          case rel => exact ⟨rfl, rfl⟩
    case rest =>
      obtain ⟨rfl, rfl⟩ := hcut
      go_wp2_with fail
      refine (cA _).mono ?_
      rintro e W3 ⟨rfl, hb3⟩
      have hR3 := hR2.later hb3
      go_wp2_with (refine stU hR3 rfl (.tmp 4) (.tmp 82) rfl _ _ _ rfl rfl ?_; intro W9 hR9 _)
      (try simp only [Exit.inBlock, Exit.then])
      refine ret_uri rfl G _ _ _ rfl hR9.cell rfl ?_
      exact ⟨by rfl, hR9.below⟩
theorem take_snoc (l : List UInt8) (k : Nat) (s : ByteArray) (hs : s.data.toList = l) (hk : k < s.size) : l.take (k + 1) = l.take k ++ [s[k]] := by
  have h1 := Lib.data_getElem? s k hk
  rw [hs] at h1
  obtain ⟨h2, h3⟩ := List.getElem?_eq_some_iff.1 h1
  rw [List.take_succ_eq_append_getElem h2, h3]
set_option maxHeartbeats 6400000 in
set_option maxRecDepth 100000 in
theorem rres_other (u : Tg.U) (r : List UInt8) (w : World) (hh : u.host.length ≤ 40000) (hp : u.path.length ≤ 40000) (hk : u.port ≤ 9223372036854775807) (hr : r.length ≤ 80000) (hri : Tg.right u = true) (h8 : ¬ 8000 < r.length) (h0 : r ≠ []) (hht : Tg.http r = false) (h2 : ¬ r.take 2 = [47, 47]) (h47 : ¬ r.head? = some 47) (h63 : ¬ r.head? = some 63) :
    Calls Tryz.prog 64 #[uval u, .string (str r)] w fun e w' => e = .returned (ures (if (r.take (Tg.ahead Tg.sq r)).contains 58 then (Tg.zero, 10) else Tg.atU u.host u.port (Tg.upto (u.path.take (Tg.ahead Tg.qm u.path)) ++ r))) ∧ Below w.heap.size w w' := by
  have cRi := fun (W : World) => rRight_u u W hh hp hk
  rw [uval_u] at cRi
  have hU00 := Res.start w (.string (str u.host)) (.int .i64 u.port) (.string (str u.path))
  rw [hri] at cRi
  have i8 : ¬ (8000 : Int) < (str r).size := by rw [str_size]; omega
  obtain ⟨n1, n2, n3⟩ := list_ne (a := str r) (l := []) (by rw [str_list]; exact h0)
  have cH := fun (W : World) => rhttp_s r W (by omega)
  rw [hht] at cH
  have hok := Tg.ok_of hri
  obtain ⟨pt, hpt⟩ := hok.head
  obtain ⟨N, hN, f1, f2, f3⟩ := ahead_facts Tg.qm (str u.path)
  rw [str_list] at hN
  obtain ⟨A, hA⟩ : ∃ A, A = (str u.path).extract 0 N := ⟨_, rfl⟩
  have hAd : A.data.toList = u.path.take N := by rw [hA, Lib.extract_data, str_list]; simp
  have hAz : A.size = N := by rw [hA]; simp; omega
  have hAP : N = (str u.path).size → A = str u.path := fun e => by rw [hA, e]; exact ByteArray.extract_zero_size
  obtain ⟨N1, hN1⟩ : ∃ N1, N1 = N + 1 := ⟨_, rfl⟩
  have hAh : ∃ a2, u.path.take N = 47 :: a2 := by
    have e : N = Tg.ahead Tg.qm pt + 1 := by rw [hN, hpt, Tg.ahead_miss Tg.qm 47 pt (by decide)]
    exact ⟨pt.take (Tg.ahead Tg.qm pt), by rw [e, hpt]; rfl⟩
  have hPz : (str u.path).size ≤ 40000 := by rw [str_size]; exact hp
  obtain ⟨c, rt, rfl⟩ : ∃ c rt, r = c :: rt := by
    cases r with
    | nil => exact absurd rfl h0
    | cons c rt => exact ⟨c, rt, rfl⟩
  have hz0 : 0 < (str (c :: rt)).size := by rw [str_size]; simp
  have hz0i : (0 : Int) < (str (c :: rt)).size := by omega
  have hzz : (str (c :: rt)).size ≤ 80000 := by rw [str_size]; exact hr
  have hrz := str_size (c :: rt)
  have hx0 : (str (c :: rt))[0]'hz0 = c := rfl
  obtain ⟨a2, ha2⟩ := hAh
  rw [← hN]
  obtain ⟨q1, hq1, hqA, g3, g4, g5⟩ := upto_facts A _ hAd (by rw [ha2]; simp)
  have hup : ∃ z, Tg.upto (u.path.take N) = 47 :: z := by rw [ha2, Tg.upto, if_pos (.inl rfl)]; exact ⟨_, rfl⟩
  obtain ⟨z, hz⟩ := hup
  have hul := congrArg ByteArray.size g5
  rw [str_size] at hul
  obtain ⟨hbg, hsl⟩ := begins_47 (t := Tg.upto (u.path.take N) ++ c :: rt) (by rw [hz]; rfl)
  have hXz : (A.extract 0 q1).size ≤ 40000 := by simp; omega
  have cA := fun (W : World) => rat_s u.host u.port (Tg.upto (u.path.take N) ++ c :: rt) W (by rw [List.length_append]; omega) hbg
  obtain ⟨X, hX⟩ : ∃ X, X = A.extract 0 q1 := ⟨_, rfl⟩
  rw [hsl, show str (Tg.upto (u.path.take N) ++ c :: rt) = X ++ str (c :: rt) from (str_same (by rw [app_data, hX, g5, str_list, str_list])).symm] at cA
  obtain ⟨M, hM, m1, m2, m3⟩ := ahead_facts Tg.sq (str (c :: rt))
  rw [str_list] at hM
  rw [← hM]
  have miss : ∀ k (hk : k < (str (c :: rt)).size), (str (c :: rt))[k] ≠ 58 → ((c :: rt).take k).contains 58 = false → ((c :: rt).take (k + 1)).contains 58 = false := fun k hk h h2 => by
    rw [take_snoc (c :: rt) k _ (str_list _) hk]
    rw [Bool.eq_false_iff] at h2 ⊢
    intro h3; apply h2
    rw [List.contains_iff_mem] at h3 ⊢
    rcases List.mem_append.1 h3 with h4 | h4
    · exact h4
    · rw [List.mem_singleton] at h4; exact absurd h4.symm h
  have mem : ∀ k (hk : k < (str (c :: rt)).size), k < M → (str (c :: rt))[k] = 58 → ((c :: rt).take M).contains 58 = true := fun k hk h h2 => by
    rw [List.contains_iff_mem]
    have h3 := Lib.data_getElem? (str (c :: rt)) k hk
    rw [str_list, h2] at h3
    refine List.mem_of_getElem? (i := k) ?_
    rw [List.getElem?_take_of_lt h, h3]
  have MEM := Lib.hid mem
  have MISS := Lib.hid miss
  have b47 := nq8 c 47 47 rfl (fun e => h47 (by rw [e]; rfl))
  have b63 := nq8 c 63 63 rfl (fun e => h63 (by rw [e]; rfl))
  have b47 : ((((str (c :: rt))[0]'hz0).toNat : Int) == 47) = false := b47
  have b63 : ((((str (c :: rt))[0]'hz0).toNat : Int) == 63) = false := b63
  have n47 : ¬ ((((str (c :: rt))[0]'hz0).toNat : Int) = 47) := beq_eq_false_iff_ne.1 b47
  have n63 : ¬ ((((str (c :: rt))[0]'hz0).toNat : Int) = 63) := beq_eq_false_iff_ne.1 b63
  obtain ⟨⟨⟨ra, rb, rc⟩, rd⟩, hres⟩ : ∃ x, Tg.atU u.host u.port (Tg.upto (u.path.take N) ++ c :: rt) = x := ⟨_, rfl⟩
  rw [hres, ures_u] at cA
  rw [hres]
  obtain ⟨XA, hXA⟩ : ∃ XA, XA = (if ((c :: rt).take M).contains 58 then (Tg.zero, 10) else (⟨ra, rb, rc⟩, rd) : Tg.U × Int) := ⟨_, rfl⟩
  have HX : Hid (((c :: rt).take M).contains 58 = true → XA = (Tg.zero, 10)) := Lib.hid (fun h => by rw [hXA, if_pos h])
  have HY : Hid (((c :: rt).take M).contains 58 = false → XA = (⟨ra, rb, rc⟩, rd)) := Lib.hid (fun h => by rw [hXA, if_neg (by rw [h]; decide)])
  rw [← hXA]
  have M2 := Lib.hid m2
  have M3 := Lib.hid m3
  have G3 := Lib.hid g3
  have G4 := Lib.hid g4
  have eX := hX.symm
  rw [← hX] at hXz
  have hz3 : ¬ 9223372036854775807 < X.size + (str (c :: rt)).size := by omega
  have hz4 : X.size + (str (c :: rt)).size ≤ 9223372036854775807 := by omega
  have hqi : (q1 : Int) ≤ A.size := by omega
  have hq0 : (0 : Int) ≤ q1 := by omega
  have H9 := Lib.hid b47
  clear m2 m3 g3 g4 g5 hX hXA hres mem miss hM hul hz
  have hAs : A.size ≤ 40000 := by omega
  have F2 := Lib.hid f2
  have F3 := Lib.hid f3
  have HN1 := Lib.hid hN1
  have HAP := Lib.hid hAP
  have HAZ := Lib.hid hAz
  have eA := hA.symm
  clear f2 f3 hN1 hA hAP hAz hN hri hok hpt hh hp hk hr h8 h0 hht h2 hx0 h47 h63 hbg hsl hAd hrz ha2
  rw [uval_u]
  generalize str u.host = H at *
  generalize u.port = K at *
  generalize str u.path = P at *
  generalize str (c :: rt) = s at *
  go_enter Tryz.func64, Tryz.ntmps64
  go_upto_region 1 with fail
  have hU0 := hU00.alloc (.cells #[.string ⟨#[]⟩, .int .i64 0, .string ⟨#[]⟩] 46)
  have hR0 : Res w (w.heap.size + 1) ((w.alloc (.cells #[.string H, .int .i64 K, .string P] 46)).alloc (.cells #[.string ⟨#[]⟩, .int .i64 0, .string ⟨#[]⟩] 46)) (.string ⟨#[]⟩) (.int .i64 0) (.string ⟨#[]⟩) :=
    ⟨heap_alloc2_new w _ _, hU0.below, by omega⟩
  generalize (w.alloc (.cells #[.string H, .int .i64 K, .string P] 46)).alloc (.cells #[.string ⟨#[]⟩, .int .i64 0, .string ⟨#[]⟩] 46) = W0 at hU0 hR0 ⊢
  generalize w.heap.size + 1 = G at hR0 ⊢
  go_wp2_with (refine ldU hU0.cell rfl (.tmp 2) rfl rfl ?_)
  refine (cRi _).mono ?_
  rintro e W1 ⟨rfl, hb1⟩
  have hU1 := hU0.later hb1
  have hR1 := hR0.later hb1
  clear hU00 hU0 hR0 hb1 cRi
  go_wp2_with fail
  refine (cH _).mono ?_
  rintro e W2 ⟨rfl, hb2⟩
  have hU2 := hU1.later hb2
  have hR2 := hR1.later hb2
  clear hU1 hR1 hb2 cH
  go_upto_region 9 with fail
  go_cut [39] from 27 to 39 (fun b wx => b = .bool false ∧ W2 = wx)
  case first =>
    have b9 := H9.out
    by_cases h1 : (1 : Int) < s.size
    · go_wp2_with fail
      go_meet
      case rel => exact ⟨rfl, rfl⟩
    · go_wp2_with fail
      go_meet
      case rel => exact ⟨rfl, rfl⟩
  case rest =>
    obtain ⟨rfl, rfl⟩ := hcut
    have hcb := box_cell hU2.cell
    obtain ⟨k0, k1, k2⟩ := hcb
    go_upto_block 0 with fail
    go_cut [6, 7] from 47 to 59 (fun p i wx => p = .string A ∧ W2 = wx)
    case first =>
      go_wp2_with fail
      go_loop [6, 7] (fun p i => ∃ (k : Nat) (x : ByteArray), p = .string x ∧ i = .int .i64 k ∧ k ≤ N1 ∧ Hid ((k ≤ N ∧ P = x) ∨ (A = x ∧ N1 = k))) (fun _ i => N1 + 1 - (intOf i).toNat)
      case atStart => exact ⟨0, P, rfl, rfl, by omega, Lib.hid (.inl ⟨by omega, rfl⟩)⟩
      case round =>
        obtain ⟨k, x, rfl, rfl, hkN, HC⟩ := hrel
        have hk0 : (0 : Int) ≤ k := by omega
        rcases HC.out with ⟨hk, rfl⟩ | ⟨rfl, rfl⟩
        · clear HC
          by_cases hlt : k < N
          · have hks : k < P.size := by omega
            have hki : (k : Int) < P.size := by omega
            have b63 : ((P[k].toNat : Int) == 63) = false := nq8 P[k] 63 63 rfl (fun e => by have := F2.out k hks hlt; rw [e] at this; cases this)
            go_wp2_with fail
            go_round
            case rel => exact ⟨k + 1, P, rfl, by go_num, by have := HN1.out; omega, Lib.hid (.inl ⟨by omega, rfl⟩)⟩
            case measure => simp [intOf]; omega
          · obtain rfl : k = N := by omega
            by_cases hks : k < P.size
            · have hki : (k : Int) < P.size := by omega
              have hkl : (k : Int) ≤ P.size := by omega
              have i63 := qm_true (F3.out hks)
              go_wp2_with fail
              go_round
              case rel => exact ⟨k + 1, A, rfl, by go_num, by have := HN1.out; omega, Lib.hid (.inr ⟨rfl, HN1.out⟩)⟩
              case measure => simp [intOf]; omega
            · have hki : ¬ ((k : Int) < P.size) := by omega
              go_wp2_with fail
              go_meet
              case rel => exact ⟨by rw [HAP.out (by omega)], rfl⟩
        · have hki : ¬ ((N1 : Int) < A.size) := by have := HN1.out; have := HAZ.out; omega
          clear HC
          go_wp2_with fail
          go_meet
          case rel => exact ⟨rfl, rfl⟩
    case rest =>
      obtain ⟨rfl, rfl⟩ := hcut
      go_wp2_with fail
      go_loop [8] (fun i => ∃ k : Nat, k ≤ M ∧ i = .int .i64 k ∧ Hid (((c :: rt).take k).contains 58 = false)) (fun i => M - (intOf i).toNat)
      case atStart => exact ⟨0, by omega, rfl, Lib.hid rfl⟩
      case round =>
        obtain ⟨k, hkM, rfl, HC⟩ := hrel
        have hk0 : (0 : Int) ≤ k := by omega
        by_cases hlt : k < M
        · have hks : k < s.size := by omega
          have hki : (k : Int) < s.size := by omega
          obtain ⟨d47, d63⟩ := sq_false (M2.out k hks hlt)
          by_cases h58 : s[k] = 58
          · have i58 : (s[k].toNat : Int) = 58 := by rw [h58]; rfl
            have HV : Hid (XA = (Tg.zero, 10)) := Lib.hid (HX.out (MEM.out k hks hlt h58))
            clear h58
            go_wp2_with (refine stU hR2 rfl (.tmp 4) (.tmp 106) rfl _ _ _ rfl rfl ?_; intro W9 hR9 _)
            (try simp only [Exit.inBlock, Exit.then])
            refine ret_uri rfl G _ _ _ rfl hR9.cell rfl ?_
            exact ⟨by rw [HV.out]; rfl, hR9.below⟩
          · have b58 := nq8 s[k] 58 58 rfl h58
            have HC2 := Lib.hid (MISS.out k hks h58 HC.out)
            clear h58
            go_wp2_with fail
            go_round
            case rel => exact ⟨k + 1, by omega, by go_num, HC2⟩
            case measure => simp [intOf]; omega
        · obtain rfl : k = M := by omega
          have HV : Hid (XA = (⟨ra, rb, rc⟩, rd)) := Lib.hid (HY.out HC.out)
          clear HX HY MEM MISS HC
          by_cases hks : k < s.size
          · have hki : (k : Int) < s.size := by omega
            rcases sq_true (M3.out hks) with m47 | m63
            · go_wp2_with fail
              go_loop [9] (fun i => ∃ k : Nat, q1 ≤ k ∧ k ≤ A.size ∧ i = .int .i64 k) (fun i => (intOf i).toNat)
              case atStart => exact ⟨A.size, hqA, Nat.le_refl _, rfl⟩
              case round =>
                obtain ⟨k, hqk, hkA, rfl⟩ := hrel
                obtain ⟨j, hj⟩ : ∃ j, k = j + 1 := ⟨k - 1, by omega⟩
                have hjA : j < A.size := by omega
                have hjAi : (j : Int) < A.size := by omega
                have hj0 : (0 : Int) ≤ j := by omega
                have hji : (k : Int) - 1 = (j : Int) := by omega
                have hjw : IntKind.i64.wrap ((k : Int) - 1) = (j : Int) := by rw [IntKind.wrap_i64]; omega
                have hjw2 : IntKind.i64.wrap (j : Int) = (j : Int) := by rw [IntKind.wrap_i64]; omega
                by_cases hlt : q1 < k
                · have b47 := ne8 A[j] 47 47 rfl (G4.out j hjA (by omega))
                  clear hj
                  go_wp2_with fail
                  go_round
                  case rel => exact ⟨j, by omega, by omega, by go_num⟩
                  case measure => simp [intOf]; omega
                · obtain rfl : k = q1 := by omega
                  have i47 : (A[j].toNat : Int) = 47 := by rw [G3.out j hjA hj.symm]; rfl
                  clear hj
                  go_upto_region 29 with fail
                  have l0 := fun p : LateOf W2 => p.cell k0
                  have l1 := fun p : LateOf W2 => p.cell k1
                  have GA := fun p : LateOf W2 => late p (cA p.w)
                  have HGR := Lib.hid (fun p : LateOf W2 => hR2.later p.h)
                  clear k0 k1 k2 hU2 hR2 cA
                  refine wp_region_late_tail 12 (by kernel_rfl) (by kernel_rfl) ?_
                  simp only [List.take_succ_cons, List.take_zero, List.drop_succ_cons, List.drop_zero]
                  quiet_step (fail)
                  quiet_step (fail)
                  quiet_step (fail)
                  quiet_step (fail)
                  quiet_step (fail)
                  quiet_step (fail)
                  quiet_step (fail)
                  quiet_step (fail)
                  quiet_step (fail)
                  quiet_step ((go_at_call 96; exact GA _))
                  quiet_step (fail)
                  quiet_step (fail)
                  refine wpQuiet_nil ?_
                  intro w6 hw'
                  obtain ⟨p, rfl⟩ := hw'
                  have hRp := HGR.out p
                  go_wp2_with (refine stU hRp rfl (.tmp 4) (.tmp 126) rfl _ _ _ rfl rfl ?_; intro W9 hR9 _)
                  (try simp only [Exit.inBlock, Exit.then])
                  refine ret_uri rfl G _ _ _ rfl hR9.cell rfl ?_
                  exact ⟨by rw [HV.out]; rfl, hR9.below⟩
            · go_wp2_with fail
              go_loop [9] (fun i => ∃ k : Nat, q1 ≤ k ∧ k ≤ A.size ∧ i = .int .i64 k) (fun i => (intOf i).toNat)
              case atStart => exact ⟨A.size, hqA, Nat.le_refl _, rfl⟩
              case round =>
                obtain ⟨k, hqk, hkA, rfl⟩ := hrel
                obtain ⟨j, hj⟩ : ∃ j, k = j + 1 := ⟨k - 1, by omega⟩
                have hjA : j < A.size := by omega
                have hjAi : (j : Int) < A.size := by omega
                have hj0 : (0 : Int) ≤ j := by omega
                have hji : (k : Int) - 1 = (j : Int) := by omega
                have hjw : IntKind.i64.wrap ((k : Int) - 1) = (j : Int) := by rw [IntKind.wrap_i64]; omega
                have hjw2 : IntKind.i64.wrap (j : Int) = (j : Int) := by rw [IntKind.wrap_i64]; omega
                by_cases hlt : q1 < k
                · have b47 := ne8 A[j] 47 47 rfl (G4.out j hjA (by omega))
                  clear hj
                  go_wp2_with fail
                  go_round
                  case rel => exact ⟨j, by omega, by omega, by go_num⟩
                  case measure => simp [intOf]; omega
                · obtain rfl : k = q1 := by omega
                  have i47 : (A[j].toNat : Int) = 47 := by rw [G3.out j hjA hj.symm]; rfl
                  clear hj
                  go_upto_region 29 with fail
                  have l0 := fun p : LateOf W2 => p.cell k0
                  have l1 := fun p : LateOf W2 => p.cell k1
                  have GA := fun p : LateOf W2 => late p (cA p.w)
                  have HGR := Lib.hid (fun p : LateOf W2 => hR2.later p.h)
                  clear k0 k1 k2 hU2 hR2 cA
                  refine wp_region_late_tail 12 (by kernel_rfl) (by kernel_rfl) ?_
                  simp only [List.take_succ_cons, List.take_zero, List.drop_succ_cons, List.drop_zero]
                  quiet_step (fail)
                  quiet_step (fail)
                  quiet_step (fail)
                  quiet_step (fail)
                  quiet_step (fail)
                  quiet_step (fail)
                  quiet_step (fail)
                  quiet_step (fail)
                  quiet_step (fail)
                  quiet_step ((go_at_call 96; exact GA _))
                  quiet_step (fail)
                  quiet_step (fail)
                  refine wpQuiet_nil ?_
                  intro w6 hw'
                  obtain ⟨p, rfl⟩ := hw'
                  have hRp := HGR.out p
                  go_wp2_with (refine stU hRp rfl (.tmp 4) (.tmp 126) rfl _ _ _ rfl rfl ?_; intro W9 hR9 _)
                  (try simp only [Exit.inBlock, Exit.then])
                  refine ret_uri rfl G _ _ _ rfl hR9.cell rfl ?_
                  exact ⟨by rw [HV.out]; rfl, hR9.below⟩
          · have hki : ¬ ((k : Int) < s.size) := by omega
            go_wp2_with fail
            go_loop [9] (fun i => ∃ k : Nat, q1 ≤ k ∧ k ≤ A.size ∧ i = .int .i64 k) (fun i => (intOf i).toNat)
            case atStart => exact ⟨A.size, hqA, Nat.le_refl _, rfl⟩
            case round =>
              obtain ⟨k, hqk, hkA, rfl⟩ := hrel
              obtain ⟨j, hj⟩ : ∃ j, k = j + 1 := ⟨k - 1, by omega⟩
              have hjA : j < A.size := by omega
              have hjAi : (j : Int) < A.size := by omega
              have hj0 : (0 : Int) ≤ j := by omega
              have hji : (k : Int) - 1 = (j : Int) := by omega
              have hjw : IntKind.i64.wrap ((k : Int) - 1) = (j : Int) := by rw [IntKind.wrap_i64]; omega
              have hjw2 : IntKind.i64.wrap (j : Int) = (j : Int) := by rw [IntKind.wrap_i64]; omega
              by_cases hlt : q1 < k
              · have b47 := ne8 A[j] 47 47 rfl (G4.out j hjA (by omega))
                clear hj
                go_wp2_with fail
                go_round
                case rel => exact ⟨j, by omega, by omega, by go_num⟩
                case measure => simp [intOf]; omega
              · obtain rfl : k = q1 := by omega
                have i47 : (A[j].toNat : Int) = 47 := by rw [G3.out j hjA hj.symm]; rfl
                clear hj
                go_upto_region 29 with fail
                have l0 := fun p : LateOf W2 => p.cell k0
                have l1 := fun p : LateOf W2 => p.cell k1
                have GA := fun p : LateOf W2 => late p (cA p.w)
                have HGR := Lib.hid (fun p : LateOf W2 => hR2.later p.h)
                clear k0 k1 k2 hU2 hR2 cA
                refine wp_region_late_tail 12 (by kernel_rfl) (by kernel_rfl) ?_
                simp only [List.take_succ_cons, List.take_zero, List.drop_succ_cons, List.drop_zero]
                quiet_step (fail)
                quiet_step (fail)
                quiet_step (fail)
                quiet_step (fail)
                quiet_step (fail)
                quiet_step (fail)
                quiet_step (fail)
                quiet_step (fail)
                quiet_step (fail)
                quiet_step ((go_at_call 96; exact GA _))
                quiet_step (fail)
                quiet_step (fail)
                refine wpQuiet_nil ?_
                intro w6 hw'
                obtain ⟨p, rfl⟩ := hw'
                have hRp := HGR.out p
                go_wp2_with (refine stU hRp rfl (.tmp 4) (.tmp 126) rfl _ _ _ rfl rfl ?_; intro W9 hR9 _)
                (try simp only [Exit.inBlock, Exit.then])
                refine ret_uri rfl G _ _ _ rfl hR9.cell rfl ?_
                exact ⟨by rw [HV.out]; rfl, hR9.below⟩
theorem rResolve_s (u : Tg.U) (r : List UInt8) (w : World) (hh : u.host.length ≤ 40000) (hp : u.path.length ≤ 40000) (hk : u.port ≤ 9223372036854775807) (hr : r.length ≤ 80000) :
    Calls Tryz.prog 64 #[uval u, .string (str r)] w fun e w' => e = .returned (ures (Tg.resolve u r)) ∧ Below w.heap.size w w' := by
  unfold Tg.resolve
  cases hri : Tg.right u with
  | false => rw [if_pos rfl]; exact rres_arg u r w hh hp hk hr hri
  | true =>
    rw [if_neg (by decide)]
    by_cases h8 : 8000 < r.length
    · rw [if_pos h8]; exact rres_long u r w hh hp hk hr hri h8
    rw [if_neg h8]
    by_cases h0 : r = []
    · rw [if_pos h0]; exact rres_empty u r w hh hp hk hr hri h8 h0
    rw [if_neg h0]
    cases hht : Tg.http r with
    | true => rw [if_pos rfl]; exact rres_http u r w hh hp hk hr hri h8 h0 hht
    | false =>
      rw [if_neg (by decide)]
      by_cases h2 : r.take 2 = [47, 47]
      · rw [if_pos h2]; exact rres_two u r w hh hp hk hr hri h8 h0 hht h2
      rw [if_neg h2]
      by_cases h47 : r.head? = some 47
      · rw [if_pos h47]; exact rres_slash u r w hh hp hk hr hri h8 h0 hht h2 h47
      rw [if_neg h47]
      by_cases h63 : r.head? = some 63
      · rw [if_pos h63]; exact rres_query u r w hh hp hk hr hri h8 h0 hht h2 h63
      rw [if_neg h63]
      exact rres_other u r w hh hp hk hr hri h8 h0 hht h2 h47 h63
end Go.Proofs.YtoanelobggledaaGreatDoor

