/- The document's own answer for package target: hosts, ports. -/
import Derived.Test.YtlikjfemkadciaaGreatDoorTg20
namespace Go.Proofs.YtlikjfemkadciaaGreatDoor
open Go.RowKit

theorem ne8 (c n : UInt8) (m : Int) (hm : m = n.toNat) (h : c ≠ n) : ((c.toNat : Int) != m) = true := by
  rw [bne, beq_eq_false_iff_ne.2 (fun e => h (UInt8.toNat_inj.1 (by omega)))]; rfl
theorem nq8 (c n : UInt8) (m : Int) (hm : m = n.toNat) (h : c ≠ n) : ((c.toNat : Int) == m) = false :=
  beq_eq_false_iff_ne.2 (fun e => h (UInt8.toNat_inj.1 (by omega)))
theorem take_one {D : List UInt8} {k : Nat} {x : UInt8} (h1 : 1 ≤ k) (h : D[k - 1]? = some x) : D.take k = D.take (k - 1) ++ [x] := by
  obtain ⟨j, rfl⟩ : ∃ j, k = j + 1 := ⟨k - 1, by omega⟩
  obtain ⟨h2, h3⟩ := List.getElem?_eq_some_iff.1 h
  have h4 : j < D.length := by simpa using h2
  have h5 : D[j] = x := by simpa using h3
  rw [List.take_succ_eq_append_getElem h4, h5, Nat.add_sub_cancel]
theorem has_marks (c : UInt8) : has [33, 36, 38, 39, 40, 41, 42, 43, 44, 59, 61] c = Tg.mark c := rfl

set_option maxHeartbeats 1600000 in
set_option maxRecDepth 100000 in
theorem rhost_a (t : List UInt8) (w : World) (hl : t.length ≤ 100000) :
    Calls Tryz.prog 45 #[.string (str (91 :: t))] w fun e w' => e = .returned (.bool (Tg.isHost (91 :: t))) ∧ Below w.heap.size w w' := by
  obtain ⟨s, hs⟩ : ∃ s, s = str (91 :: t) := ⟨_, rfl⟩
  have hsd : s.data.toList = 91 :: t := by rw [hs, str_list]
  have hsz : s.size = t.length + 1 := by rw [hs, str_size]; rfl
  rw [← hs]
  have hat : ∀ k (hk : k < s.size), (91 :: t)[k]? = some s[k] := fun k hk => by rw [← hsd]; exact Lib.data_getElem? s k hk
  have h0s : 0 < s.size := by omega
  have i0 : (s[0].toNat : Int) = 91 := by
    have := hat 0 h0s; simp at this; rw [← this]; rfl
  have hp : (0 : Int) < s.size := by omega
  have hs6 : s.size ≤ 100001 := by omega
  by_cases h2 : 2 ≤ t.length
  · have h3 : ¬ ((s.size : Int) < 3) := by omega
    obtain ⟨M, hM⟩ : ∃ M, M = s.size - 1 := ⟨_, rfl⟩
    have hMs : M < s.size := by omega
    have hMi : (s.size : Int) - 1 = (M : Int) := by omega
    have hMw : IntKind.i64.wrap ((s.size : Int) - 1) = (M : Int) := by rw [hMi, IntKind.wrap_i64]; omega
    have hlast : t.getLast? = some s[M] := by
      obtain ⟨j, hj⟩ : ∃ j, M = j + 1 := ⟨M - 1, by omega⟩
      subst hj
      have := hat (j + 1) hMs
      rw [List.getElem?_cons_succ] at this
      rw [List.getLast?_eq_getElem?, show t.length - 1 = j by omega, this]
    by_cases h93 : s[M] = 93
    · have HR : Hid (Tg.isHost (91 :: t) = Oct.allOf Tg.numc t.dropLast) := by
        rw [Tg.isHost_cons, if_pos rfl, hlast, h93, decide_eq_true h2]; exact Lib.hid rfl
      have b93 : ((s[M].toNat : Int) != 93) = false := by rw [h93]; rfl
      have hD : ∀ k (hk : k < s.size), 1 ≤ k → k < M → t.dropLast[k - 1]? = some s[k] := fun k hk h1 h2 => by
        obtain ⟨j, rfl⟩ : ∃ j, k = j + 1 := ⟨k - 1, by omega⟩
        have := hat (j + 1) hk
        rw [List.getElem?_cons_succ] at this
        show t.dropLast[j]? = _
        rw [List.getElem?_dropLast, if_pos (by omega), this]
      have hDl : t.dropLast.length = M - 1 := by rw [List.length_dropLast]; omega
      have HD := Lib.hid hD
      have HDL := Lib.hid hDl
      generalize t.dropLast = D at *
      have hM1 : 1 ≤ M := by omega
      clear hD hDl hs hsd hat hlast h2 hl hM hMi h93 hsz
      go_enter Tryz.func45, Tryz.ntmps45
      go_wp2_with fail
      go_loopw [3] (fun i wr => ∃ k : Nat, 1 ≤ k ∧ k ≤ M ∧ i = .int .i64 k ∧ Hid (Oct.allOf Tg.numc (D.take (k - 1)) = true) ∧ Below w.heap.size w wr) (fun i _ => M - (intOf i).toNat)
      case atStart => exact ⟨1, by omega, by omega, rfl, Lib.hid rfl, Below.refl _ _⟩
      case round =>
        obtain ⟨k, hk1, hk, rfl, HA, hb⟩ := hrel
        by_cases hlt : k < M
        · have hks : k < s.size := by omega
          have hdk := HD.out k hks hk1 hlt
          have cX := fun (W : World) => hexa_c s[k] W
          have hkm : ((k : Int) < (M : Int)) := by omega
          have hsn := take_one hk1 hdk
          by_cases hn : Tg.numc s[k] = true
          · have HA2 : Hid (Oct.allOf Tg.numc (D.take (k + 1 - 1)) = true) := by
              rw [show k + 1 - 1 = k by omega, hsn]
              have h := HA.out
              unfold Oct.allOf at h ⊢
              refine Lib.hid ?_
              rw [List.all_append, h]; simp [hn]
            rcases hexd_digit s[k] with ⟨g1, g2, g3⟩ | ⟨g1, g2⟩
            · have b9 : ((Oct.digit s[k] : Int) == 99) = false := beq_eq_false_iff_ne.2 (fun e => by rw [g2] at e; omega)
              clear g2 g3
              generalize (Oct.digit s[k] : Int) = X at *
              clear hdk hsn hn g1
              go_wp2_with fail
              refine (cX _).mono ?_
              rintro e w1 ⟨rfl, hb1⟩
              go_wp2_with fail
              go_roundw
              case rel => exact ⟨k + 1, by omega, by omega, by go_num, HA2, bt' hb hb1⟩
              case measure => simp [intOf]; omega
            · rw [g2] at cX
              have h46 : s[k] = 58 ∨ s[k] = 46 := by
                unfold Tg.numc at hn; rw [g1] at hn; simpa using hn
              rcases h46 with h46 | h46
              · have i1 : (s[k].toNat : Int) = 58 := by rw [h46]; rfl
                rw [i1] at cX
                clear hdk hsn hn g1 g2 h46
                go_wp2_with fail
                refine (cX _).mono ?_
                rintro e w1 ⟨rfl, hb1⟩
                go_wp2_with fail
                go_roundw
                case rel => exact ⟨k + 1, by omega, by omega, by go_num, HA2, bt' hb hb1⟩
                case measure => simp [intOf]; omega
              · have i1 : (s[k].toNat : Int) = 46 := by rw [h46]; rfl
                rw [i1] at cX
                clear hdk hsn hn g1 g2 h46
                go_wp2_with fail
                refine (cX _).mono ?_
                rintro e w1 ⟨rfl, hb1⟩
                go_wp2_with fail
                go_roundw
                case rel => exact ⟨k + 1, by omega, by omega, by go_num, HA2, bt' hb hb1⟩
                case measure => simp [intOf]; omega
          · have HN : Hid (Oct.allOf Tg.numc D = false) := by
              refine Lib.hid ?_
              unfold Oct.allOf
              rw [Bool.eq_false_iff]; intro h
              exact hn (List.all_eq_true.1 h _ (List.mem_of_getElem? hdk))
            have hn2 : Tg.hexd s[k] = false ∧ s[k] ≠ 58 ∧ s[k] ≠ 46 := by
              unfold Tg.numc at hn; simp at hn; exact ⟨hn.1.1, hn.1.2, hn.2⟩
            have g2 : Oct.digit s[k] = 99 := by
              rcases hexd_digit s[k] with ⟨g1, _⟩ | ⟨_, g2⟩
              · rw [hn2.1] at g1; cases g1
              · exact g2
            have b1 : ((s[k].toNat : Int) != 58) = true := ne8 _ 58 58 rfl hn2.2.1
            have b2 : ((s[k].toNat : Int) != 46) = true := ne8 _ 46 46 rfl hn2.2.2
            rw [g2] at cX
            clear hdk hsn hn g2 hn2
            go_wp2_with fail
            refine (cX _).mono ?_
            rintro e w1 ⟨rfl, hb1⟩
            go_wp2_with fail
            go_ret
            exact ⟨ret_bool (by rw [HR.out, HN.out]), bt' hb hb1⟩
        · obtain rfl : k = M := by omega
          have HE : Hid (D.take (k - 1) = D) := List.take_of_length_le (by rw [HDL.out]; omega)
          go_wp2_with fail
          go_ret
          exact ⟨ret_bool (by rw [HR.out, ← HE.out, HA.out]), hb⟩
    · have HR : Hid (Tg.isHost (91 :: t) = false) := by
        rw [Tg.isHost_cons, if_pos rfl, hlast]
        refine Lib.hid ?_
        have : ((some s[M] : Option UInt8) == some 93) = false := beq_eq_false_iff_ne.2 (fun e => h93 (Option.some.inj e))
        rw [this]; simp
      have b93 : ((s[M].toNat : Int) != 93) = true := ne8 _ 93 93 rfl h93
      clear hs hsd hat hlast h2 hl hM hMi h93 hsz
      go_enter Tryz.func45, Tryz.ntmps45
      go_wp2_with fail
      go_ret
      exact ⟨ret_bool HR.out.symm, Below.refl _ _⟩
  · have h3 : ((s.size : Int) < 3) := by omega
    have HR : Hid (Tg.isHost (91 :: t) = false) := by rw [Tg.isHost_cons, if_pos rfl, decide_eq_false h2]; exact Lib.hid rfl
    clear hs hsd hat h2 hl hsz
    go_enter Tryz.func45, Tryz.ntmps45
    go_wp2_with fail
    go_ret
    exact ⟨ret_bool HR.out.symm, Below.refl _ _⟩

set_option maxHeartbeats 1600000 in
set_option maxRecDepth 100000 in
theorem rhost_b (l : List UInt8) (w : World) (hl : l.length ≤ 100000) (h91 : ¬ l.head? = some 91) :
    Calls Tryz.prog 45 #[.string (str l)] w fun e w' => e = .returned (.bool (Tg.isHost l)) ∧ Below w.heap.size w w' := by
  obtain ⟨s, hs⟩ : ∃ s, s = str l := ⟨_, rfl⟩
  have hsd : s.data.toList = l := by rw [hs, str_list]
  have hsz : s.size = l.length := by rw [hs, str_size]
  rw [← hs]
  have b0 : ∀ h : 0 < s.size, ((s[0].toNat : Int) == 91) = false := fun h => by
    rw [beq_eq_false_iff_ne]; intro e
    apply h91
    have h2 : s[0] = 91 := Oct.u8_eq (n := 91) e
    have h3 := Lib.data_getElem? s 0 h
    rw [hsd, h2] at h3
    rw [List.head?_eq_getElem?]; exact h3
  have HR : Hid (Tg.isHost l = (decide (0 < s.size) && Oct.allOf Tg.hostc s.data.toList)) := by
    rw [hsd, hsz]
    refine Lib.hid ?_
    cases l with
    | nil => rfl
    | cons c t => rw [Tg.isHost_cons, if_neg (fun e => h91 (by rw [e]; rfl))]; simp [Oct.allOf]
  have hs6 : s.size ≤ 1000000 := by omega
  clear hs hsd hsz h91 hl
  have hcond : s.size = 0 ∨ 0 < s.size := by omega
  rcases hcond with h0 | h0
  · have h0i : (s.size : Int) = 0 := by omega
    have hE : ¬ ((0 : Int) < s.size) := by omega
    have HR2 : Hid (Tg.isHost l = false) := by rw [HR.out, decide_eq_false (by omega)]; exact Lib.hid rfl
    clear b0 HR h0
    go_enter Tryz.func45, Tryz.ntmps45
    go_wp2_with fail
    refine wp_loop_rounds 1 ?_
    rw [rounds_succ]
    go_wp2_with fail
    go_ret
    exact ⟨ret_bool (by rw [HR2.out]), Below.refl _ _⟩
  · have hE : ((0 : Int) < s.size) := by omega
    have b0 := b0 h0
    have HR2 : Hid (Tg.isHost l = Oct.allOf Tg.hostc s.data.toList) := by rw [HR.out, decide_eq_true h0]; exact Lib.hid rfl
    clear HR
    go_enter Tryz.func45, Tryz.ntmps45
    go_wp2_with fail
    go_loopw [4] (fun i wr => ∃ k : Nat, k ≤ s.size ∧ i = .int .i64 k ∧ Hid (Oct.allOf Tg.hostc (s.data.toList.take k) = true) ∧ Below w.heap.size w wr) (fun i _ => s.size - (intOf i).toNat)
    case atStart => exact ⟨0, by omega, rfl, Lib.hid rfl, Below.refl _ _⟩
    case round =>
      obtain ⟨k, hk, rfl, HA, hb⟩ := hrel
      by_cases hlt : k < s.size
      · have HN := Lib.hid (Oct.all_snoc Tg.hostc s k hlt)
        have HM := Lib.hid (Oct.all_miss Tg.hostc s k hlt)
        have cF := fun (W : World) => rfree_c s[k] W
        have cM := fun (W : World) => among_c s[k] ⟨#[33, 36, 38, 39, 40, 41, 42, 43, 44, 59, 61]⟩ W (by decide)
        rw [show has (⟨#[33, 36, 38, 39, 40, 41, 42, 43, 44, 59, 61]⟩ : ByteArray).data.toList s[k] = Tg.mark s[k] from rfl] at cM
        have HH : Hid (Tg.hostc s[k] = (Tg.free s[k] || Tg.mark s[k])) := Lib.hid rfl
        generalize Tg.free s[k] = f at *
        generalize Tg.mark s[k] = m at *
        generalize Tg.hostc s[k] = hc at *
        cases f with
        | true =>
          have HA2 : Hid (Oct.allOf Tg.hostc (s.data.toList.take (k + 1)) = true) := by rw [HN.out, HA.out, HH.out]; exact Lib.hid rfl
          clear HM cM
          go_wp2_with fail
          refine (cF _).mono ?_
          rintro e w1 ⟨rfl, rfl⟩
          go_wp2_with fail
          go_roundw
          case rel => exact ⟨k + 1, by omega, by go_num, HA2, hb⟩
          case measure => simp [intOf]; omega
        | false =>
          cases m with
          | true =>
            have HA2 : Hid (Oct.allOf Tg.hostc (s.data.toList.take (k + 1)) = true) := by rw [HN.out, HA.out, HH.out]; exact Lib.hid rfl
            clear HM
            go_wp2_with fail
            refine (cF _).mono ?_
            rintro e w1 ⟨rfl, rfl⟩
            go_wp2_with fail
            refine (cM _).mono ?_
            rintro e w1 ⟨rfl, rfl⟩
            go_wp2_with fail
            go_roundw
            case rel => exact ⟨k + 1, by omega, by go_num, HA2, hb⟩
            case measure => simp [intOf]; omega
          | false =>
            have HN2 : Hid (Oct.allOf Tg.hostc s.data.toList = false) := Lib.hid (HM.out (by rw [HH.out]; rfl))
            clear HM
            go_wp2_with fail
            refine (cF _).mono ?_
            rintro e w1 ⟨rfl, rfl⟩
            go_wp2_with fail
            refine (cM _).mono ?_
            rintro e w1 ⟨rfl, rfl⟩
            go_wp2_with fail
            go_ret
            exact ⟨ret_bool (by rw [HR2.out, HN2.out]), hb⟩
      · have HE := Lib.hid (Oct.take_all s k (by omega))
        go_wp2_with fail
        go_ret
        exact ⟨ret_bool (by rw [HR2.out, ← HE.out, HA.out]), hb⟩
theorem rhost_s (l : List UInt8) (w : World) (hl : l.length ≤ 100000) :
    Calls Tryz.prog 45 #[.string (str l)] w fun e w' => e = .returned (.bool (Tg.isHost l)) ∧ Below w.heap.size w w' := by
  by_cases h : l.head? = some 91
  · cases l with
    | nil => cases h
    | cons c t =>
      obtain rfl : c = 91 := by simpa using h
      exact rhost_a t w (by simp at hl; omega)
  · exact rhost_b l w hl h
end Go.Proofs.YtlikjfemkadciaaGreatDoor
