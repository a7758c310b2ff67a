/- Package control: a piece's name and number. -/
import Derived.Test.YtolhhejhjjiefaaDoorCt1
import Derived.Test.YtolhhejhjjiefaaDoorShelf
namespace Go.Proofs.YtolhhejhjjiefaaDoor
open Go.RowKit

/-- The library's variable of the longest separator holds some number. -/
def MaxOk (w : World) : Prop := ∃ m, w.cell? ⟨0, 0, none⟩ = some (.int .i64 m)
theorem MaxOk.later {w w' : World} (h : MaxOk w) (hb : Below w.heap.size w w') : MaxOk w' := by
  obtain ⟨m, h⟩ := h
  exact ⟨m, (hb.cell (p := ⟨0, 0, none⟩) (World.block_lt_of_cell? w _ h)).trans h⟩
theorem str_same {a : ByteArray} {l : List UInt8} (h : a.data.toList = l) : a = str l := by rw [← h, str_of]
theorem bdrewN (w : World) (n : Nat) : Below w.heap.size w (w.drewN n) := ⟨rfl, rfl, rfl, Nat.le_refl _, fun _ _ => rfl⟩
theorem cut_eq (l : List UInt8) : Lib.cut l [61] = if Ctl.eqAt l = l.length then (l, [], false) else (l.take (Ctl.eqAt l), l.drop (Ctl.eqAt l + 1), true) := by
  unfold Lib.cut
  rw [Lib.index_one, Ctl.eqAt_index]
  by_cases h : Ctl.eqAt l = l.length
  · rw [if_pos h, if_neg (by decide)]; simp [h]
  · rw [if_neg h, if_pos (by omega), if_neg h]; simp

set_option maxHeartbeats 800000 in
theorem worth_w (s : List UInt8) (w : World) (hs : s.length ≤ 1000000) :
    Calls Tryd.prog 37 #[.string (str s)] w fun e w' => e = .returned (.int .i64 (Ctl.worth s)) ∧ Below w.heap.size w w' := by
  have hN := Number_s (str s) 2147483647 w (by rw [str_size]; exact hs) (by decide) (by decide)
  rw [str_list] at hN
  have HW : Hid (Ctl.worth s = if (Oct.number 10 2147483647 s).2 = 12 then 2147483647 else (Oct.number 10 2147483647 s).1) := Lib.hid rfl
  obtain ⟨a, e, hae⟩ : ∃ a e, Oct.number 10 2147483647 s = (a, e) := ⟨_, _, rfl⟩
  rw [hae] at hN HW
  generalize str s = t at *
  clear hs hae
  by_cases he : e = 12
  · subst he
    go_enter Tryd.func37, Tryd.ntmps37
    go_wp2_with fail
    refine hN.mono ?_
    rintro e w1 ⟨rfl, hb⟩
    go_wp2_with fail
    go_ret
    exact ⟨ret_int (by have := HW.out; simpa using this.symm), hb⟩
  · have b1 : (e == 12) = false := beq_eq_false_iff_ne.2 he
    have HE := Lib.hid he
    clear he
    go_enter Tryd.func37, Tryd.ntmps37
    go_wp2_with fail
    refine hN.mono ?_
    rintro r w1 ⟨rfl, hb⟩
    go_wp2_with fail
    go_ret
    exact ⟨ret_int (by rw [HW.out, if_neg HE.out]), hb⟩

set_option maxHeartbeats 800000 in
theorem argument_yes (s a : List UInt8) (w : World) (hs : s.length ≤ 1000000) (h : Ctl.argument s = some a) :
    Calls Tryd.prog 36 #[.string (str s)] w fun e w' => e = .returned (.tuple #[.string (str a), .bool true]) ∧ Below w.heap.size w w' := by
  have hz : (str s).size ≤ 1000000 := by rw [str_size]; exact hs
  have cT := Token_s (str s) w hz
  have cU := Unquote_s (str s) w hz
  rw [str_list] at cT cU
  unfold Ctl.argument at h
  by_cases ht : Oct.token s = true
  · rw [if_pos ht] at h
    rw [ht] at cT
    obtain rfl : s = a := Option.some.inj h
    generalize str s = t at *
    clear cU h ht hs hz
    go_enter Tryd.func36, Tryd.ntmps36
    go_wp2_with (go_at_call 34; refine cT.mono ?_; rintro e w1 ⟨rfl, rfl⟩)
    go_ret2
    exact ⟨rfl, Below.refl _ _⟩
  · rw [if_neg ht] at h
    have ht' : Oct.token s = false := by simpa using ht
    rw [ht'] at cT
    cases hu : Oct.unquote s with
    | none => rw [hu] at h; cases h
    | some x =>
      obtain ⟨t, n⟩ := x
      rw [hu] at h cU
      have hn : n = s.length := by
        by_cases hn : n = s.length
        · exact hn
        · simp only [] at h; rw [if_neg hn] at h; cases h
      simp only [] at h
      rw [if_pos hn] at h
      obtain rfl : t = a := Option.some.inj h
      rw [show unqRes (some (t, n)) = .tuple #[.string (str t), .int .i64 n, .int .i64 0] from rfl, hn, ← str_size] at cU
      generalize str s = u at *
      generalize str t = v at *
      clear h ht ht' hs hu hn
      go_enter Tryd.func36, Tryd.ntmps36
      go_wp2_with (go_at_call 34; refine cT.mono ?_; rintro e w1 ⟨rfl, rfl⟩)
      refine cU.mono ?_
      rintro e w1 ⟨rfl, hb⟩
      go_wp2_with fail
      go_ret2
      exact ⟨rfl, hb⟩

set_option maxHeartbeats 800000 in
theorem argument_no (s : List UInt8) (w : World) (hs : s.length ≤ 1000000) (h : Ctl.argument s = none) :
    Calls Tryd.prog 36 #[.string (str s)] w fun e w' => ∃ t, e = .returned (.tuple #[.string t, .bool false]) ∧ Below w.heap.size w w' := by
  have hz : (str s).size ≤ 1000000 := by rw [str_size]; exact hs
  have cT := Token_s (str s) w hz
  have cU := Unquote_s (str s) w hz
  rw [str_list] at cT cU
  unfold Ctl.argument at h
  by_cases ht : Oct.token s = true
  · rw [if_pos ht] at h; cases h
  · rw [if_neg ht] at h
    have ht' : Oct.token s = false := by simpa using ht
    rw [ht'] at cT
    cases hu : Oct.unquote s with
    | none =>
      rw [hu, show unqRes none = .tuple #[.string ⟨#[]⟩, .int .i64 0, .int .i64 10] from rfl] at cU
      generalize str s = u at *
      clear h ht ht' hs hu
      go_enter Tryd.func36, Tryd.ntmps36
      go_wp2_with (go_at_call 34; refine cT.mono ?_; rintro e w1 ⟨rfl, rfl⟩)
      refine cU.mono ?_
      rintro e w1 ⟨rfl, hb⟩
      go_wp2_with fail
      go_ret2
      exact ⟨_, rfl, hb⟩
    | some x =>
      obtain ⟨t, n⟩ := x
      rw [hu] at h cU
      have hn : ¬ n = s.length := by
        intro hn
        simp only [] at h; rw [if_pos hn] at h; cases h
      have hb0 : ((n : Int) == ((str s).size : Int)) = false := by rw [beq_eq_false_iff_ne, str_size]; omega
      rw [show unqRes (some (t, n)) = .tuple #[.string (str t), .int .i64 n, .int .i64 0] from rfl] at cU
      generalize str s = u at *
      generalize str t = v at *
      clear h ht ht' hs hu hn
      go_enter Tryd.func36, Tryd.ntmps36
      go_wp2_with (go_at_call 34; refine cT.mono ?_; rintro e w1 ⟨rfl, rfl⟩)
      refine cU.mono ?_
      rintro e w1 ⟨rfl, hb⟩
      go_wp2_with fail
      go_ret2
      exact ⟨_, rfl, hb⟩

/-- A directive, as it is handed back. -/
def dres : Option (List UInt8 × Int) → Value
  | some (nm, n) => .tuple #[.string (str nm), .int .i64 n, .bool true]
  | none => .tuple #[.string ⟨#[]⟩, .int .i64 0, .bool false]

set_option maxHeartbeats 800000 in
theorem directive_w (l : List UInt8) (w : World) (hl : l.length ≤ 1000000) (hm : MaxOk w) :
    Calls Tryd.prog 20 #[.string (str l)] w fun e w' => e = .returned (dres (Ctl.directive l)) ∧ Below w.heap.size w w' := by
  obtain ⟨m, hmc⟩ := hm
  have cC := Tryd.strings_Cut (str l) ⟨#[61]⟩ m w (by rw [str_size]; omega) hmc
  rw [str_list, show (⟨#[61]⟩ : ByteArray).data.toList = [61] from rfl, cut_eq] at cC
  have hle := Ctl.eqAt_le l
  have hlt : (l.take (Ctl.eqAt l)).length ≤ 1000000 := by rw [List.length_take]; omega
  have cT := fun w => Token_s (str (l.take (Ctl.eqAt l))) w (by rw [str_size]; exact hlt)
  have cL := fun w => Lower_s (str (l.take (Ctl.eqAt l))) w (by rw [str_size]; exact hlt)
  rw [str_list] at cT cL
  by_cases ht : Oct.token (l.take (Ctl.eqAt l)) = true
  case neg =>
    have ht' : Oct.token (l.take (Ctl.eqAt l)) = false := by simpa using ht
    have HR : Hid (dres (Ctl.directive l) = .tuple #[.string ⟨#[]⟩, .int .i64 0, .bool false]) := by unfold Ctl.directive; rw [if_pos ht']; exact Lib.hid rfl
    rw [ht'] at cT
    have cC' : Calls Tryd.prog 33 #[.string (str l), .string ⟨#[61]⟩] w fun e w' => ∃ r b, e = .returned (.tuple #[.string (str (l.take (Ctl.eqAt l))), .string r, .bool b]) ∧ ∃ n, w' = w.drewN n := by
      refine cC.mono ?_
      rintro e w' ⟨he, hn⟩
      by_cases hc : Ctl.eqAt l = l.length
      · rw [if_pos hc] at he
        refine ⟨str [], false, ?_, hn⟩
        rw [he, hc, List.take_of_length_le (Nat.le_refl _)]; rfl
      · rw [if_neg hc] at he
        exact ⟨str (l.drop (Ctl.eqAt l + 1)), true, he, hn⟩
    generalize str (l.take (Ctl.eqAt l)) = s0 at *
    generalize str l = s at *
    clear ht ht' hle hlt cC cL hmc hl
    go_enter Tryd.func20, Tryd.ntmps20
    go_wp2_with fail
    refine cC'.mono ?_
    rintro e w1 ⟨r, b, rfl, q, rfl⟩
    go_wp2_with (go_at_call 34; refine (cT _).mono ?_; rintro e w2 ⟨rfl, rfl⟩)
    go_ret3
    exact ⟨by rw [HR.out]; rfl, bdrewN w q⟩
  rw [ht] at cT
  by_cases hc : Ctl.eqAt l = l.length
  · rw [if_pos hc] at cC
    have e1 : l.take (Ctl.eqAt l) = l := by rw [hc, List.take_of_length_le (Nat.le_refl _)]
    rw [e1] at cT cL ht
    have HR : Hid (Ctl.directive l = some (Oct.lower l, Ctl.bare (Oct.lower l))) := by unfold Ctl.directive; rw [e1, if_neg (by rw [ht]; decide), if_pos hc]; exact Lib.hid rfl
    have cC' : Calls Tryd.prog 33 #[.string (str l), .string ⟨#[61]⟩] w fun e w' => e = .returned (.tuple #[.string (str l), .string (str []), .bool false]) ∧ ∃ n, w' = w.drewN n := cC
    generalize str l = s at *
    clear ht e1 hle hlt cC hmc hl hc
    obtain ⟨nm, hnm⟩ : ∃ nm, nm = Oct.lower l := ⟨_, rfl⟩
    rw [← hnm] at cL HR
    clear hnm
    by_cases hk : nm = Ctl.kMS
    · subst hk
      have HV : Hid (dres (Ctl.directive l) = .tuple #[.string ⟨#[109, 97, 120, 45, 115, 116, 97, 108, 101]⟩, .int .i64 2147483647, .bool true]) := by rw [HR.out]; exact Lib.hid rfl
      rw [show str Ctl.kMS = ⟨#[109, 97, 120, 45, 115, 116, 97, 108, 101]⟩ from rfl] at cL
      clear HR
      go_enter Tryd.func20, Tryd.ntmps20
      go_wp2_with fail
      refine cC'.mono ?_
      rintro e w1 ⟨rfl, q, rfl⟩
      go_wp2_with (go_at_call 34; refine (cT _).mono ?_; rintro e w2 ⟨rfl, rfl⟩)
      refine (cL _).mono ?_
      rintro e w2 ⟨rfl, hb⟩
      go_wp2_with fail
      go_ret3
      exact ⟨by rw [HV.out]; rfl, (bdrewN w q).trans (hb.mono (bdrewN w q).size)⟩
    · have HV : Hid (dres (Ctl.directive l) = .tuple #[.string (str nm), .int .i64 0, .bool true]) := by rw [HR.out]; unfold Ctl.bare; rw [if_neg hk]; exact Lib.hid rfl
      have b1 : ((str nm).toList == [109, 97, 120, 45, 115, 116, 97, 108, 101]) = false := by rw [str_toList, beq_eq_false_iff_ne]; exact hk
      generalize str nm = u at *
      clear HR hk
      go_enter Tryd.func20, Tryd.ntmps20
      go_wp2_with fail
      refine cC'.mono ?_
      rintro e w1 ⟨rfl, q, rfl⟩
      go_wp2_with (go_at_call 34; refine (cT _).mono ?_; rintro e w2 ⟨rfl, rfl⟩)
      refine (cL _).mono ?_
      rintro e w2 ⟨rfl, hb⟩
      go_wp2_with fail
      go_ret3
      exact ⟨by rw [HV.out]; rfl, (bdrewN w q).trans (hb.mono (bdrewN w q).size)⟩
  · rw [if_neg hc] at cC
    have cC' : Calls Tryd.prog 33 #[.string (str l), .string ⟨#[61]⟩] w fun e w' => e = .returned (.tuple #[.string (str (l.take (Ctl.eqAt l))), .string (str (l.drop (Ctl.eqAt l + 1))), .bool true]) ∧ ∃ n, w' = w.drewN n := cC
    have hla : (l.drop (Ctl.eqAt l + 1)).length ≤ 1000000 := by rw [List.length_drop]; omega
    have HR : Hid (Ctl.directive l = (Ctl.argument (l.drop (Ctl.eqAt l + 1))).map fun s => (Oct.lower (l.take (Ctl.eqAt l)), Ctl.worth s)) := by unfold Ctl.directive; rw [if_neg (by rw [ht]; decide), if_neg hc]; exact Lib.hid rfl
    generalize hnm : Oct.lower (l.take (Ctl.eqAt l)) = nm at *
    generalize l.drop (Ctl.eqAt l + 1) = ar at *
    cases ha : Ctl.argument ar with
    | none =>
      have cA := fun w => argument_no ar w hla ha
      have HV : Hid (dres (Ctl.directive l) = .tuple #[.string ⟨#[]⟩, .int .i64 0, .bool false]) := by rw [HR.out, ha]; exact Lib.hid rfl
      generalize str (l.take (Ctl.eqAt l)) = s0 at *
      generalize str l = s at *
      generalize str ar = sa at *
      generalize str nm = sn at *
      clear ht hle hlt cC hmc hl hc HR hnm hla ha
      go_enter Tryd.func20, Tryd.ntmps20
      go_wp2_with fail
      refine cC'.mono ?_
      rintro e w1 ⟨rfl, q, rfl⟩
      go_wp2_with (go_at_call 34; refine (cT _).mono ?_; rintro e w2 ⟨rfl, rfl⟩)
      refine (cL _).mono ?_
      rintro e w2 ⟨rfl, hb⟩
      go_wp2_with fail
      refine (cA _).mono ?_
      rintro e w3 ⟨t, rfl, hb3⟩
      go_wp2_with fail
      go_ret3
      exact ⟨by rw [HV.out]; rfl, (bdrewN w q).trans ((hb.trans (hb3.mono hb.size)).mono (bdrewN w q).size)⟩
    | some a =>
      have cA := fun w => argument_yes ar a w hla ha
      have hla' : a.length ≤ 1000000 := Nat.le_trans (Ctl.argument_len ha) hla
      have cW := fun w => worth_w a w hla'
      have HV : Hid (dres (Ctl.directive l) = .tuple #[.string (str nm), .int .i64 (Ctl.worth a), .bool true]) := by rw [HR.out, ha]; exact Lib.hid rfl
      generalize str (l.take (Ctl.eqAt l)) = s0 at *
      generalize str l = s at *
      generalize str ar = sa at *
      generalize str nm = sn at *
      generalize str a = st at *
      generalize Ctl.worth a = wt at *
      clear ht hle hlt cC hmc hl hc HR hnm hla ha hla'
      go_enter Tryd.func20, Tryd.ntmps20
      go_wp2_with fail
      refine cC'.mono ?_
      rintro e w1 ⟨rfl, q, rfl⟩
      go_wp2_with (go_at_call 34; refine (cT _).mono ?_; rintro e w2 ⟨rfl, rfl⟩)
      refine (cL _).mono ?_
      rintro e w2 ⟨rfl, hb⟩
      go_wp2_with fail
      refine (cA _).mono ?_
      rintro e w3 ⟨rfl, hb3⟩
      go_wp2_with fail
      refine (cW _).mono ?_
      rintro e w4 ⟨rfl, hb4⟩
      go_wp2_with fail
      go_ret3
      exact ⟨by rw [HV.out]; rfl, (bdrewN w q).trans ((hb.trans ((hb3.trans (hb4.mono hb3.size)).mono hb.size)).mono (bdrewN w q).size)⟩
end Go.Proofs.YtolhhejhjjiefaaDoor
