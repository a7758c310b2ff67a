/- Package date: Parse. -/
import Derived.Test.YtlmcolpoaedclaaDoorDt8
namespace Go.Proofs.YtlmcolpoaedclaaDoor
open Go.RowKit

/-- A moment's form as a text. -/
noncomputable def f3 (a : Int) (k : Nat) : ByteArray := str (Dt.form a k)
theorem f3_ix (a : Int) (k : Nat) (h : k < 3) (w : World) : (Instr.index 31 (.agg #[.string (f3 a 0), .string (f3 a 1), .string (f3 a 2)]) (.int .i64 k)).run Tryd.prog w = .ok (.string (f3 a k)) w := by
  have : k = 0 ∨ k = 1 ∨ k = 2 := by omega
  rcases this with rfl | rfl | rfl
  · exact ix3_0 _ _ _ w
  · exact ix3_1 _ _ _ w
  · exact ix3_2 _ _ _ w
theorem readW_bd {ws : List (List UInt8)} {a : Int} (h : Dt.readW ws = (a, true)) : 0 ≤ a ∧ a ≤ 253402300799 := by
  unfold Dt.readW at h
  split at h
  · split at h
    · simp only [Prod.mk.injEq, Bool.and_eq_true, decide_eq_true_eq] at h
      rw [← h.1]; exact h.2
    · simp at h
  · simp at h
theorem parseW_found {l : List UInt8} {ws : List (List UInt8)} {a : Int} {k : Nat} (hl : l.length ≤ 33) (h : Dt.readW ws = (a, true)) (hk : k < 3) (e : l = Dt.form a k) : Dt.parseW l ws = (a, 0) := by
  unfold Dt.parseW
  rw [if_neg (by omega), h, if_pos]
  refine ⟨rfl, ?_⟩
  have : k = 0 ∨ k = 1 ∨ k = 2 := by omega
  rcases this with rfl | rfl | rfl
  · exact .inl e
  · exact .inr (.inl e)
  · exact .inr (.inr e)
theorem parseW_none {l : List UInt8} {ws : List (List UInt8)} {a : Int} (h : Dt.readW ws = (a, true)) (hno : ∀ k : Nat, k < 3 → l ≠ Dt.form a k) : Dt.parseW l ws = (0, 10) := by
  unfold Dt.parseW
  split
  · rfl
  · rw [h, if_neg]
    rintro ⟨_, e | e | e⟩
    · exact hno 0 (by omega) e
    · exact hno 1 (by omega) e
    · exact hno 2 (by omega) e
theorem parseW_bad {l : List UInt8} {ws : List (List UInt8)} (h : (Dt.readW ws).2 = false) : Dt.parseW l ws = (0, 10) := by
  unfold Dt.parseW
  split
  · rfl
  · rw [if_neg]
    rintro ⟨e, _⟩
    rw [h] at e; cases e
theorem parseW_long {l : List UInt8} {ws : List (List UInt8)} (h : 33 < l.length) : Dt.parseW l ws = (0, 10) := by
  unfold Dt.parseW
  rw [if_pos h]

set_option maxHeartbeats 1600000 in
theorem Parse_c (s : ByteArray) (w : World) (hT : DTabs w) :
    Calls Tryd.prog 9 #[.string s] w fun e w' => e = .returned (.tuple #[.int .i64 (Dt.parseW s.data.toList (Dt.fields s)).1, .int .i64 (Dt.parseW s.data.toList (Dt.fields s)).2]) ∧ Below w.heap.size w w' := by
  have hsz : s.data.toList.length = s.size := Oct.length_size s
  by_cases hl : 33 < s.size
  · have HR := Lib.hid (parseW_long (l := s.data.toList) (ws := Dt.fields s) (by omega))
    have hR := read_long s w (by omega)
    clear hsz hl
    go_enter Tryd.func9, Tryd.ntmps9
    go_wp2_with fail
    refine hR.mono ?_
    rintro e w1 ⟨rfl, rfl⟩
    go_wp2_with fail
    go_ret2
    exact ⟨by rw [HR.out]; rfl, Below.refl _ _⟩
  have hR := read_c s w hT (by omega)
  obtain ⟨a, ok, hr⟩ : ∃ a ok, Dt.readW (Dt.fields s) = (a, ok) := ⟨_, _, rfl⟩
  rw [hr] at hR
  cases ok with
  | false =>
    have HR := Lib.hid (parseW_bad (l := s.data.toList) (ws := Dt.fields s) (by rw [hr]))
    clear hsz hl hr
    go_enter Tryd.func9, Tryd.ntmps9
    go_wp2_with fail
    refine hR.mono ?_
    rintro e w1 ⟨rfl, hb⟩
    go_wp2_with fail
    go_ret2
    exact ⟨by rw [HR.out]; rfl, hb⟩
  | true =>
    obtain ⟨a0, a1⟩ := readW_bd hr
    have HY := Lib.hid (fun k hk e => parseW_found (l := s.data.toList) (k := k) (by omega) hr hk e)
    have HN := Lib.hid (parseW_none (l := s.data.toList) hr)
    have hF := fun w hT => forms_a a w hT a0 a1
    have hfv : formsV a = .agg #[.string (f3 a 0), .string (f3 a 1), .string (f3 a 2)] := rfl
    rw [hfv] at hF
    have HT := Lib.hid hT
    clear hsz hl hr hfv hT
    go_enter Tryd.func9, Tryd.ntmps9
    go_wp2_with fail
    refine hR.mono ?_
    rintro e w1 ⟨rfl, hb⟩
    have hT1 := HT.out.later hb
    clear hR
    go_wp2_with fail
    refine (hF w1 hT1).mono ?_
    rintro e w2 ⟨rfl, hb2⟩
    have HB := Lib.hid (hb.trans (hb2.mono hb.size))
    clear hF hT1 hb hb2
    go_wp2_with fail
    go_loop [17] (fun i => ∃ k : Nat, k ≤ 3 ∧ i = .int .i64 k ∧ ∀ j : Nat, j < k → s.data.toList ≠ Dt.form a j) (fun i => 3 - (intOf i).toNat)
    case atStart => exact ⟨0, by omega, rfl, fun j hj => by omega⟩
    case round =>
      obtain ⟨k, hk, rfl, hno⟩ := hrel
      have HNo := Lib.hid hno
      clear hno
      by_cases hlt : k < 3
      · have hix := f3_ix a k hlt
        have hlt' : (k : Int) < 3 := by omega
        by_cases he : s.data.toList = Dt.form a k
        · have hb : ((f3 a k).toList == s.toList) = true := by rw [bytes_eq]; unfold f3; rw [str_list]; simpa using he.symm
          have HR := Lib.hid (HY.out k hlt he)
          clear he
          go_wp2_with fail
          go_ret2
          exact ⟨by rw [HR.out]; rfl, HB.out⟩
        · have hb : ((f3 a k).toList == s.toList) = false := by rw [bytes_eq]; unfold f3; rw [str_list]; simpa using fun e => he e.symm
          have HE := Lib.hid he
          clear he
          go_wp2_with fail
          go_round
          case rel => exact ⟨k + 1, by omega, by go_num, fun j hj => by
            by_cases hjk : j = k
            · rw [hjk]; exact HE.out
            · exact HNo.out j (by omega)⟩
          case measure => simp [intOf]; omega
      · have hlt' : ¬ (k : Int) < 3 := by omega
        have HR := Lib.hid (HN.out (fun j hj => HNo.out j (by omega)))
        go_wp2_with fail
        go_ret2
        exact ⟨by rw [HR.out]; rfl, HB.out⟩

/-- A form is read as its moment. -/
theorem Parse_yes (s : ByteArray) (a : Int) (w : World) (hT : DTabs w) (h : Dt.Says s.data.toList a) :
    Calls Tryd.prog 9 #[.string s] w fun e w' => e = .returned (.tuple #[.int .i64 a, .int .i64 0]) ∧ Below w.heap.size w w' := by
  have := Parse_c s w hT
  rw [h.parse (Dt.fields_words s)] at this
  exact this
/-- What is none is refused. -/
theorem Parse_no (s : ByteArray) (w : World) (hT : DTabs w) (h : ∀ a, ¬ Dt.Says s.data.toList a) :
    Calls Tryd.prog 9 #[.string s] w fun e w' => e = .returned (.tuple #[.int .i64 0, .int .i64 10]) ∧ Below w.heap.size w w' := by
  have := Parse_c s w hT
  rw [Dt.silent_parse h (Dt.fields_words s)] at this
  exact this

end Go.Proofs.YtlmcolpoaedclaaDoor
