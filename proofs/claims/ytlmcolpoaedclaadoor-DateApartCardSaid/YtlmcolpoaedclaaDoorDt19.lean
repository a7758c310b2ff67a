/- The statements of layer 2: the examples that each begins with; DateParses. -/
import Derived.Test.YtlmcolpoaedclaaDoorDt16
import Derived.Test.YtlmcolpoaedclaaDoorDt17
import Derived.Test.YtlmcolpoaedclaaDoorDt18
namespace Go.Proofs.YtlmcolpoaedclaaDoor
open Go.RowKit

theorem rParse_c (s : ByteArray) (w : World) (hs : s.size ≤ 500) :
    Calls Tryd.prog 10 #[.string s] w fun e w' => e = .returned (.tuple #[.int .i64 (Dt.asked s.data.toList).1, .int .i64 (Dt.asked s.data.toList).2]) ∧ Below w.heap.size w w' := by
  by_cases h29 : s.size = 29
  · exact rParse_29 s w h29
  · by_cases h24 : s.size = 24
    · exact rParse_24 s w h24
    · exact rParse_X s w hs h29 h24
theorem Parse_asked (s : ByteArray) (w : World) (hT : DTabs w) :
    Calls Tryd.prog 9 #[.string s] w fun e w' => e = .returned (.tuple #[.int .i64 (Dt.asked s.data.toList).1, .int .i64 (Dt.asked s.data.toList).2]) ∧ Below w.heap.size w w' := by
  by_cases h : ∃ a, Dt.Says s.data.toList a
  · obtain ⟨a, ha⟩ := h
    rw [Dt.asked_yes ha]
    exact Parse_yes s a w hT ha
  · have hn : ∀ a, ¬ Dt.Says s.data.toList a := fun a ha => h ⟨a, ha⟩
    rw [Dt.asked_no hn]
    exact Parse_no s w hT hn

def exGood : List UInt8 := [83, 117, 110, 44, 32, 48, 54, 32, 78, 111, 118, 32, 49, 57, 57, 52, 32, 48, 56, 58, 52, 57, 58, 51, 55, 32, 71, 77, 84]
def exBad : List UInt8 := [77, 111, 110, 44, 32, 48, 54, 32, 78, 111, 118, 32, 49, 57, 57, 52, 32, 48, 56, 58, 52, 57, 58, 51, 55, 32, 71, 77, 84]
theorem ex_date : Dt.IsDate (784111777 / 86400) 1994 10 6 := ⟨by decide, by decide, by decide, by decide, by decide, by decide +kernel, by decide +kernel⟩
theorem ex_form : Dt.form 784111777 0 = exGood := by
  rw [Dt.form0 ex_date]
  decide +kernel
theorem ex_read : Dt.readW (Dt.words exBad) = (784111777, true) := by decide +kernel
theorem ex_bad (a : Int) : ¬ Dt.Says exBad a := by
  intro h
  have h1 := h.read.1
  rw [ex_read] at h1
  obtain rfl : a = 784111777 := (Prod.mk.inj h1).1.symm
  have hl := Dt.len_form (a := 784111777) (by decide) (by decide)
  have h29 : exBad.length = 29 := rfl
  rcases h.2.2 with e | ⟨_, e⟩ | e
  · rw [ex_form] at e; exact absurd e (by decide +kernel)
  · rw [← e] at hl; omega
  · rw [← e] at hl; omega
theorem last_date : Dt.IsDate (253402300799 / 86400) 9999 11 31 := ⟨by decide, by decide, by decide, by decide, by decide, by decide +kernel, by decide +kernel⟩
theorem first_date : Dt.IsDate (0 / 86400) 1970 0 1 := ⟨by decide, by decide, by decide, by decide, by decide, by decide +kernel, by decide +kernel⟩
theorem last_form : Dt.form 253402300799 0 = [70, 114, 105, 44, 32, 51, 49, 32, 68, 101, 99, 32, 57, 57, 57, 57, 32, 50, 51, 58, 53, 57, 58, 53, 57, 32, 71, 77, 84] := by
  rw [Dt.form0 last_date]
  decide +kernel
theorem first_form : Dt.form 0 0 = [84, 104, 117, 44, 32, 48, 49, 32, 74, 97, 110, 32, 49, 57, 55, 48, 32, 48, 48, 58, 48, 48, 58, 48, 48, 32, 71, 77, 84] := by
  rw [Dt.form0 first_date]
  decide +kernel

set_option maxHeartbeats 800000 in
theorem awake_w (w : World) (hT : DTabs w) : Calls Tryd.prog 8 #[] w fun e w' => e = .returned (.bool true) ∧ Below w.heap.size w w' := by
  have hP := Print_yes 784111777 ⟨#[83, 117, 110, 44, 32, 48, 54, 32, 78, 111, 118, 32, 49, 57, 57, 52, 32, 48, 56, 58, 52, 57, 58, 51, 55, 32, 71, 77, 84]⟩ w hT (by decide) (by decide) (by rw [ex_form]; rfl)
  have hN := fun w hT => Parse_no ⟨#[77, 111, 110, 44, 32, 48, 54, 32, 78, 111, 118, 32, 49, 57, 57, 52, 32, 48, 56, 58, 52, 57, 58, 51, 55, 32, 71, 77, 84]⟩ w hT ex_bad
  have HT := Lib.hid hT
  clear hT
  go_enter Tryd.func8, Tryd.ntmps8
  go_wp2_with fail
  refine hP.mono ?_
  rintro e w1 ⟨rfl, hb1⟩
  have hT1 := HT.out.later hb1
  clear hP
  go_wp2_with fail
  refine (hN w1 hT1).mono ?_
  rintro e w2 ⟨rfl, hb2⟩
  have hB2 := bt hb1 hb2
  clear hN hT1 hb1 hb2
  go_wp2_with fail
  go_ret
  exact ⟨rfl, hB2⟩
theorem Last_c (w : World) : Calls Tryd.prog 13 #[] w fun e w' => e = .returned (.int .i64 253402300799) ∧ w = w' := by
  go_enter Tryd.func13, Tryd.ntmps13
  go_wp2
  go_ret
  exact ⟨rfl, rfl⟩

set_option maxHeartbeats 1600000 in
theorem parses_w (s : ByteArray) (w : World) (hs : s.size ≤ 9223372036854775807) (hT : DTabs w) :
    Calls Tryd.prog 3 #[.string s] w fun e w' => e = .returned (.bool true) ∧ Below w.heap.size w w' := by
  have hA := awake_w w hT
  have HT := Lib.hid hT
  clear hT
  by_cases hl : (500 : Int) < s.size
  · go_enter Tryd.func3, Tryd.ntmps3
    go_wp2_with fail
    refine hA.mono ?_
    rintro e w1 ⟨rfl, hb1⟩
    have hT1 := HT.out.later hb1
    clear hA
    go_wp2_with fail
    refine (awake_w w1 hT1).mono ?_
    rintro e w2 ⟨rfl, hb2⟩
    go_wp2_with fail
    go_ret
    exact ⟨rfl, bt hb1 hb2⟩
  · have hs' : s.size ≤ 500 := by omega
    have hl' : ¬ (500 : Int) < s.size := hl
    have hP := fun w hT => Parse_asked s w hT
    have hR := fun w => rParse_c s w hs'
    obtain ⟨a, e, hae⟩ : ∃ a e, Dt.asked s.data.toList = (a, e) := ⟨_, _, rfl⟩
    rw [hae] at hP hR
    clear hl hs hae
    go_enter Tryd.func3, Tryd.ntmps3
    go_wp2_with fail
    refine hA.mono ?_
    rintro e w1 ⟨rfl, hb1⟩
    have hT1 := HT.out.later hb1
    clear hA
    go_wp2_with fail
    refine (hP w1 hT1).mono ?_
    rintro e w2 ⟨rfl, hb2⟩
    clear hT1
    go_wp2_with fail
    refine (hR w2).mono ?_
    rintro e w3 ⟨rfl, hb3⟩
    have hB := bt (bt hb1 hb2) hb3
    clear hP hR hb1 hb2 hb3
    go_wp2_with fail
    go_ret
    exact ⟨rfl, hB⟩

end Go.Proofs.YtlmcolpoaedclaaDoor
