/- The statements of layer 1: the walk of OctetTrims. -/
import Derived.Test.YtljpidpddlgkpaaDoorOct13
namespace Go.Proofs.YtljpidpddlgkpaaDoor
open Go.RowKit

theorem app_list (a b : ByteArray) : (a ++ b).data.toList = a.data.toList ++ b.data.toList := by
  rw [ByteArray.data_append, Array.toList_append]
theorem Trim_eq (s t : ByteArray) (w : World) (hs : s.size ≤ 1000000) (h : str (Oct.trim s.data.toList) = t) : Calls Tryd.prog 14 #[.string s] w fun e w' => e = .returned (.string t) ∧ Below w.heap.size w w' := by subst h; exact Trim_s s w hs
theorem rTrim_eq (s t : ByteArray) (w : World) (hs : s.size ≤ 1000000) (h : str (Oct.trim s.data.toList) = t) : Calls Tryd.prog 15 #[.string s] w fun e w' => e = .returned (.string t) ∧ w = w' := by subst h; exact rTrim_s s w hs
theorem Lower_eq (s t : ByteArray) (w : World) (hs : s.size ≤ 1000000) (h : str (Oct.lower s.data.toList) = t) : Calls Tryd.prog 16 #[.string s] w fun e w' => e = .returned (.string t) ∧ Below w.heap.size w w' := by subst h; exact Lower_s s w hs
theorem Token_eq (s : ByteArray) (t : Bool) (w : World) (hs : s.size ≤ 1000000) (h : Oct.token s.data.toList = t) : Calls Tryd.prog 10 #[.string s] w fun e w' => e = .returned (.bool t) ∧ w = w' := by subst h; exact Token_s s w hs
theorem Value_eq (s : ByteArray) (t : Bool) (w : World) (hs : s.size ≤ 1000000) (h : Oct.value s.data.toList = t) : Calls Tryd.prog 12 #[.string s] w fun e w' => e = .returned (.bool t) ∧ Below w.heap.size w w' := by subst h; exact Value_s s w hs

set_option maxHeartbeats 3200000 in
set_option maxRecDepth 100000 in
theorem trims_w (s b : ByteArray) (w : World) (hs : s.size ≤ 9223372036854775807) (hbs : b.size ≤ 9223372036854775807) :
    Calls Tryd.prog 8 #[.string s, .string b] w fun e w' => e = .returned (.bool true) ∧ Below w.heap.size w w' := by
  by_cases hl : (2000 : Int) < s.size
  · clear hs hbs
    go_enter Tryd.func8, Tryd.ntmps8
    go_wp2_with fail
    refine (awake_w w).mono ?_
    rintro e w1 ⟨rfl, hb1⟩
    go_wp2_with fail
    refine (awake_w w1).mono ?_
    rintro e w2 ⟨rfl, hb2⟩
    go_wp2_with fail
    go_ret
    exact ⟨rfl, bt hb1 hb2⟩
  have hl3 : (s.size : Int) ≤ 2000 := by omega
  by_cases hl2 : (50 : Int) < b.size
  · clear hs hbs hl
    go_enter Tryd.func8, Tryd.ntmps8
    go_wp2_with fail
    refine (awake_w w).mono ?_
    rintro e w1 ⟨rfl, hb1⟩
    go_wp2_with fail
    refine (awake_w w1).mono ?_
    rintro e w2 ⟨rfl, hb2⟩
    go_wp2_with fail
    go_ret
    exact ⟨rfl, bt hb1 hb2⟩
  have hs' : s.size ≤ 1000000 := by omega
  have hbs' : b.size ≤ 1000000 := by omega
  have hl4 : (b.size : Int) ≤ 50 := by omega
  clear hl hl2 hs hbs
  by_cases hz : Oct.trim b.data.toList = []
  case neg =>
    have hx1 : (str (Oct.trim b.data.toList)).toList.isEmpty = false := by
      rw [str_toList]; cases h : Oct.trim b.data.toList with
      | nil => exact absurd h hz
      | cons _ _ => rfl
    have hx2 : ¬ (str (Oct.trim b.data.toList)).toList = [] := by rw [str_toList]; exact hz
    obtain ⟨x, hx⟩ : ∃ x, str (Oct.trim b.data.toList) = x := ⟨_, rfl⟩
    rw [hx] at hx1 hx2
    have HX := Lib.hid hx
    clear hx hz
    go_enter Tryd.func8, Tryd.ntmps8
    go_wp2_with fail
    refine (awake_w w).mono ?_
    rintro e w1 ⟨rfl, hb1⟩
    go_wp2_with fail
    refine (rTrim_eq b x w1 hbs' HX.out).mono ?_
    rintro e w2 ⟨rfl, rfl⟩
    go_wp2_with fail
    refine (awake_w w1).mono ?_
    rintro e w2 ⟨rfl, hb2⟩
    go_wp2_with fail
    go_ret
    exact ⟨rfl, bt hb1 hb2⟩
  have HA : Hid (_ ∧ _ ∧ _ ∧ _ ∧ _) := Oct.trims s.data.toList b.data.toList hz
  have HZ : Hid (str (Oct.trim b.data.toList) = ⟨#[]⟩) := by rw [hz]; rfl
  clear hz
  obtain ⟨T, hT⟩ : ∃ T, str (Oct.trim s.data.toList) = T := ⟨_, rfl⟩
  have HT := Lib.hid hT
  have H1 : Hid (str (Oct.trim T.data.toList) = T) := by rw [← HT.out, str_list, HA.out.1]; rfl
  have H2 : Hid (str (Oct.trim (b ++ s ++ b).data.toList) = T) := by rw [app_list, app_list, HA.out.2.1]; exact hT
  have hq1 : T.size ≤ 1000000 := by
    rw [← hT, str_size]; have := Oct.trim_len s.data.toList; rw [Oct.length_size] at this; omega
  clear hT
  obtain ⟨L, hL⟩ : ∃ L, str (Oct.lower s.data.toList) = L := ⟨_, rfl⟩
  have HLo := Lib.hid hL
  have HLl : Hid (L.data.toList = Oct.lower s.data.toList) := by rw [← hL, str_list]; rfl
  have H3 : Hid (str (Oct.lower L.data.toList) = L) := by rw [HLl.out, HA.out.2.2.1]; exact hL
  have h4 : L.size = s.size := by rw [← hL, str_size, HA.out.2.2.2.1, Oct.length_size]
  have hq3 : L.size ≤ 1000000 := by omega
  have b4 : ((L.size : Int) == (s.size : Int)) = true := by rw [h4]; exact beq_self_eq_true _
  clear hL h4
  have hq2 : (b ++ s ++ b).size ≤ 1000000 := by rw [ByteArray.size_append, ByteArray.size_append]; omega
  cases hk : Oct.token s.data.toList with
  | false =>
    have HK := Lib.hid hk
    clear hk
    go_enter Tryd.func8, Tryd.ntmps8
    go_wp2_with fail
    refine (awake_w w).mono ?_
    rintro e w1 ⟨rfl, hb1⟩
    go_wp2_with fail
    refine (rTrim_eq b _ w1 hbs' HZ.out).mono ?_
    rintro e w0 ⟨rfl, rfl⟩
    go_wp2_with fail
    refine (Trim_eq s T w1 hs' HT.out).mono ?_
    rintro e w2 ⟨rfl, hb2⟩
    go_wp2_with fail
    refine (Trim_eq T T w2 hq1 H1.out).mono ?_
    rintro e w3 ⟨rfl, hb3⟩
    go_wp2_with fail
    refine (Trim_eq (b ++ s ++ b) T w3 hq2 H2.out).mono ?_
    rintro e w4 ⟨rfl, hb4⟩
    go_wp2_with fail
    refine (Lower_eq s L w4 hs' HLo.out).mono ?_
    rintro e w5 ⟨rfl, hb5⟩
    go_wp2_with fail
    refine (Lower_eq L L w5 hq3 H3.out).mono ?_
    rintro e w6 ⟨rfl, hb6⟩
    go_wp2_with fail
    refine (Lower_eq s L w6 hs' HLo.out).mono ?_
    rintro e w7 ⟨rfl, hb7⟩
    go_wp2_with fail
    refine (Lower_eq s L w7 hs' HLo.out).mono ?_
    rintro e w8 ⟨rfl, hb8⟩
    go_wp2_with fail
    refine (Token_eq s false w8 hs' HK.out).mono ?_
    rintro e w0 ⟨rfl, rfl⟩
    go_wp2_with fail
    go_ret
    exact ⟨rfl, (bt (bt (bt (bt (bt (bt (bt hb1 hb2) hb3) hb4) hb5) hb6) hb7) hb8)⟩
  | true =>
    have HV := Lib.hid (HA.out.2.2.2.2 hk).1
    have HLT : Hid (Oct.token L.data.toList = true) := by rw [HLl.out]; exact (HA.out.2.2.2.2 hk).2
    have HK := Lib.hid hk
    clear hk
    go_enter Tryd.func8, Tryd.ntmps8
    go_wp2_with fail
    refine (awake_w w).mono ?_
    rintro e w1 ⟨rfl, hb1⟩
    go_wp2_with fail
    refine (rTrim_eq b _ w1 hbs' HZ.out).mono ?_
    rintro e w0 ⟨rfl, rfl⟩
    go_wp2_with fail
    refine (Trim_eq s T w1 hs' HT.out).mono ?_
    rintro e w2 ⟨rfl, hb2⟩
    go_wp2_with fail
    refine (Trim_eq T T w2 hq1 H1.out).mono ?_
    rintro e w3 ⟨rfl, hb3⟩
    go_wp2_with fail
    refine (Trim_eq (b ++ s ++ b) T w3 hq2 H2.out).mono ?_
    rintro e w4 ⟨rfl, hb4⟩
    go_wp2_with fail
    refine (Lower_eq s L w4 hs' HLo.out).mono ?_
    rintro e w5 ⟨rfl, hb5⟩
    go_wp2_with fail
    refine (Lower_eq L L w5 hq3 H3.out).mono ?_
    rintro e w6 ⟨rfl, hb6⟩
    go_wp2_with fail
    refine (Lower_eq s L w6 hs' HLo.out).mono ?_
    rintro e w7 ⟨rfl, hb7⟩
    go_wp2_with fail
    refine (Lower_eq s L w7 hs' HLo.out).mono ?_
    rintro e w8 ⟨rfl, hb8⟩
    go_wp2_with fail
    refine (Token_eq s true w8 hs' HK.out).mono ?_
    rintro e w0 ⟨rfl, rfl⟩
    go_wp2_with fail
    refine (Value_eq s true w8 hs' HV.out).mono ?_
    rintro e w9 ⟨rfl, hb9⟩
    go_wp2_with fail
    refine (Lower_eq s L w9 hs' HLo.out).mono ?_
    rintro e w10 ⟨rfl, hb10⟩
    go_wp2_with fail
    refine (Token_eq L true w10 hq3 HLT.out).mono ?_
    rintro e w0 ⟨rfl, rfl⟩
    go_wp2_with fail
    go_ret
    exact ⟨rfl, (bt (bt (bt (bt (bt (bt (bt (bt (bt hb1 hb2) hb3) hb4) hb5) hb6) hb7) hb8) hb9) hb10)⟩

end Go.Proofs.YtljpidpddlgkpaaDoor
