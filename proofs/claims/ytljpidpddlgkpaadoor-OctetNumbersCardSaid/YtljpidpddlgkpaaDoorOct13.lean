/- The statements of layer 1: the walks of OctetKinds, OctetTrims, OctetSplits. -/
import Derived.Test.YtljpidpddlgkpaaDoorOct12
namespace Go.Proofs.YtljpidpddlgkpaaDoor
open Go.RowKit

theorem bt {a b c : World} (h : Below a.heap.size a b) (h' : Below b.heap.size b c) : Below a.heap.size a c := h.trans (h'.mono h.size)

set_option maxHeartbeats 1600000 in
set_option maxRecDepth 100000 in
theorem kinds_w (s : ByteArray) (w : World) (hs : s.size ≤ 9223372036854775807) :
    Calls Tryd.prog 3 #[.string s] w fun e w' => e = .returned (.bool true) ∧ Below w.heap.size w w' := by
  by_cases hl : (5000 : Int) < s.size
  · go_enter Tryd.func3, Tryd.ntmps3
    go_wp2_with fail
    refine (awake_w w).mono ?_
    rintro e w1 ⟨rfl, hb1⟩
    go_wp2_with fail
    refine (awake_w w1).mono ?_
    rintro e w2 ⟨rfl, hb2⟩
    go_wp2_with fail
    go_ret
    exact ⟨rfl, bt hb1 hb2⟩
  · have hs' : s.size ≤ 1000000 := by omega
    go_enter Tryd.func3, Tryd.ntmps3
    go_wp2_with fail
    refine (awake_w w).mono ?_
    rintro e w1 ⟨rfl, hb1⟩
    go_wp2_with fail
    refine (Token_s s w1 hs').mono ?_
    rintro e w2 ⟨rfl, rfl⟩
    go_wp2_with fail
    refine (rToken_s s w1 hs').mono ?_
    rintro e w2 ⟨rfl, hb2⟩
    have hb := bt hb1 hb2
    clear hb1 hb2
    go_wp2_with fail
    refine (Value_s s w2 hs').mono ?_
    rintro e w3 ⟨rfl, hb3⟩
    go_wp2_with fail
    refine (rValue_s s w3 hs').mono ?_
    rintro e w4 ⟨rfl, rfl⟩
    go_wp2_with fail
    refine (Trim_s s w3 hs').mono ?_
    rintro e w4 ⟨rfl, hb4⟩
    go_wp2_with fail
    refine (rTrim_s s w4 hs').mono ?_
    rintro e w5 ⟨rfl, rfl⟩
    go_wp2_with fail
    refine (Lower_s s w4 hs').mono ?_
    rintro e w5 ⟨rfl, hb5⟩
    go_wp2_with fail
    refine (rLower_s s w5 hs').mono ?_
    rintro e w6 ⟨rfl, hb6⟩
    go_wp2_with fail
    go_ret
    exact ⟨rfl, bt (bt (bt (bt hb hb3) hb4) hb5) hb6⟩

end Go.Proofs.YtljpidpddlgkpaaDoor
