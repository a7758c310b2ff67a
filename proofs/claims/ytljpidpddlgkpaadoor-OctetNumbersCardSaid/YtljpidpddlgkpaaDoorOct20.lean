/- The statements of layer 1: the walk of OctetNumbers. -/
import Derived.Test.YtljpidpddlgkpaaDoorOct19
namespace Go.Proofs.YtljpidpddlgkpaaDoor
open Go.RowKit

theorem Tabs.later {w w' : World} (h : Tabs w) (hb : Below w.heap.size w w') : Tabs w' := by
  refine ⟨fun j hj => ?_, ?_⟩
  · have h1 := h.1 j hj
    rw [hb.cell (p := ⟨5, j, none⟩) (World.block_lt_of_cell? w _ h1)]; exact h1
  · have hg : Tryd.prog.globalNamed "internal/strconv.uint64pow10" = some 0 := by kernel_rfl
    have h1 := h.2.cell hg 0 (by decide)
    exact var?_below hb hg (World.block_lt_of_cell? w _ h1) h.2

theorem Print_is (n b : Int) (x : ByteArray) (w : World) (hn : n ≤ 9223372036854775807) (hT : Tabs w) (h : str (Oct.print n b) = x) :
    Calls Tryd.prog 28 #[.int .i64 n, .int .i64 b] w fun e w' => e = .returned (.string x) ∧ Below w.heap.size w w' := by subst h; exact Print_s n b w hn hT
theorem rPrint_is (n b : Int) (x : ByteArray) (w : World) (hn : n ≤ 9223372036854775807) (h : str (Oct.print n b) = x) :
    Calls Tryd.prog 29 #[.int .i64 n, .int .i64 b] w fun e w' => e = .returned (.string x) ∧ Below w.heap.size w w' := by
  subst h
  by_cases hb : b = 16
  · exact rPrint16 n b w hn hb
  · exact rPrint10 n b w hn hb
theorem Number_is (s : ByteArray) (most a e : Int) (w : World) (hs : s.size ≤ 1000000) (hm1 : -9223372036854775808 ≤ most) (hm2 : most ≤ 9223372036854775807) (h : Oct.number 10 most s.data.toList = (a, e)) :
    Calls Tryd.prog 25 #[.string s, .int .i64 most] w fun r w' => r = .returned (.tuple #[.int .i64 a, .int .i64 e]) ∧ Below w.heap.size w w' := by
  have := Number_s s most w hs hm1 hm2; rw [h] at this; exact this
theorem Hex_is (s : ByteArray) (most a e : Int) (w : World) (hs : s.size ≤ 1000000) (hm1 : -9223372036854775808 ≤ most) (hm2 : most ≤ 9223372036854775807) (h : Oct.number 16 most s.data.toList = (a, e)) :
    Calls Tryd.prog 27 #[.string s, .int .i64 most] w fun r w' => r = .returned (.tuple #[.int .i64 a, .int .i64 e]) ∧ Below w.heap.size w w' := by
  have := Hex_s s most w hs hm1 hm2; rw [h] at this; exact this
theorem rNumber_is (s : ByteArray) (most a e : Int) (w : World) (hs : s.size ≤ 1000000) (hm1 : -9223372036854775808 ≤ most) (hm2 : most ≤ 9223372036854775807) (h : Oct.number 10 most s.data.toList = (a, e)) :
    Calls Tryd.prog 26 #[.string s, .int .i64 10, .int .i64 most] w fun r w' => r = .returned (.tuple #[.int .i64 a, .int .i64 e]) ∧ w = w' := by
  have := rNumber10 s most w hs hm1 hm2; rw [h] at this; exact this
theorem rHex_is (s : ByteArray) (most a e : Int) (w : World) (hs : s.size ≤ 1000000) (hm1 : -9223372036854775808 ≤ most) (hm2 : most ≤ 9223372036854775807) (h : Oct.number 16 most s.data.toList = (a, e)) :
    Calls Tryd.prog 26 #[.string s, .int .i64 16, .int .i64 most] w fun r w' => r = .returned (.tuple #[.int .i64 a, .int .i64 e]) ∧ w = w' := by
  have := rNumber16 s most w hs hm1 hm2; rw [h] at this; exact this

set_option maxHeartbeats 3200000 in
set_option maxRecDepth 100000 in
theorem numbers_w (s : ByteArray) (n c : Int) (w : World) (hs : s.size ≤ 9223372036854775807) (hn : -9223372036854775808 ≤ n ∧ n ≤ 9223372036854775807) (hc : -9223372036854775808 ≤ c ∧ c ≤ 9223372036854775807) (hT : Tabs w) :
    Calls Tryd.prog 7 #[.string s, .int .i64 n, .int .i64 c] w fun e w' => e = .returned (.bool true) ∧ Below w.heap.size w w' := by
  obtain ⟨hn1, hn2⟩ := hn
  obtain ⟨hc1, hc2⟩ := hc
  by_cases hl : (500 : Int) < s.size
  · clear hs hT
    go_enter Tryd.func7, Tryd.ntmps7
    go_wp2_with fail
    refine (awake_w w).mono ?_
    rintro e w1 ⟨rfl, hb1⟩
    go_wp2_with fail
    refine (awake_w w1).mono ?_
    rintro e w2 ⟨rfl, hb2⟩
    go_wp2_with fail
    go_ret
    exact ⟨rfl, bt hb1 hb2⟩
  have hl3 : (s.size : Int) ≤ 500 := by omega
  have hs' : s.size ≤ 1000000 := by omega
  clear hl hs
  obtain ⟨a1, e1, hA⟩ : ∃ a e, Oct.number 10 c s.data.toList = (a, e) := ⟨_, _, rfl⟩
  obtain ⟨a2, e2, hB⟩ : ∃ a e, Oct.number 16 c s.data.toList = (a, e) := ⟨_, _, rfl⟩
  have HA := Lib.hid hA
  have HB := Lib.hid hB
  clear hA hB
  obtain ⟨m, hm⟩ : ∃ m : Nat, m = n.toNat := ⟨_, rfl⟩
  have hmax : max n 0 = (m : Int) := by omega
  have hm2 : m < 9223372036854775808 := by omega
  obtain ⟨x, hx⟩ : ∃ x, str (Oct.print n 10) = x := ⟨_, rfl⟩
  obtain ⟨y, hy⟩ : ∃ y, str (Oct.print n 16) = y := ⟨_, rfl⟩
  obtain ⟨z, hz⟩ : ∃ z, str (Oct.print n c) = z := ⟨_, rfl⟩
  have hp10 : Oct.print n 10 = Oct.dgs 10 m := by unfold Oct.print Oct.base; rw [if_neg (by decide), hm]
  have hp16 : Oct.print n 16 = Oct.dgs 16 m := by unfold Oct.print Oct.base; rw [if_pos rfl, hm]
  have hxs : x.size ≤ 1000000 := by
    rw [← hx, str_size, hp10]; have := Oct.dgs_len10 m (by omega); omega
  have hys : y.size ≤ 1000000 := by
    rw [← hy, str_size, hp16]; have := Oct.dgs_len16 m (by omega); omega
  have HN1 : Hid (Oct.number 10 9223372036854775807 x.data.toList = ((m : Int), 0)) := by
    rw [← hx, str_list, hp10]; exact Oct.number_dgs 10 (by decide) (by decide) _ m (by omega)
  have HN2 : Hid (Oct.number 16 9223372036854775807 y.data.toList = ((m : Int), 0)) := by
    rw [← hy, str_list, hp16]; exact Oct.number_dgs 16 (by decide) (by decide) _ m (by omega)
  have HX := Lib.hid hx
  have HY := Lib.hid hy
  have HZ := Lib.hid hz
  clear hx hy hz hp10 hp16 hm
  go_enter Tryd.func7, Tryd.ntmps7
  go_wp2_with fail
  refine (awake_w w).mono ?_
  rintro e w1 ⟨rfl, hb1⟩
  have hT1 := hT.later hb1
  have hB1 := hb1
  clear hb1 hT
  go_wp2_with fail
  refine (Number_is s c a1 e1 w1 hs' hc1 hc2 HA.out).mono ?_
  rintro e w2 ⟨rfl, hb2⟩
  have hT2 := hT1.later hb2
  have hB2 := bt hB1 hb2
  clear hb2 hB1 hT1
  go_wp2_with fail
  refine (rNumber_is s c a1 e1 w2 hs' hc1 hc2 HA.out).mono ?_
  rintro e w0 ⟨rfl, rfl⟩
  go_wp2_with fail
  refine (Hex_is s c a2 e2 w2 hs' hc1 hc2 HB.out).mono ?_
  rintro e w3 ⟨rfl, hb3⟩
  have hT3 := hT2.later hb3
  have hB3 := bt hB2 hb3
  clear hb3 hB2 hT2
  go_wp2_with fail
  refine (rHex_is s c a2 e2 w3 hs' hc1 hc2 HB.out).mono ?_
  rintro e w0 ⟨rfl, rfl⟩
  go_wp2_with fail
  refine (Print_is n 10 x w3 hn2 hT3 HX.out).mono ?_
  rintro e w4 ⟨rfl, hb4⟩
  have hT4 := hT3.later hb4
  have hB4 := bt hB3 hb4
  clear hb4 hB3 hT3
  go_wp2_with fail
  refine (Print_is n 16 y w4 hn2 hT4 HY.out).mono ?_
  rintro e w5 ⟨rfl, hb5⟩
  have hT5 := hT4.later hb5
  have hB5 := bt hB4 hb5
  clear hb5 hB4 hT4
  go_wp2_with fail
  refine (rPrint_is n 10 x w5 hn2 HX.out).mono ?_
  rintro e w6 ⟨rfl, hb6⟩
  have hT6 := hT5.later hb6
  have hB6 := bt hB5 hb6
  clear hb6 hB5 hT5
  go_wp2_with fail
  refine (rPrint_is n 16 y w6 hn2 HY.out).mono ?_
  rintro e w7 ⟨rfl, hb7⟩
  have hT7 := hT6.later hb7
  have hB7 := bt hB6 hb7
  clear hb7 hB6 hT6
  go_wp2_with fail
  refine (Print_is n c z w7 hn2 hT7 HZ.out).mono ?_
  rintro e w8 ⟨rfl, hb8⟩
  have hT8 := hT7.later hb8
  have hB8 := bt hB7 hb8
  clear hb8 hB7 hT7
  go_wp2_with fail
  refine (rPrint_is n c z w8 hn2 HZ.out).mono ?_
  rintro e w9 ⟨rfl, hb9⟩
  have hT9 := hT8.later hb9
  have hB9 := bt hB8 hb9
  clear hb9 hB8 hT8
  go_wp2_with fail
  refine (Number_is x 9223372036854775807 m 0 w9 hxs (by omega) (by omega) HN1.out).mono ?_
  rintro e w10 ⟨rfl, hb10⟩
  have hT10 := hT9.later hb10
  have hB10 := bt hB9 hb10
  clear hb10 hB9 hT9
  go_wp2_with fail
  refine (Hex_is y 9223372036854775807 m 0 w10 hys (by omega) (by omega) HN2.out).mono ?_
  rintro e w11 ⟨rfl, hb11⟩
  have hT11 := hT10.later hb11
  have hB11 := bt hB10 hb11
  clear hb11 hB10 hT10
  go_wp2_with fail
  go_ret
  exact ⟨rfl, hB11⟩

end Go.Proofs.YtljpidpddlgkpaaDoor
