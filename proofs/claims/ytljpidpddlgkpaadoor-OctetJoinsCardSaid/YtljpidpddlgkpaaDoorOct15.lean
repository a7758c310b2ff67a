/- The statements of layer 1: the walk of OctetQuotes. -/
import Derived.Test.YtljpidpddlgkpaaDoorOct14
namespace Go.Proofs.YtljpidpddlgkpaaDoor
open Go.RowKit

theorem unq_form (r : Option (List UInt8 × Nat)) : ∃ (x : ByteArray) (n g : Int), unqRes r = .tuple #[.string x, .int .i64 n, .int .i64 g] := by
  cases r with
  | none => exact ⟨_, _, _, rfl⟩
  | some p => obtain ⟨t, n⟩ := p; exact ⟨_, _, _, rfl⟩
theorem Unquote_is (s : ByteArray) (v : Value) (w : World) (hs : s.size ≤ 1000000) (h : unqRes (Oct.unquote s.data.toList) = v) : Calls Tryd.prog 20 #[.string s] w fun e w' => e = .returned v ∧ Below w.heap.size w w' := by subst h; exact Unquote_s s w hs
theorem rUnquote_is (s : ByteArray) (v : Value) (w : World) (hs : s.size ≤ 1000000) (h : unqRes (Oct.unquote s.data.toList) = v) : Calls Tryd.prog 21 #[.string s] w fun e w' => e = .returned v ∧ Below w.heap.size w w' := by subst h; exact rUnquote_s s w hs
theorem Quote_is (s q : ByteArray) (w : World) (hs : s.size ≤ 1000000) (hp : Oct.allOf Oct.plain s.data.toList = true) (h : str (Oct.quote s.data.toList) = q) : Calls Tryd.prog 18 #[.string s] w fun e w' => e = .returned (.tuple #[.string q, .int .i64 0]) ∧ Below w.heap.size w w' := by subst h; exact Quote_ok s w hs hp
theorem rQuote_is (s q : ByteArray) (w : World) (hs : s.size ≤ 1000000) (hp : Oct.allOf Oct.plain s.data.toList = true) (h : str (Oct.quote s.data.toList) = q) : Calls Tryd.prog 19 #[.string s] w fun e w' => e = .returned (.tuple #[.string q, .int .i64 0]) ∧ Below w.heap.size w w' := by subst h; exact rQuote_ok s w hs hp

set_option maxHeartbeats 3200000 in
set_option maxRecDepth 100000 in
theorem quotes_w (s b : ByteArray) (w : World) (hs : s.size ≤ 9223372036854775807) (hbs : b.size ≤ 9223372036854775807) :
    Calls Tryd.prog 4 #[.string s, .string b] w fun e w' => e = .returned (.bool true) ∧ Below w.heap.size w w' := by
  by_cases hl : (3000 : Int) < s.size
  · clear hs hbs
    go_enter Tryd.func4, Tryd.ntmps4
    go_wp2_with fail
    refine (awake_w w).mono ?_
    rintro e w1 ⟨rfl, hb1⟩
    go_wp2_with fail
    refine (awake_w w1).mono ?_
    rintro e w2 ⟨rfl, hb2⟩
    go_wp2_with fail
    go_ret
    exact ⟨rfl, bt hb1 hb2⟩
  have hl3 : (s.size : Int) ≤ 3000 := by omega
  by_cases hl2 : (1000 : Int) < b.size
  · clear hs hbs hl
    go_enter Tryd.func4, Tryd.ntmps4
    go_wp2_with fail
    refine (awake_w w).mono ?_
    rintro e w1 ⟨rfl, hb1⟩
    go_wp2_with fail
    refine (awake_w w1).mono ?_
    rintro e w2 ⟨rfl, hb2⟩
    go_wp2_with fail
    go_ret
    exact ⟨rfl, bt hb1 hb2⟩
  have hs' : s.size ≤ 1000000 := by omega
  have hl4 : (b.size : Int) ≤ 1000 := by omega
  clear hl hl2 hs hbs
  obtain ⟨x, n, g, hU⟩ := unq_form (Oct.unquote s.data.toList)
  have HU := Lib.hid hU
  clear hU
  cases hp : Oct.allOf Oct.plain s.data.toList with
  | false =>
    have HP := Lib.hid hp
    clear hp
    go_enter Tryd.func4, Tryd.ntmps4
    go_wp2_with fail
    refine (awake_w w).mono ?_
    rintro e w1 ⟨rfl, hb1⟩
    go_wp2_with fail
    refine (Quote_no s w1 hs' HP.out).mono ?_
    rintro e w2 ⟨rfl, hb2⟩
    go_wp2_with fail
    refine (rQuote_no s w2 hs' HP.out).mono ?_
    rintro e w3 ⟨rfl, hb3⟩
    go_wp2_with fail
    refine (Unquote_is s _ w3 hs' HU.out).mono ?_
    rintro e w4 ⟨rfl, hb4⟩
    go_wp2_with fail
    refine (rUnquote_is s _ w4 hs' HU.out).mono ?_
    rintro e w5 ⟨rfl, hb5⟩
    go_wp2_with fail
    go_ret
    exact ⟨rfl, bt (bt (bt (bt hb1 hb2) hb3) hb4) hb5⟩
  | true =>
    have HP := Lib.hid hp
    clear hp
    obtain ⟨q, hq⟩ : ∃ q, str (Oct.quote s.data.toList) = q := ⟨_, rfl⟩
    have hqs : q.size ≤ 6002 := by
      rw [← hq, str_size]; have := Oct.quote_len s.data.toList; rw [Oct.length_size] at this; omega
    have hq2 : (q ++ b).size ≤ 1000000 := by rw [ByteArray.size_append]; omega
    have HQ := Lib.hid hq
    have HF : Hid (unqRes (Oct.unquote (q ++ b).data.toList) = .tuple #[.string s, .int .i64 q.size, .int .i64 0]) := by
      rw [app_list, ← hq, str_list, Oct.unquote_quote _ _ HP.out, str_size]
      show Value.tuple #[.string (str s.data.toList), _, _] = _
      rw [str_of]
    clear hq
    go_enter Tryd.func4, Tryd.ntmps4
    go_wp2_with fail
    refine (awake_w w).mono ?_
    rintro e w1 ⟨rfl, hb1⟩
    go_wp2_with fail
    refine (Quote_is s q w1 hs' HP.out HQ.out).mono ?_
    rintro e w2 ⟨rfl, hb2⟩
    go_wp2_with fail
    refine (rQuote_is s q w2 hs' HP.out HQ.out).mono ?_
    rintro e w3 ⟨rfl, hb3⟩
    go_wp2_with fail
    refine (Unquote_is s _ w3 hs' HU.out).mono ?_
    rintro e w4 ⟨rfl, hb4⟩
    go_wp2_with fail
    refine (rUnquote_is s _ w4 hs' HU.out).mono ?_
    rintro e w5 ⟨rfl, hb5⟩
    go_wp2_with fail
    refine (Unquote_is (q ++ b) _ w5 hq2 HF.out).mono ?_
    rintro e w6 ⟨rfl, hb6⟩
    go_wp2_with fail
    go_ret
    exact ⟨rfl, bt (bt (bt (bt (bt hb1 hb2) hb3) hb4) hb5) hb6⟩

end Go.Proofs.YtljpidpddlgkpaaDoor
