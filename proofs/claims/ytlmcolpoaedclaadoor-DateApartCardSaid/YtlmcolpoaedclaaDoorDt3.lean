/- Package date: numbers in two columns. -/
import Derived.Test.YtlmcolpoaedclaaDoorDt2
namespace Go.Proofs.YtlmcolpoaedclaaDoor
open Go.RowKit

theorem formatSmall (u : Nat) (w : World) (hu : u < 100) :
    Calls Tryd.prog 40 #[.int .i64 u, .int .i64 10] w fun e w' => e = .returned (.string (str (Oct.dgs 10 u))) ∧ w = w' := by
  refine (Tryd.strconv_FormatInt_10_small u hu w).mono ?_
  rintro e w' ⟨rfl, rfl⟩
  refine ⟨?_, rfl⟩
  rw [Oct.dgs_dec]; rfl

set_option maxHeartbeats 400000 in
theorem Print_small (n : Nat) (w : World) (hn : n < 100) :
    Calls Tryd.prog 33 #[.int .i64 n, .int .i64 10] w fun e w' => e = .returned (.string (str (Oct.dgs 10 n))) ∧ w = w' := by
  have hmax : max (n : Int) 0 = (n : Int) := by omega
  go_enter Tryd.func33, Tryd.ntmps33
  go_wp2_with fail
  refine (formatSmall n w hn).mono ?_
  rintro e w1 ⟨rfl, rfl⟩
  go_wp2_with fail
  go_ret
  exact ⟨rfl, rfl⟩

theorem dgs1 (n : Nat) (h : n < 10) : Oct.dgs 10 n = [Dt.dc n] := by rw [Oct.dgs_last h]; rfl
theorem dgs2 (n : Nat) (h : 10 ≤ n) (h2 : n < 100) : Oct.dgs 10 n = Dt.d2 n := by
  rw [Oct.dgs_more (by decide) h, Oct.dgs_last (by omega)]
  unfold Dt.d2 Dt.dc
  simp
  constructor
  · congr 1
  · congr 1
theorem dgs4 (n : Nat) (h : 1000 ≤ n) (h2 : n < 10000) : Oct.dgs 10 n = Dt.d4 n := by
  rw [Oct.dgs_more (by decide) (by omega), Oct.dgs_more (by decide) (by omega), Oct.dgs_more (by decide) (by omega), Oct.dgs_last (by omega)]
  unfold Dt.d4 Dt.dc
  simp
  refine ⟨?_, ?_, ?_, ?_⟩ <;> congr 1 <;> omega

/-- What two answers. -/
def twoL (n : Int) (ahead : UInt8) : List UInt8 := if n < 10 then [ahead, Dt.dc n] else Dt.d2 n
theorem two_zero (n : Int) (h0 : 0 ≤ n) (h : n < 100) : twoL n 48 = Dt.d2 n := by
  unfold twoL
  split
  · unfold Dt.d2
    have : n / 10 = 0 := by omega
    have h2 : n % 10 = n := by omega
    rw [this, h2]; rfl
  · rfl
theorem two_blank (n : Int) (h0 : 0 ≤ n) (h : n < 100) : twoL n 32 = Dt.db n := by
  unfold twoL Dt.db
  split
  · have h2 : n % 10 = n := by omega
    rw [h2]
  · rfl

set_option maxHeartbeats 400000 in
theorem two_c (n : Int) (c : UInt8) (w : World) (h0 : 0 ≤ n) (hn : n < 100) :
    Calls Tryd.prog 34 #[.int .i64 n, .string ⟨#[c]⟩] w fun e w' => e = .returned (.string (str (twoL n c))) ∧ w = w' := by
  obtain ⟨n, rfl⟩ : ∃ k : Nat, n = k := ⟨n.toNat, by omega⟩
  have hn' : n < 100 := by omega
  by_cases h : n < 10
  · have hs : (str (Oct.dgs 10 n)).size = 1 := by rw [str_size, dgs1 n h]; rfl
    have HR : Hid ((⟨#[c]⟩ : ByteArray) ++ str (Oct.dgs 10 n) = str (twoL n c)) := by
      show _ = _
      rw [show (⟨#[c]⟩ : ByteArray) = str [c] from rfl, str_cons, str_list, dgs1 n h]
      unfold twoL; rw [if_pos (by omega)]
    obtain ⟨x, hx⟩ : ∃ x, str (Oct.dgs 10 n) = x := ⟨_, rfl⟩
    have HP := Print_small n
    rw [hx] at hs HR HP
    clear hx
    go_enter Tryd.func34, Tryd.ntmps34
    go_wp2_with (go_at_call 33; refine (HP _ hn').mono ?_; rintro e w' ⟨rfl, rfl⟩)
    go_ret
    exact ⟨ret_str HR.out, rfl⟩
  · have hs : (str (Oct.dgs 10 n)).size = 2 := by rw [str_size, dgs2 n (by omega) hn']; rfl
    have HR : Hid (str (Oct.dgs 10 n) = str (twoL n c)) := by
      show _ = _
      rw [dgs2 n (by omega) hn']
      unfold twoL; rw [if_neg (by omega)]
    obtain ⟨x, hx⟩ : ∃ x, str (Oct.dgs 10 n) = x := ⟨_, rfl⟩
    have HP := Print_small n
    rw [hx] at hs HR HP
    clear hx
    go_enter Tryd.func34, Tryd.ntmps34
    go_wp2_with (go_at_call 33; refine (HP _ hn').mono ?_; rintro e w' ⟨rfl, rfl⟩)
    go_ret
    exact ⟨ret_str HR.out, rfl⟩
theorem two0 (n : Int) (w : World) (h0 : 0 ≤ n) (hn : n < 100) :
    Calls Tryd.prog 34 #[.int .i64 n, .string ⟨#[48]⟩] w fun e w' => e = .returned (.string (str (Dt.d2 n))) ∧ w = w' := by
  have := two_c n 48 w h0 hn; rw [two_zero n h0 hn] at this; exact this
theorem twoB (n : Int) (w : World) (h0 : 0 ≤ n) (hn : n < 100) :
    Calls Tryd.prog 34 #[.int .i64 n, .string ⟨#[32]⟩] w fun e w' => e = .returned (.string (str (Dt.db n))) ∧ w = w' := by
  have := two_c n 32 w h0 hn; rw [two_blank n h0 hn] at this; exact this

/-- A year's four digits. -/
theorem Print_year (y : Int) (w : World) (hT : Tabs w) (h0 : 1000 ≤ y) (h1 : y < 10000) :
    Calls Tryd.prog 33 #[.int .i64 y, .int .i64 10] w fun e w' => e = .returned (.string (str (Dt.d4 y))) ∧ Below w.heap.size w w' := by
  obtain ⟨n, rfl⟩ : ∃ k : Nat, y = k := ⟨y.toNat, by omega⟩
  have := Print_s n 10 w (by omega) hT
  have e : Oct.print n 10 = Dt.d4 n := by
    unfold Oct.print Oct.base
    rw [if_neg (by decide), Int.toNat_natCast, dgs4 n (by omega) (by omega)]
  rw [e] at this
  exact this

end Go.Proofs.YtlmcolpoaedclaaDoor
