/- The document's own answer for package date: its small functions. -/
import Derived.Test.YtlmcolpoaedclaaDoorDt9
namespace Go.Proofs.YtlmcolpoaedclaaDoor
open Go.RowKit

def lens : List Int := [31, 28, 31, 30, 31, 30, 31, 31, 30, 31, 30, 31]
theorem lens_at (j : Nat) (h : j < 12) (w : World) : (w.alloc (.cells #[.int .i64 31, .int .i64 28, .int .i64 31, .int .i64 30, .int .i64 31, .int .i64 30, .int .i64 31, .int .i64 31, .int .i64 30, .int .i64 31, .int .i64 30, .int .i64 31] 3)).cell? ⟨w.heap.size, j, none⟩ = some (.int .i64 (lens.getD j 0)) := by
  rw [World.cell?_alloc_at _ _ _ _ rfl]
  rcases j with _ | _ | _ | _ | _ | _ | _ | _ | _ | _ | _ | _ | j
  all_goals first | rfl | omega
theorem days_at (j : Nat) (h : j < 7) (w : World) : (w.alloc (.cells #[.string ⟨#[83, 117, 110, 100, 97, 121]⟩, .string ⟨#[77, 111, 110, 100, 97, 121]⟩, .string ⟨#[84, 117, 101, 115, 100, 97, 121]⟩, .string ⟨#[87, 101, 100, 110, 101, 115, 100, 97, 121]⟩, .string ⟨#[84, 104, 117, 114, 115, 100, 97, 121]⟩, .string ⟨#[70, 114, 105, 100, 97, 121]⟩, .string ⟨#[83, 97, 116, 117, 114, 100, 97, 121]⟩] 9)).cell? ⟨w.heap.size, j, none⟩ = some (.string (str (Dt.dayNames.getD j []))) := by
  rw [World.cell?_alloc_at _ _ _ _ rfl]
  rcases j with _ | _ | _ | _ | _ | _ | _ | j
  all_goals first | rfl | omega
theorem mons_at (j : Nat) (h : j < 12) (w : World) : (w.alloc (.cells #[.string ⟨#[74, 97, 110]⟩, .string ⟨#[70, 101, 98]⟩, .string ⟨#[77, 97, 114]⟩, .string ⟨#[65, 112, 114]⟩, .string ⟨#[77, 97, 121]⟩, .string ⟨#[74, 117, 110]⟩, .string ⟨#[74, 117, 108]⟩, .string ⟨#[65, 117, 103]⟩, .string ⟨#[83, 101, 112]⟩, .string ⟨#[79, 99, 116]⟩, .string ⟨#[78, 111, 118]⟩, .string ⟨#[68, 101, 99]⟩] 9)).cell? ⟨w.heap.size, j, none⟩ = some (.string (monS j)) := by
  rw [World.cell?_alloc_at _ _ _ _ rfl]
  rcases j with _ | _ | _ | _ | _ | _ | _ | _ | _ | _ | _ | _ | j
  all_goals first | rfl | omega

set_option maxHeartbeats 1000000 in
theorem long_c (y : Int) (j : Nat) (w : World) (h0 : 0 ≤ y) (h1 : y ≤ 11899) (hj : j < 12) :
    Calls Tryd.prog 25 #[.int .i64 y, .int .i64 j] w fun e w' => e = .returned (.int .i64 (Dt.ml y j)) ∧ Below w.heap.size w w' := by
  have hc := lens_at j hj w
  have hB : Below w.heap.size w (w.alloc (.cells #[.int .i64 31, .int .i64 28, .int .i64 31, .int .i64 30, .int .i64 31, .int .i64 30, .int .i64 31, .int .i64 31, .int .i64 30, .int .i64 31, .int .i64 30, .int .i64 31] 3)) := (Below.refl _ _).alloc (Nat.le_refl _) _
  have hj' : (j : Int) < 12 := by omega
  by_cases hm : j = 1 ∧ Dt.lp y = 1
  · obtain ⟨rfl, hl⟩ := hm
    have hlp : y % 4 = 0 ∧ (¬ y % 100 = 0 ∨ y % 400 = 0) := by
      unfold Dt.lp at hl
      split at hl
      · assumption
      · omega
    have hR : Hid (Dt.ml y ((1 : Nat) : Int) = 29) := by show 28 + Dt.lp y = 29; omega
    clear hl hc
    obtain ⟨h4, h100⟩ := hlp
    by_cases g : y % 400 = 0
    · clear h100
      go_enter Tryd.func25, Tryd.ntmps25
      go_wp2
      go_ret
      exact ⟨ret_int hR.out.symm, hB⟩
    · have g' : (y % 400 == 0) = false := beq_eq_false_iff_ne.2 g
      have g1 : ¬ y % 100 = 0 := by omega
      have g2 : (y % 100 != 0) = true := by rw [bne, beq_eq_false_iff_ne.2 g1]; rfl
      clear h100 g g1
      go_enter Tryd.func25, Tryd.ntmps25
      go_wp2
      go_ret
      exact ⟨ret_int hR.out.symm, hB⟩
  · have hR : Hid (Dt.ml y j = lens.getD j 0) := ml_tab y j hj hm
    obtain ⟨v, hv⟩ : ∃ v, lens.getD j 0 = v := ⟨_, rfl⟩
    rw [hv] at hc hR
    clear hv
    by_cases h1' : j = 1
    · have hl : Dt.lp y = 0 := by have := Dt.lp_01 y; omega
      subst h1'
      clear hm
      have q0 : ¬ y % 400 = 0 := by
        intro e
        unfold Dt.lp at hl
        rw [if_pos (by omega)] at hl; omega
      have q1 : (y % 400 == 0) = false := beq_eq_false_iff_ne.2 q0
      by_cases h4 : y % 4 = 0
      · have q2 : y % 100 = 0 := by
          unfold Dt.lp at hl
          split at hl
          · omega
          · omega
        clear hl q0
        go_enter Tryd.func25, Tryd.ntmps25
        go_wp2
        go_ret
        exact ⟨ret_int hR.out.symm, hB⟩
      · have q3 : (y % 4 == 0) = false := beq_eq_false_iff_ne.2 h4
        clear hl h4 q0
        go_enter Tryd.func25, Tryd.ntmps25
        go_wp2
        go_ret
        exact ⟨ret_int hR.out.symm, hB⟩
    · have hne : ((j : Int) == 1) = false := beq_eq_false_iff_ne.2 (by omega)
      clear hm h1'
      go_enter Tryd.func25, Tryd.ntmps25
      go_wp2
      go_ret
      exact ⟨ret_int hR.out.symm, hB⟩

set_option maxHeartbeats 400000 in
theorem year_c (y : Int) (w : World) (h0 : 0 ≤ y) (h1 : y ≤ 11899) :
    Calls Tryd.prog 24 #[.int .i64 y] w fun e w' => e = .returned (.int .i64 (365 + Dt.lp y)) ∧ Below w.heap.size w w' := by
  have hL := long_c y 1 w h0 h1 (by omega)
  rw [show Dt.ml y ((1 : Nat) : Int) = 28 + Dt.lp y from rfl] at hL
  have hb := Dt.lp_01 y
  obtain ⟨l0, l1⟩ := hb
  go_enter Tryd.func24, Tryd.ntmps24
  go_wp2_with fail
  refine hL.mono ?_
  rintro e w' ⟨rfl, hb⟩
  go_wp2_with fail
  go_ret
  exact ⟨ret_int (by omega), hb⟩

set_option maxHeartbeats 400000 in
theorem Day_c (k : Nat) (w : World) (hk : k < 7) :
    Calls Tryd.prog 21 #[.int .i64 k] w fun e w' => e = .returned (.string (str (Dt.dayNames.getD k []))) ∧ Below w.heap.size w w' := by
  have hc := days_at k hk w
  have hk' : (k : Int) < 7 := by omega
  generalize str (Dt.dayNames.getD k []) = x at hc
  go_enter Tryd.func21, Tryd.ntmps21
  go_wp2
  go_ret
  exact ⟨rfl, (Below.refl _ _).alloc (Nat.le_refl _) _⟩

set_option maxHeartbeats 400000 in
theorem Month_c (k : Nat) (w : World) (hk : k < 12) :
    Calls Tryd.prog 23 #[.int .i64 k] w fun e w' => e = .returned (.string (monS k)) ∧ Below w.heap.size w w' := by
  have hc := mons_at k hk w
  have hk' : (k : Int) < 12 := by omega
  go_enter Tryd.func23, Tryd.ntmps23
  go_wp2
  go_ret
  exact ⟨rfl, (Below.refl _ _).alloc (Nat.le_refl _) _⟩

/-- The k last digits. -/
def digs (n : Nat) : Nat → List UInt8
  | 0 => []
  | k + 1 => Oct.ch (n / 10 ^ k % 10) :: digs n k
theorem digs_len (n k : Nat) : (digs n k).length = k := by
  induction k with
  | zero => rfl
  | succ k ih => simp [digs, ih]
theorem digs_step (n k : Nat) : n / 10 ^ k / 10 = n / 10 ^ (k + 1) := by rw [Nat.div_div_eq_div_mul, Nat.pow_succ]
theorem digs2 (n : Nat) (h : n < 100) : digs n 2 = Dt.d2 n := by
  show [Oct.ch (n / 10 ^ 1 % 10), Oct.ch (n / 10 ^ 0 % 10)] = [Dt.dc ((n : Int) / 10), Dt.dc ((n : Int) % 10)]
  unfold Dt.dc
  rw [show ((n : Int) / 10).toNat = n / 10 ^ 1 % 10 by omega, show ((n : Int) % 10).toNat = n / 10 ^ 0 % 10 by omega]
theorem digs4 (n : Nat) (h : n < 10000) : digs n 4 = Dt.d4 n := by
  show [Oct.ch (n / 10 ^ 3 % 10), Oct.ch (n / 10 ^ 2 % 10), Oct.ch (n / 10 ^ 1 % 10), Oct.ch (n / 10 ^ 0 % 10)] = [Dt.dc ((n : Int) / 1000), Dt.dc ((n : Int) / 100 % 10), Dt.dc ((n : Int) / 10 % 10), Dt.dc ((n : Int) % 10)]
  unfold Dt.dc
  rw [show ((n : Int) / 1000).toNat = n / 10 ^ 3 % 10 by omega, show ((n : Int) / 100 % 10).toNat = n / 10 ^ 2 % 10 by omega, show ((n : Int) / 10 % 10).toNat = n / 10 ^ 1 % 10 by omega, show ((n : Int) % 10).toNat = n / 10 ^ 0 % 10 by omega]

set_option maxHeartbeats 1600000 in
set_option maxRecDepth 100000 in
theorem dig_c (n size : Nat) (w : World) (hn : n < 10000) (hs : size ≤ 4) :
    Calls Tryd.prog 22 #[.int .i64 n, .int .i64 size] w fun e w' => e = .returned (.string (str (digs n size))) ∧ Below w.heap.size w w' := by
  go_enter Tryd.func22, Tryd.ntmps22
  go_wp2_with fail
  go_loopw [0, 5, 6] (fun y s i wr => ∃ (k v : Nat) (x : ByteArray), k ≤ size ∧ i = .int .i64 k ∧ y = .int .i64 v ∧ s = .string x ∧ v ≤ n ∧ x.size = k ∧ Hid (v = n / 10 ^ k ∧ x = str (digs n k)) ∧ Below w.heap.size w wr) (fun _ _ i _ => size - (intOf i).toNat)
  case atStart => exact ⟨0, n, ⟨#[]⟩, by omega, rfl, rfl, rfl, Nat.le_refl _, rfl, ⟨by simp, rfl⟩, Below.refl _ _⟩
  case round =>
    obtain ⟨k, v, x, hk, rfl, rfl, rfl, hv, hx, HD, hB⟩ := hrel
    by_cases hlt : k < size
    · have hss : (str [Oct.ch (v % 10)]).size = 1 := str_size _
      have hcv := (Buf.one (Below.refl wr.heap.size wr) (Oct.ch (v % 10)) (48 + (v : Int) % 10) (Oct.ch_is48 10 v (Nat.mod_lt _ (by decide)))).string
      have HF : Hid (v / 10 = n / 10 ^ (k + 1) ∧ str [Oct.ch (v % 10)] ++ x = str (digs n (k + 1))) := by
        refine ⟨by rw [HD.out.1, digs_step], ?_⟩
        rw [HD.out.2, HD.out.1, str_app]; rfl
      have hsz : (str [Oct.ch (v % 10)] ++ x).size = k + 1 := by rw [ByteArray.size_append, hss, hx]; omega
      have HZ := Lib.hid hsz
      clear hsz
      go_wp2_with fail
      go_roundw
      case rel => exact ⟨k + 1, v / 10, _, by omega, by go_num, by go_num, rfl, by omega, HZ.out, HF, hB.alloc hB.size _⟩
      case measure => simp [intOf]; omega
    · obtain rfl : k = size := by omega
      go_wp2_with fail
      go_ret
      exact ⟨ret_str HD.out.2, hB⟩
theorem dig2 (n : Int) (w : World) (h0 : 0 ≤ n) (h1 : n < 100) :
    Calls Tryd.prog 22 #[.int .i64 n, .int .i64 2] w fun e w' => e = .returned (.string (str (Dt.d2 n))) ∧ Below w.heap.size w w' := by
  obtain ⟨n, rfl⟩ : ∃ k : Nat, n = k := ⟨n.toNat, by omega⟩
  have := dig_c n 2 w (by omega) (by omega)
  rw [digs2 n (by omega)] at this
  exact this
theorem dig4 (n : Int) (w : World) (h0 : 0 ≤ n) (h1 : n < 10000) :
    Calls Tryd.prog 22 #[.int .i64 n, .int .i64 4] w fun e w' => e = .returned (.string (str (Dt.d4 n))) ∧ Below w.heap.size w w' := by
  obtain ⟨n, rfl⟩ : ∃ k : Nat, n = k := ⟨n.toNat, by omega⟩
  have := dig_c n 4 w (by omega) (by omega)
  rw [digs4 n (by omega)] at this
  exact this

end Go.Proofs.YtlmcolpoaedclaaDoor
