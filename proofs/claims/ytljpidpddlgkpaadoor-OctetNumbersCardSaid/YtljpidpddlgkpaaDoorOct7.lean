/- Package octet: what digits say. -/
import Derived.Test.YtljpidpddlgkpaaDoorOct2
import Derived.Test.YtljpidpddlgkpaaDoorOctMathD
import Derived.Deep.QuietTactic
import Derived.BigQuiet
namespace Go.Proofs.YtljpidpddlgkpaaDoor
open Go.RowKit

theorem worth_q (c : UInt8) (w : World) (n : Nat) : Calls Tryd.prog 54 #[.int .u8 c.toNat] (w.drewN n) fun e w' => e = .returned (.int .i64 (Oct.worth c)) ∧ ∃ m, w' = w.drewN m :=
  (worth_c c _).mono (by rintro e w' ⟨rfl, rfl⟩; exact ⟨rfl, n, rfl⟩)

set_option maxHeartbeats 400000 in
theorem digit_c (c : UInt8) (b g : Nat) (B : Int) (hB : B = b) (w : World) (_hb : b ≤ 16) (hc : w.cell? ⟨g, 0, none⟩ = some (.int .i64 B)) :
    Calls Tryd.prog 53 #[.int .u8 c.toNat, .pointer (some ⟨g, 0, none⟩)] w fun e w' => e = .returned (.bool (Oct.dig b c)) ∧ ∃ m, w' = w.drewN m := by
  have hw := Oct.worth_le c
  subst hB
  go_enter Tryd.func53, Tryd.ntmps53
  go_wp2_with fail
  go_quiet ((go_at_call 54; exact worth_q _ _ _))
  go_wp2_with fail
  go_ret
  exact ⟨rfl, nq, rfl⟩

set_option maxHeartbeats 400000 in
theorem every_dig (s : ByteArray) (b g : Nat) (B : Int) (hB : B = b) (w : World) (hs : s.size ≤ 1000000) (hb : b ≤ 16) (hc : w.cell? ⟨g, 0, none⟩ = some (.int .i64 B)) :
    Calls Tryd.prog 30 #[.string s, .func (.func 53) #[] #[.pointer (some ⟨g, 0, none⟩)]] w fun e w' => e = .returned (.bool (Oct.allOf (Oct.dig b) s.data.toList)) ∧ ∃ m, w' = w.drewN m := by
  have HB := Lib.hid hB
  clear hB
  go_enter Tryd.func30, Tryd.ntmps30
  go_wp2_with fail
  go_loopw [8] (fun i wr => ∃ k m : Nat, k ≤ s.size ∧ i = .int .i64 k ∧ Hid (Oct.allOf (Oct.dig b) (s.data.toList.take k) = true) ∧ wr = w.drewN m) (fun i _ => s.size - (intOf i).toNat)
  case atStart => exact ⟨0, 0, by omega, rfl, Lib.hid rfl, rfl⟩
  case round =>
    obtain ⟨k, m, hk, rfl, HA, rfl⟩ := hrel
    by_cases hlt : k < s.size
    · by_cases hp : Oct.dig b s[k] = true
      · have HN := Lib.hid (Oct.all_snoc (Oct.dig b) s k hlt)
        go_wp2_with (go_at_call 53; refine (digit_c _ b g B HB.out _ hb (by simpa using hc)).mono ?_; rintro e w' ⟨rfl, m', rfl⟩)
        go_roundw
        case rel => exact ⟨k + 1, _, by omega, by go_num, Lib.hid (by rw [HN.out, HA.out, hp]; rfl), rfl⟩
        case measure => simp [intOf]; omega
      · have hp' : Oct.dig b s[k] = false := by simpa using hp
        clear hp
        have HN := Lib.hid (Oct.all_miss (Oct.dig b) s k hlt hp')
        go_wp2_with (go_at_call 53; refine (digit_c _ b g B HB.out _ hb (by simpa using hc)).mono ?_; rintro e w' ⟨rfl, m', rfl⟩)
        go_ret
        exact ⟨ret_bool HN.out.symm, _, rfl⟩
    · have HE := Lib.hid (Oct.take_all s k (by omega))
      go_wp2_with fail
      go_ret
      exact ⟨ret_bool (by rw [← HA.out, HE.out]), m, rfl⟩

theorem ret_pair {r : Int × Int} {a b : Int} (h : r = (a, b)) : Ending.returned (.tuple #[.int .i64 a, .int .i64 b]) = .returned (.tuple #[.int .i64 r.1, .int .i64 r.2]) := by rw [h]

set_option maxHeartbeats 1600000 in
set_option maxRecDepth 100000 in
theorem reckon10 (s : ByteArray) (most : Int) (w : World) (hs : s.size ≤ 1000000) (hm1 : -9223372036854775808 ≤ most) (hm2 : most ≤ 9223372036854775807) :
    Calls Tryd.prog 40 #[.string s, .int .i64 10, .int .i64 most] w fun e w' => e = .returned (.tuple #[.int .i64 (Oct.number 10 most s.data.toList).1, .int .i64 (Oct.number 10 most s.data.toList).2]) ∧ Below w.heap.size w w' := by
  have hmf : ∀ (fn : Fn) (first cap : Array Value) (w : World), (Instr.makeFunc fn first cap).run Tryd.prog w = .ok (.func fn first cap) w := fun _ _ _ _ => rfl
  have hcell : (w.alloc (.cells #[.int .i64 10] 3)).cell? ⟨w.heap.size, 0, none⟩ = some (.int .i64 10) := by rw [World.cell?_alloc_at _ _ _ _ rfl]; rfl
  have hb0 : Below w.heap.size w (w.alloc (.cells #[.int .i64 10] 3)) := (Below.refl _ w).alloc (Nat.le_refl _) _
  by_cases h0 : 0 < s.size
  case neg =>
    have HR := Lib.hid (Oct.number_empty 10 most s h0)
    have hz0 : s.size = 0 := by omega
    obtain rfl : s = ByteArray.empty := Oct.size_zero s hz0
    clear hcell
    go_enter Tryd.func40, Tryd.ntmps40
    go_wp2_with fail
    go_ret2
    exact ⟨ret_pair HR.out, hb0⟩
  have hne' : ¬ s = ByteArray.empty := fun e => by rw [e] at h0; exact absurd h0 (by decide)
  have hne : s.toList.isEmpty = false := Oct.nonempty s h0
  have hne2 : ¬ s.toList = [] := fun e => by rw [e] at hne; cases hne
  have HEv := Lib.hid (every_dig s 10 w.heap.size 10 rfl (w.alloc (.cells #[.int .i64 10] 3)) hs (by decide) hcell)
  by_cases hd : Oct.allOf (Oct.dig 10) s.data.toList = true
  case neg =>
    have hd' : Oct.allOf (Oct.dig 10) s.data.toList = false := by simpa using hd
    clear hd
    have HR := Lib.hid (Oct.number_bad 10 most _ hd')
    go_enter Tryd.func40, Tryd.ntmps40
    go_wp2_with fail
    refine HEv.out.mono ?_
    rintro e w1 ⟨rfl, m, rfl⟩
    go_wp2_with fail
    go_ret2
    exact ⟨ret_pair HR.out, below_drewN hb0 m⟩
  by_cases hm : most < 0
  · have HR := Lib.hid (Oct.number_neg 10 most s h0 hd hm)
    go_enter Tryd.func40, Tryd.ntmps40
    go_wp2_with fail
    refine HEv.out.mono ?_
    rintro e w1 ⟨rfl, m, rfl⟩
    go_wp2_with fail
    go_ret2
    exact ⟨ret_pair HR.out, below_drewN hb0 m⟩
  have hm0 : 0 ≤ most := by omega
  have HS := fun n => Lib.hid (@Oct.num_some 10 most s h0 hd hm0 n)
  have HO := Lib.hid (Oct.num_none 10 most s h0 hd hm0)
  go_enter Tryd.func40, Tryd.ntmps40
  go_wp2_with fail
  refine HEv.out.mono ?_
  rintro e w1 ⟨rfl, m, rfl⟩
  go_wp2_with fail
  have HC : Hid (((w.alloc (.cells #[.int .i64 10] 3)).drewN m).cell? ⟨w.heap.size, 0, none⟩ = some (.int .i64 10)) := hcell
  clear hcell HEv hmf
  have hbm := below_drewN hb0 m
  clear hb0
  generalize (w.alloc (.cells #[.int .i64 10] 3)).drewN m = W1 at HC hbm ⊢
  have hcell := HC.out
  clear HC
  go_loop [9, 25] (fun x i => ∃ (k : Nat) (n : Int), k ≤ s.size ∧ i = .int .i64 k ∧ x = .int .i64 n ∧ 0 ≤ n ∧ n ≤ most ∧ Hid (Oct.num 10 most 0 s.data.toList = Oct.num 10 most n (s.data.toList.drop k))) (fun _ i => s.size - (intOf i).toNat)
  case atStart => exact ⟨0, 0, by omega, rfl, rfl, by omega, hm0, Lib.hid rfl⟩
  case round =>
    obtain ⟨k, n, hk, rfl, rfl, hn0, hn1, HV⟩ := hrel
    by_cases hlt : k < s.size
    · have hc := (s[k]).toNat_lt
      have HD := Lib.hid (Oct.drop_cons s k hlt)
      have hwb := Oct.dig_lt 10 (Oct.all_at (Oct.dig 10) s k hlt hd)
      have HW := Lib.hid (@Oct.worth_nat s[k])
      obtain ⟨d, hdd⟩ : ∃ d : Nat, d = Oct.worth s[k] := ⟨_, rfl⟩
      rw [← hdd] at hwb
      have HDD := Lib.hid hdd
      clear hdd HW
      by_cases hov : most < n * 10 + (d : Int)
      · have HR : Hid (Oct.number 10 most s.data.toList = (0, 12)) := HO.out (by rw [HV.out, HD.out, Oct.num_more _ _ _ _ _ (by rw [← HDD.out]; exact hov)])
        by_cases h1 : most / 10 < n
        · go_wp2_with (go_at_call 54; refine (worth_c _ _).mono ?_; rw [← HDD.out]; rintro e w' ⟨rfl, rfl⟩)
          go_ret2
          exact ⟨ret_pair HR.out, hbm⟩
        · have h1' : n ≤ most / 10 := by omega
          have h2 : most - (d : Int) < n * 10 := by omega
          have h3 : n * 10 ≤ most := by omega
          go_wp2_with (go_at_call 54; refine (worth_c _ _).mono ?_; rw [← HDD.out]; rintro e w' ⟨rfl, rfl⟩)
          go_ret2
          exact ⟨ret_pair HR.out, hbm⟩
      · have HN : Hid (Oct.num 10 most 0 s.data.toList = Oct.num 10 most (n * 10 + (d : Int)) (s.data.toList.drop (k + 1))) := by
          rw [HV.out, HD.out, Oct.num_on _ _ _ _ _ (by rw [← HDD.out]; exact hov), ← HDD.out]; rfl
        have h1 : n ≤ most / 10 := by omega
        have h2 : n * 10 ≤ most - (d : Int) := by omega
        have h3 : n * 10 ≤ most := by omega
        have h4 : 0 ≤ n * 10 := by omega
        go_wp2_with (go_at_call 54; refine (worth_c _ _).mono ?_; rw [← HDD.out]; rintro e w' ⟨rfl, rfl⟩)
        go_round
        case rel => exact ⟨k + 1, n * 10 + (d : Int), by omega, by go_num, rfl, by omega, by omega, HN⟩
        case measure => simp [intOf]; omega
    · have HE : Hid (s.data.toList.drop k = []) := List.drop_of_length_le (by rw [Oct.length_size]; omega)
      have HR : Hid (Oct.number 10 most s.data.toList = (n, 0)) := (HS n).out (by rw [HV.out, HE.out, Oct.num_nil])
      go_wp2_with fail
      go_ret2
      exact ⟨ret_pair HR.out, hbm⟩

set_option maxHeartbeats 1600000 in
set_option maxRecDepth 100000 in
theorem reckon16 (s : ByteArray) (most : Int) (w : World) (hs : s.size ≤ 1000000) (hm1 : -9223372036854775808 ≤ most) (hm2 : most ≤ 9223372036854775807) :
    Calls Tryd.prog 40 #[.string s, .int .i64 16, .int .i64 most] w fun e w' => e = .returned (.tuple #[.int .i64 (Oct.number 16 most s.data.toList).1, .int .i64 (Oct.number 16 most s.data.toList).2]) ∧ Below w.heap.size w w' := by
  have hmf : ∀ (fn : Fn) (first cap : Array Value) (w : World), (Instr.makeFunc fn first cap).run Tryd.prog w = .ok (.func fn first cap) w := fun _ _ _ _ => rfl
  have hcell : (w.alloc (.cells #[.int .i64 16] 3)).cell? ⟨w.heap.size, 0, none⟩ = some (.int .i64 16) := by rw [World.cell?_alloc_at _ _ _ _ rfl]; rfl
  have hb0 : Below w.heap.size w (w.alloc (.cells #[.int .i64 16] 3)) := (Below.refl _ w).alloc (Nat.le_refl _) _
  by_cases h0 : 0 < s.size
  case neg =>
    have HR := Lib.hid (Oct.number_empty 16 most s h0)
    have hz0 : s.size = 0 := by omega
    obtain rfl : s = ByteArray.empty := Oct.size_zero s hz0
    clear hcell
    go_enter Tryd.func40, Tryd.ntmps40
    go_wp2_with fail
    go_ret2
    exact ⟨ret_pair HR.out, hb0⟩
  have hne' : ¬ s = ByteArray.empty := fun e => by rw [e] at h0; exact absurd h0 (by decide)
  have hne : s.toList.isEmpty = false := Oct.nonempty s h0
  have hne2 : ¬ s.toList = [] := fun e => by rw [e] at hne; cases hne
  have HEv := Lib.hid (every_dig s 16 w.heap.size 16 rfl (w.alloc (.cells #[.int .i64 16] 3)) hs (by decide) hcell)
  by_cases hd : Oct.allOf (Oct.dig 16) s.data.toList = true
  case neg =>
    have hd' : Oct.allOf (Oct.dig 16) s.data.toList = false := by simpa using hd
    clear hd
    have HR := Lib.hid (Oct.number_bad 16 most _ hd')
    go_enter Tryd.func40, Tryd.ntmps40
    go_wp2_with fail
    refine HEv.out.mono ?_
    rintro e w1 ⟨rfl, m, rfl⟩
    go_wp2_with fail
    go_ret2
    exact ⟨ret_pair HR.out, below_drewN hb0 m⟩
  by_cases hm : most < 0
  · have HR := Lib.hid (Oct.number_neg 16 most s h0 hd hm)
    go_enter Tryd.func40, Tryd.ntmps40
    go_wp2_with fail
    refine HEv.out.mono ?_
    rintro e w1 ⟨rfl, m, rfl⟩
    go_wp2_with fail
    go_ret2
    exact ⟨ret_pair HR.out, below_drewN hb0 m⟩
  have hm0 : 0 ≤ most := by omega
  have HS := fun n => Lib.hid (@Oct.num_some 16 most s h0 hd hm0 n)
  have HO := Lib.hid (Oct.num_none 16 most s h0 hd hm0)
  go_enter Tryd.func40, Tryd.ntmps40
  go_wp2_with fail
  refine HEv.out.mono ?_
  rintro e w1 ⟨rfl, m, rfl⟩
  go_wp2_with fail
  have HC : Hid (((w.alloc (.cells #[.int .i64 16] 3)).drewN m).cell? ⟨w.heap.size, 0, none⟩ = some (.int .i64 16)) := hcell
  clear hcell HEv hmf
  have hbm := below_drewN hb0 m
  clear hb0
  generalize (w.alloc (.cells #[.int .i64 16] 3)).drewN m = W1 at HC hbm ⊢
  have hcell := HC.out
  clear HC
  go_loop [9, 25] (fun x i => ∃ (k : Nat) (n : Int), k ≤ s.size ∧ i = .int .i64 k ∧ x = .int .i64 n ∧ 0 ≤ n ∧ n ≤ most ∧ Hid (Oct.num 16 most 0 s.data.toList = Oct.num 16 most n (s.data.toList.drop k))) (fun _ i => s.size - (intOf i).toNat)
  case atStart => exact ⟨0, 0, by omega, rfl, rfl, by omega, hm0, Lib.hid rfl⟩
  case round =>
    obtain ⟨k, n, hk, rfl, rfl, hn0, hn1, HV⟩ := hrel
    by_cases hlt : k < s.size
    · have hc := (s[k]).toNat_lt
      have HD := Lib.hid (Oct.drop_cons s k hlt)
      have hwb := Oct.dig_lt 16 (Oct.all_at (Oct.dig 16) s k hlt hd)
      have HW := Lib.hid (@Oct.worth_nat s[k])
      obtain ⟨d, hdd⟩ : ∃ d : Nat, d = Oct.worth s[k] := ⟨_, rfl⟩
      rw [← hdd] at hwb
      have HDD := Lib.hid hdd
      clear hdd HW
      by_cases hov : most < n * 16 + (d : Int)
      · have HR : Hid (Oct.number 16 most s.data.toList = (0, 12)) := HO.out (by rw [HV.out, HD.out, Oct.num_more _ _ _ _ _ (by rw [← HDD.out]; exact hov)])
        by_cases h1 : most / 16 < n
        · go_wp2_with (go_at_call 54; refine (worth_c _ _).mono ?_; rw [← HDD.out]; rintro e w' ⟨rfl, rfl⟩)
          go_ret2
          exact ⟨ret_pair HR.out, hbm⟩
        · have h1' : n ≤ most / 16 := by omega
          have h2 : most - (d : Int) < n * 16 := by omega
          have h3 : n * 16 ≤ most := by omega
          go_wp2_with (go_at_call 54; refine (worth_c _ _).mono ?_; rw [← HDD.out]; rintro e w' ⟨rfl, rfl⟩)
          go_ret2
          exact ⟨ret_pair HR.out, hbm⟩
      · have HN : Hid (Oct.num 16 most 0 s.data.toList = Oct.num 16 most (n * 16 + (d : Int)) (s.data.toList.drop (k + 1))) := by
          rw [HV.out, HD.out, Oct.num_on _ _ _ _ _ (by rw [← HDD.out]; exact hov), ← HDD.out]; rfl
        have h1 : n ≤ most / 16 := by omega
        have h2 : n * 16 ≤ most - (d : Int) := by omega
        have h3 : n * 16 ≤ most := by omega
        have h4 : 0 ≤ n * 16 := by omega
        go_wp2_with (go_at_call 54; refine (worth_c _ _).mono ?_; rw [← HDD.out]; rintro e w' ⟨rfl, rfl⟩)
        go_round
        case rel => exact ⟨k + 1, n * 16 + (d : Int), by omega, by go_num, rfl, by omega, by omega, HN⟩
        case measure => simp [intOf]; omega
    · have HE : Hid (s.data.toList.drop k = []) := List.drop_of_length_le (by rw [Oct.length_size]; omega)
      have HR : Hid (Oct.number 16 most s.data.toList = (n, 0)) := (HS n).out (by rw [HV.out, HE.out, Oct.num_nil])
      go_wp2_with fail
      go_ret2
      exact ⟨ret_pair HR.out, hbm⟩

end Go.Proofs.YtljpidpddlgkpaaDoor
