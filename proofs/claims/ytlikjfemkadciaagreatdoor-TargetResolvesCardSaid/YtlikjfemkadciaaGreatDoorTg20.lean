/- The document's own answer for package target: octets, hosts. -/
import Derived.Test.YtlikjfemkadciaaGreatDoorTg14
namespace Go.Proofs.YtlikjfemkadciaaGreatDoor
open Go.RowKit

theorem free_int (c : UInt8) : Tg.free c = ((decide (97 ≤ (c.toNat : Int)) && decide ((c.toNat : Int) ≤ 122)) || (decide (65 ≤ (c.toNat : Int)) && decide ((c.toNat : Int) ≤ 90)) || (decide (48 ≤ (c.toNat : Int)) && decide ((c.toNat : Int) ≤ 57)) || (c.toNat : Int) == 45 || (c.toNat : Int) == 46 || (c.toNat : Int) == 95 || (c.toNat : Int) == 126) := by
  unfold Tg.free
  rw [Oct.alnum_int, Oct.nat8 c 45, Oct.nat8 c 46, Oct.nat8 c 95, Oct.nat8 c 126]; rfl
set_option maxHeartbeats 1600000 in
theorem rfree_c (c : UInt8) (w : World) :
    Calls Tryz.prog 33 #[.int .u8 c.toNat] w fun e w' => e = .returned (.bool (Tg.free c)) ∧ w = w' := by
  have hc := c.toNat_lt
  have HF := Lib.hid (free_int c)
  have hr : ((c.toNat : Int) < 48) ∨ (48 ≤ (c.toNat : Int) ∧ (c.toNat : Int) ≤ 57) ∨ (57 < (c.toNat : Int) ∧ (c.toNat : Int) < 65) ∨ (65 ≤ (c.toNat : Int) ∧ (c.toNat : Int) ≤ 90) ∨ (90 < (c.toNat : Int) ∧ (c.toNat : Int) < 97) ∨ (97 ≤ (c.toNat : Int) ∧ (c.toNat : Int) ≤ 122) ∨ (122 < (c.toNat : Int)) := by omega
  rcases hr with h1 | ⟨h1, h2⟩ | ⟨h1, h2⟩ | ⟨h1, h2⟩ | ⟨h1, h2⟩ | ⟨h1, h2⟩ | h1
  all_goals
    go_enter Tryz.func33, Tryz.ntmps33
    go_wp2
  all_goals go_ret
  all_goals exact ⟨ret_bool (by rw [HF.out, Bool.eq_iff_iff] <;> first | (simp; done) | (simp; omega)), rfl⟩

/-- Is an octet there? (behind a name that the walk leaves alone) -/
def has (l : List UInt8) (c : UInt8) : Bool := l.contains c
set_option maxHeartbeats 800000 in
theorem among_c (c : UInt8) (s : ByteArray) (w : World) (hs : s.size ≤ 1000000) :
    Calls Tryz.prog 34 #[.int .u8 c.toNat, .string s] w fun e w' => e = .returned (.bool (has s.data.toList c)) ∧ w = w' := by
  have hS : ∀ k (hk : k < s.size), s.data.toList[k]? = some s[k] := fun k hk => Lib.data_getElem? s k hk
  have HS := Lib.hid hS
  clear hS
  go_enter Tryz.func34, Tryz.ntmps34
  go_wp2_with fail
  go_loop [5] (fun i => ∃ k : Nat, k ≤ s.size ∧ i = .int .i64 k ∧ Hid (has (s.data.toList.take k) c = false)) (fun i => s.size - (intOf i).toNat)
  case atStart => exact ⟨0, by omega, rfl, Lib.hid rfl⟩
  case round =>
    obtain ⟨k, hk, rfl, HA⟩ := hrel
    by_cases hlt : k < s.size
    · have ht := Oct.take_snoc s k hlt
      by_cases hc : s[k] = c
      · have b1 : ((s[k].toNat : Int) == (c.toNat : Int)) = true := by rw [hc]; exact beq_self_eq_true _
        have HR : Hid (has s.data.toList c = true) := Lib.hid (List.contains_iff_mem.2 (by rw [← hc]; exact List.mem_of_getElem? (HS.out k hlt)))
        clear hc ht
        go_wp2_with fail
        all_goals go_ret
        all_goals exact ⟨ret_bool HR.out.symm, rfl⟩
      · have b1 : ((s[k].toNat : Int) == (c.toNat : Int)) = false := beq_eq_false_iff_ne.2 (fun e => hc (UInt8.toNat_inj.1 (by omega)))
        have HA2 : Hid (has (s.data.toList.take (k + 1)) c = false) := by
          rw [ht]
          have h := HA.out
          refine Lib.hid ?_
          unfold has at h ⊢
          rw [Bool.eq_false_iff] at h ⊢
          intro h2
          apply h
          rw [List.contains_iff_mem] at h2 ⊢
          rcases List.mem_append.1 h2 with h3 | h3
          · exact h3
          · rw [List.mem_singleton] at h3; exact absurd h3.symm hc
        clear hc ht
        go_wp2_with fail
        go_round
        case rel => exact ⟨k + 1, by omega, by go_num, HA2⟩
        case measure => simp [intOf]; omega
    · have HE := Lib.hid (Oct.take_all s k (by omega))
      go_wp2_with fail
      go_ret
      exact ⟨ret_bool (by rw [← HA.out, HE.out]), rfl⟩

theorem number_one (c : UInt8) : Oct.number 16 15 [c] = if Tg.hexd c then ((Oct.digit c : Int), 0) else (0, 10) := by
  have ed : Oct.dig 16 c = Tg.hexd c := rfl
  unfold Oct.number
  by_cases hh : Tg.hexd c = true
  · rw [if_pos hh]
    have h1 := Tg.hexd_lt hh
    have : Oct.allOf (Oct.dig 16) [c] = true := by simp [Oct.allOf, ed, hh]
    rw [this, if_neg (by simp), if_neg (by decide)]
    simp only [Oct.num]
    rw [if_neg (by omega)]
    rcases Oct.digit_worth c with ⟨h2, _⟩ | ⟨h2, _⟩
    · simp [h2]
    · omega
  · rw [if_neg hh]
    have : Oct.allOf (Oct.dig 16) [c] = false := by simp [Oct.allOf, ed]; simpa using hh
    rw [this, if_pos (by simp)]
theorem hexd_digit (c : UInt8) : (Tg.hexd c = true ∧ Oct.digit c = Oct.worth c ∧ Oct.worth c < 16) ∨ (Tg.hexd c = false ∧ Oct.digit c = 99) := by
  rcases Oct.digit_worth c with ⟨h1, h2⟩ | ⟨h1, h2⟩
  · exact .inl ⟨by unfold Tg.hexd; exact decide_eq_true h2, h1.symm, h2⟩
  · exact .inr ⟨by unfold Tg.hexd; exact decide_eq_false (by omega), h2⟩
set_option maxHeartbeats 800000 in
theorem hexa_c (c : UInt8) (w : World) :
    Calls Tryz.prog 32 #[.int .u8 c.toNat] w fun e w' => e = .returned (.int .i64 (Oct.digit c)) ∧ Below w.heap.size w w' := by
  have hB := fun (W : World) => (Buf.one (Below.refl W.heap.size W) c c.toNat rfl).string
  have hn := number_one c
  rcases hexd_digit c with ⟨h1, h2, h3⟩ | ⟨h1, h2⟩
  · rw [h1, if_pos rfl] at hn
    have cN := fun (W : World) => rHex_is (str [c]) 15 (Oct.digit c) 0 W (by rw [str_size]; simp) (by decide) (by decide) (by rw [str_list]; exact hn)
    clear hn h1 h2 h3
    generalize str [c] = x at *
    go_enter Tryz.func32, Tryz.ntmps32
    go_wp2_with fail
    refine (cN _).mono ?_
    rintro e w1 ⟨rfl, rfl⟩
    go_wp2_with fail
    go_ret
    exact ⟨rfl, (Below.refl _ _).alloc (Nat.le_refl _) _⟩
  · rw [h1, if_neg (by decide)] at hn
    have cN := fun (W : World) => rHex_is (str [c]) 15 0 10 W (by rw [str_size]; simp) (by decide) (by decide) (by rw [str_list]; exact hn)
    clear hn h1
    have HD := Lib.hid h2
    clear h2
    generalize str [c] = x at *
    go_enter Tryz.func32, Tryz.ntmps32
    go_wp2_with fail
    refine (cN _).mono ?_
    rintro e w1 ⟨rfl, rfl⟩
    go_wp2_with fail
    go_ret
    exact ⟨ret_int (by rw [HD.out]; rfl), (Below.refl _ _).alloc (Nat.le_refl _) _⟩
end Go.Proofs.YtlikjfemkadciaaGreatDoor
