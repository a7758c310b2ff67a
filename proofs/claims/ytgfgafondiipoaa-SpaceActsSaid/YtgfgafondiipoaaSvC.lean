/- The program's map in memory: count, and who calls it. -/
import Derived.Test.YtgfgafondiipoaaSvB
namespace Go.Proofs.Ytgfgafondiipoaa
open Go.RowKit
set_option maxHeartbeats 1600000 in
set_option maxRecDepth 100000 in
theorem count_free (w : World) (q b : Nat) (m : Sp.M) (h : PD w q b m) :
    Calls Try.prog 29 #[.pointer (some ⟨q, 0, none⟩), .func (.func 30) #[] #[]] w fun e w' => e = .returned (.int .i64 ((m.countP Sp.isFree : Nat) : Int)) ∧ Below w.heap.size w w' := by
  have H := Lib.hid h
  have hlen := h.len
  obtain ⟨n, hn⟩ : ∃ n, n = m.length := ⟨_, rfl⟩
  have HN := Lib.hid hn
  have c0 := h.c0
  rw [← hn] at hlen c0
  clear h hn
  go_enter Try.func29, Try.ntmps29
  go_wp2_with fail
  clear c0
  go_loopw [5, 13] (fun vn vi wr => ∃ k : Nat, k ≤ n ∧ vn = .int .i64 ((m.take k).countP Sp.isFree : Nat) ∧ vi = .int .i64 k ∧ Hid (Below w.heap.size w wr)) (fun _ vi _ => n - (intOf vi).toNat)
  case atStart => exact ⟨0, Nat.zero_le _, rfl, rfl, Lib.hid (Below.refl _ _)⟩
  case round =>
    obtain ⟨k, hk, rfl, rfl, HB⟩ := hrel
    have hle := cnt_le Sp.isFree m k
    obtain ⟨t, ht⟩ : ∃ t, t = (m.take k).countP Sp.isFree := ⟨_, rfl⟩
    rw [← HN.out, ← ht] at hle
    rw [← ht]
    by_cases hlt : k < n
    · have hki : (k : Int) < n := by omega
      have hkm : k < m.length := by rw [← HN.out]; exact hlt
      have HC := Lib.hid (cnt_snoc Sp.isFree m k hkm)
      rw [← ht] at HC
      have HP : Hid (Sp.isFree m[k] = !decide (m[k].1 ≠ 0)) := Lib.hid (by unfold Sp.isFree; simp [BEq.beq])
      obtain ⟨c, hc⟩ : ∃ c, c = m[k] := ⟨_, rfl⟩
      have HK : Hid (m[k]? = some c) := Lib.hid (by rw [hc]; exact List.getElem?_eq_getElem hkm)
      rw [← hc] at HC HP
      clear hc
      obtain ⟨s, x⟩ := c
      obtain ⟨-, f1, f2, f3⟩ := (H.out.later HB.out).facts HN.out.symm hlt HK.out
      simp only at f1 f2 f3 HP
      generalize decide (s ≠ 0) = d0 at f1 HP
      generalize decide (s = 2) = d1 at f2 HP
      have hb1 : Below wr.heap.size wr (wr.alloc (.cells #[.bool d0, .bool d1, .bool x] 62)) := (Below.refl _ wr).alloc (Nat.le_refl _) _
      have HB1 := Lib.hid (bt5 HB.out hb1)
      clear hb1 hkm ht
      go_wp2_with fail
      refine (free_c _ _ _ _).mono ?_
      rintro e w5 ⟨rfl, hb5⟩
      have HB5 := Lib.hid (bt5 HB1.out hb5)
      clear hb5 HB1 f1 f2 f3
      cases d0 with
      | true =>
        go_wp2_with fail
        go_roundw
        case rel => exact ⟨k + 1, by omega, by rw [HC.out, HP.out]; simp, by go_num, HB5⟩
        case measure => simp [intOf]; omega
      | false =>
        go_wp2_with fail
        go_roundw
        case rel => exact ⟨k + 1, by omega, by rw [HC.out, HP.out]; simp, by go_num, HB5⟩
        case measure => simp [intOf]; omega
    · have hki : ¬ (k : Int) < n := by omega
      have HE : Hid (t = m.countP Sp.isFree) := Lib.hid (by rw [ht, List.take_of_length_le (by rw [← HN.out]; omega)])
      clear ht
      go_wp2_with fail
      go_ret
      exact ⟨by rw [HE.out]; rfl, HB.out⟩
set_option maxRecDepth 100000 in
theorem pFree_w (w : World) (q b : Nat) (m : Sp.M) (h : PD w q b m) :
    Calls Try.prog 9 #[.pointer (some ⟨q, 0, none⟩)] w fun e w' => e = .returned (.int .i64 ((m.countP Sp.isFree : Nat) : Int)) ∧ Below w.heap.size w w' := by
  have c := count_free w q b m h
  generalize ((m.countP Sp.isFree : Nat) : Int) = r at c ⊢
  clear h
  go_enter Try.func9, Try.ntmps9
  go_wp2_with fail
  refine c.mono ?_
  rintro e w1 ⟨rfl, hb1⟩
  go_wp2_with fail
  go_ret
  exact ⟨rfl, hb1⟩
set_option maxHeartbeats 1600000 in
set_option maxRecDepth 100000 in
theorem count_waits (w : World) (q b : Nat) (m : Sp.M) (h : PD w q b m) :
    Calls Try.prog 29 #[.pointer (some ⟨q, 0, none⟩), .func (.func 40) #[] #[]] w fun e w' => e = .returned (.int .i64 ((m.countP (fun c => c.2) : Nat) : Int)) ∧ Below w.heap.size w w' := by
  have H := Lib.hid h
  have hlen := h.len
  obtain ⟨n, hn⟩ : ∃ n, n = m.length := ⟨_, rfl⟩
  have HN := Lib.hid hn
  have c0 := h.c0
  rw [← hn] at hlen c0
  clear h hn
  go_enter Try.func29, Try.ntmps29
  go_wp2_with fail
  clear c0
  go_loopw [5, 13] (fun vn vi wr => ∃ k : Nat, k ≤ n ∧ vn = .int .i64 ((m.take k).countP (fun c => c.2) : Nat) ∧ vi = .int .i64 k ∧ Hid (Below w.heap.size w wr)) (fun _ vi _ => n - (intOf vi).toNat)
  case atStart => exact ⟨0, Nat.zero_le _, rfl, rfl, Lib.hid (Below.refl _ _)⟩
  case round =>
    obtain ⟨k, hk, rfl, rfl, HB⟩ := hrel
    have hle := cnt_le (fun c => c.2) m k
    obtain ⟨t, ht⟩ : ∃ t, t = (m.take k).countP (fun c => c.2) := ⟨_, rfl⟩
    rw [← HN.out, ← ht] at hle
    rw [← ht]
    by_cases hlt : k < n
    · have hki : (k : Int) < n := by omega
      have hkm : k < m.length := by rw [← HN.out]; exact hlt
      have HC := Lib.hid (cnt_snoc (fun c => c.2) m k hkm)
      rw [← ht] at HC
      obtain ⟨c, hc⟩ : ∃ c, c = m[k] := ⟨_, rfl⟩
      have HK : Hid (m[k]? = some c) := Lib.hid (by rw [hc]; exact List.getElem?_eq_getElem hkm)
      rw [← hc] at HC
      clear hc
      obtain ⟨s, x⟩ := c
      obtain ⟨-, f1, f2, f3⟩ := (H.out.later HB.out).facts HN.out.symm hlt HK.out

      generalize decide (s ≠ 0) = d0 at f1
      generalize decide (s = 2) = d1 at f2
      have hb1 : Below wr.heap.size wr (wr.alloc (.cells #[.bool d0, .bool d1, .bool x] 62)) := (Below.refl _ wr).alloc (Nat.le_refl _) _
      have HB1 := Lib.hid (bt5 HB.out hb1)
      clear hb1 hkm ht
      go_wp2_with fail
      refine (waits_c _ _ _ _).mono ?_
      rintro e w5 ⟨rfl, hb5⟩
      have HB5 := Lib.hid (bt5 HB1.out hb5)
      clear hb5 HB1 f1 f2 f3
      cases x with
      | true =>
        go_wp2_with fail
        go_roundw
        case rel => exact ⟨k + 1, by omega, by rw [HC.out]; simp, by go_num, HB5⟩
        case measure => simp [intOf]; omega
      | false =>
        go_wp2_with fail
        go_roundw
        case rel => exact ⟨k + 1, by omega, by rw [HC.out]; simp, by go_num, HB5⟩
        case measure => simp [intOf]; omega
    · have hki : ¬ (k : Int) < n := by omega
      have HE : Hid (t = m.countP (fun c => c.2)) := Lib.hid (by rw [ht, List.take_of_length_le (by rw [← HN.out]; omega)])
      clear ht
      go_wp2_with fail
      go_ret
      exact ⟨by rw [HE.out]; rfl, HB.out⟩
set_option maxRecDepth 100000 in
theorem pWaiting_w (w : World) (q b : Nat) (m : Sp.M) (h : PD w q b m) :
    Calls Try.prog 25 #[.pointer (some ⟨q, 0, none⟩)] w fun e w' => e = .returned (.int .i64 ((m.countP (fun c => c.2) : Nat) : Int)) ∧ Below w.heap.size w w' := by
  have c := count_waits w q b m h
  generalize ((m.countP (fun c => c.2) : Nat) : Int) = r at c ⊢
  clear h
  go_enter Try.func25, Try.ntmps25
  go_wp2_with fail
  refine c.mono ?_
  rintro e w1 ⟨rfl, hb1⟩
  go_wp2_with fail
  go_ret
  exact ⟨rfl, hb1⟩
end Go.Proofs.Ytgfgafondiipoaa
