/- Package journal, the program: numbers out of octets, and into them. -/
import Derived.Test.YtjdmmnpfjbnhoaaJrMathH
import Derived.Test.YtjdmmnpfjbnhoaaDvP1
import Derived.Laws.BitsAllLaws
namespace Jr
open Dv
theorem lay_cons : ∀ (k u : Nat), lay u (k + 1) = UInt8.ofNat (u / 256 ^ k % 256) :: lay u k
  | 0, u => by
    show lay (u / 256) 0 ++ _ = _
    simp [lay]
  | k + 1, u => by
    show lay (u / 256) (k + 1) ++ [UInt8.ofNat (u % 256)] = _
    rw [lay_cons k (u / 256), Nat.div_div_eq_div_mul, show 256 * 256 ^ k = 256 ^ (k + 1) by rw [Nat.pow_succ]; omega]
    rfl
/-- A number below 2^64 as an int. -/
def sgn (u : Nat) : Int := if u < 9223372036854775808 then (u : Int) else (u : Int) - 18446744073709551616
theorem num_sgn (b : L) : num b = sgn (unum b) := rfl
theorem unum_lt (b : L) : unum b < 18446744073709551616 := by
  rcases List.eq_nil_or_concat b with rfl | ⟨l, x, rfl⟩
  · decide
  · rw [List.concat_eq_append, unum_snoc]; exact Nat.mod_lt _ (by decide)
theorem num_range (b : L) : -9223372036854775808 ≤ num b ∧ num b ≤ 9223372036854775807 := by
  have := unum_lt b
  rw [num_sgn]; unfold sgn; split <;> omega
theorem unum_small_ : ∀ (n : Nat) (b : L), b.length = n → n ≤ 7 → unum b < 256 ^ n
  | 0, b, h, _ => by rw [List.eq_nil_of_length_eq_zero h]; decide
  | n + 1, b, h, h7 => by
    rcases List.eq_nil_or_concat b with rfl | ⟨l, x, rfl⟩
    · simp at h
    · rw [List.concat_eq_append] at h ⊢
      rw [List.length_append] at h
      have h1 := unum_small_ n l (by simpa using h) (by omega)
      have hx := x.toNat_lt
      rw [unum_snoc, Nat.pow_succ]
      exact Nat.lt_of_le_of_lt (Nat.mod_le _ _) (by omega)
theorem unum_small (b : L) (h : b.length ≤ 7) : unum b < 256 ^ b.length := unum_small_ _ b rfl h
theorem num_small (b : L) (h : b.length ≤ 7) : num b = (unum b : Int) := by
  have h1 := unum_small b h
  have h2 : 256 ^ b.length ≤ 256 ^ 7 := Nat.pow_le_pow_right (by decide) h
  rw [num_sgn]; unfold sgn; rw [if_pos (by have : (256 : Nat) ^ 7 < 9223372036854775808 := by decide
                                           omega)]
end Jr
namespace Go.Proofs.Ytjdmmnpfjbnhoaa
open Go.RowKit

theorem or_num (u : Nat) (_hu : u < 18446744073709551616) (c : Nat) (hc : c < 256) : bits .or .i64 (IntKind.i64.wrap (Jr.sgn u * 256)) (c : Int) = Jr.sgn ((u * 256 + c) % 18446744073709551616) := by
  have h1 : (BitVec.ofInt 64 (IntKind.i64.wrap (Jr.sgn u * 256))).toNat = (u % 2 ^ 56) * 2 ^ 8 := by
    rw [BitVec.toNat_ofInt, IntKind.wrap_i64]
    unfold Jr.sgn
    split <;> omega
  have h2 : (BitVec.ofInt 64 (c : Int)).toNat = c := by
    rw [BitVec.toNat_ofInt]; omega
  show IntKind.i64.wrap ((BitVec.ofInt 64 (IntKind.i64.wrap (Jr.sgn u * 256)) ||| BitVec.ofInt 64 (c : Int)).toNat : Nat) = _
  rw [BitVec.toNat_or, h1, h2, ← Nat.shiftLeft_eq, ← Nat.shiftLeft_add_eq_or_of_lt (by omega), Nat.shiftLeft_eq, IntKind.wrap_i64]
  unfold Jr.sgn
  split <;> omega

set_option maxHeartbeats 1600000 in
set_option maxRecDepth 100000 in
theorem numeral_w (v : Value) (l : List UInt8) (w : World) (h : BIn w v l) :
    Calls Try.prog 62 #[v] w fun e w' => e = .returned (.int .i64 (Jr.num l)) ∧ w = w' := by
  obtain ⟨ao, cap, rfl, hc, hc9, hg⟩ := h
  obtain ⟨n, hn⟩ : ∃ n, n = l.length := ⟨_, rfl⟩
  have HN := Lib.hid hn
  have HG := Lib.hid hg
  rw [← hn] at hc ⊢
  clear hn hg
  go_enter Try.func62, Try.ntmps62
  go_wp2_with fail
  go_loopw [3, 8] (fun m i wr => ∃ k : Nat, k ≤ n ∧ i = .int .i64 k ∧ m = .int .i64 (Jr.num (l.take k)) ∧ wr = w) (fun _ i _ => n - (intOf i).toNat)
  case atStart => exact ⟨0, Nat.zero_le _, rfl, rfl, rfl⟩
  case round =>
    obtain ⟨k, hk, rfl, rfl, rfl⟩ := hrel
    by_cases hlt : k < n
    · have hki : (k : Int) < n := by omega
      have hkl : k < l.length := by rw [← HN.out]; exact hlt
      obtain ⟨b, o, rfl, hb, hcell⟩ := HG.out.resolve_left (fun e => by rw [e] at hkl; cases hkl)
      have hck := hcell k hkl
      have HQ := Lib.hid (show Jr.num (l.take (k + 1)) = Jr.sgn ((Jr.unum (l.take k) * 256 + l[k].toNat) % 18446744073709551616) by rw [tk_snoc l k hkl, Jr.num_sgn, Jr.unum_snoc])
      have hor := or_num (Jr.unum (l.take k)) (Jr.unum_lt _) l[k].toNat l[k].toNat_lt
      have hc0 : (0 : Int) ≤ (l[k].toNat : Int) := by omega
      have hc1 : (l[k].toNat : Int) < 256 := by have := l[k].toNat_lt; omega
      rw [Jr.num_sgn]
      have hsr := Jr.num_range (l.take k)
      rw [Jr.num_sgn] at hsr
      generalize Jr.sgn (Jr.unum (l.take k)) = S at *
      generalize hz : Jr.sgn ((Jr.unum (l.take k) * 256 + l[k].toNat) % 18446744073709551616) = Z at *
      have HOR := Lib.hid hor
      generalize l[k].toNat = c at *
      clear hz hcell hb
      go_wp2_with fail
      go_roundw
      case rel => exact ⟨k + 1, by omega, by go_num, by rw [HQ.out]; exact congrArg (Value.int .i64) ((congrArg (fun z => bits .or .i64 z (c : Int)) (show wrap64 (S * 256) = IntKind.i64.wrap (S * 256) from by simp only [wrap64, IntKind.wrap_i64])).trans HOR.out), trivial⟩
      case measure => simp [intOf]; omega
    · have hki : ¬ (k : Int) < n := by omega
      obtain rfl : k = n := by omega
      have HE := Lib.hid (show l.take k = l from List.take_of_length_le (by rw [← HN.out]; exact Nat.le_refl _))
      rw [HE.out]
      clear hk hlt
      go_wp2_with fail
      go_ret
      exact ⟨rfl, rfl⟩

set_option maxHeartbeats 1600000 in
set_option maxRecDepth 100000 in
/-- 'lay' on a part of a block of octets. -/
theorem lay_w (g o n cap u : Nat) (l : List UInt8) (w : World) (h : Blk w g l) (hn : n ≤ 8) (ho : o + n ≤ l.length) (hu : u < 9223372036854775808) (hl : l.length ≤ 1000) :
    Calls Try.prog 60 #[.slice (some ⟨g, o, none⟩) n cap, .int .i64 (u : Int)] w fun e w' => e = .returned (.tuple #[]) ∧ Blk w' g (l.take o ++ Jr.lay u n ++ l.drop (o + n)) ∧ Touch (fun k => k = g) w w' := by
  have HH := Lib.hid h
  have HO := Lib.hid ho
  have h0 : l.take (o + n - 0) ++ Jr.lay u 0 ++ l.drop (o + n) = l := by simp [Jr.lay]
  have H0 := Lib.hid h0
  clear h h0
  go_enter Try.func60, Try.ntmps60
  go_wp2_with fail
  go_loopw [7] (fun i wr => ∃ k : Nat, k ≤ n ∧ i = .int .i64 k ∧ Blk wr g (l.take (o + n - k) ++ Jr.lay u k ++ l.drop (o + n)) ∧ Touch (fun k => k = g) w wr) (fun i _ => n - (intOf i).toNat)
  case atStart => exact ⟨0, Nat.zero_le _, rfl, by rw [H0.out]; exact HH.out, Touch.refl _ _⟩
  case round =>
    obtain ⟨k, hk, rfl, hB, ht⟩ := hrel
    by_cases hlt : k < n
    · have hki : (k : Int) < n := by omega
      have hk8 : k < 8 := by omega
      have hlen : (l.take (o + n - k) ++ Jr.lay u k ++ l.drop (o + n)).length = l.length := by
        rw [List.length_append, List.length_append, List.length_take, Jr.lay_length, List.length_drop]; omega
      obtain ⟨fd, ff⟩ := hB.cell (o + n - 1 - k) (by rw [hlen]; omega)
      generalize (l.take (o + n - k) ++ Jr.lay u k ++ l.drop (o + n))[o + n - 1 - k]'(by rw [hlen]; omega) = y at fd
      obtain ⟨c, hc⟩ : ∃ c : Nat, c = u / 256 ^ k % 256 := ⟨_, rfl⟩
      have hc6 : c < 256 := by rw [hc]; exact Nat.mod_lt _ (by decide)
      have hset : (l.take (o + n - k) ++ Jr.lay u k ++ l.drop (o + n)).set (o + n - 1 - k) (UInt8.ofNat c) = l.take (o + n - (k + 1)) ++ Jr.lay u (k + 1) ++ l.drop (o + n) := by
        rw [Jr.lay_cons, ← hc, show o + n - (k + 1) = o + n - 1 - k by omega, show o + n - k = (o + n - 1 - k) + 1 by omega, tk_snoc l (o + n - 1 - k) (by omega), List.append_assoc, List.append_assoc, List.append_assoc, List.set_append_right _ _ (by rw [List.length_take]; omega), List.length_take, show o + n - 1 - k - min (o + n - 1 - k) l.length = 0 by omega]
        rfl
      have hB5 := hB.set (o + n - 1 - k) (UInt8.ofNat c) (c : Int) (by rw [UInt8.toNat_ofNat', Nat.mod_eq_of_lt (by omega)])
      rw [hset] at hB5
      have ht5 : Touch (fun k => k = g) w (wr.setCell ⟨g, o + n - 1 - k, none⟩ (.int .u8 (c : Int))) := ht.trans (Touch.cell (F := fun k => k = g) (g := g) rfl _ _)
      have hix : ((n : Int) - 1 - (k : Int)) = ((n - 1 - k : Nat) : Int) := by omega
      have HB5 := Lib.hid hB5
      have HT5 := Lib.hid ht5
      have HC := Lib.hid hc
      have hn1 : n - 1 - k < n := by omega
      have hn2 : o + (n - 1 - k) = o + n - 1 - k := by omega
      clear hB hB5 ht5 hset ht hlen HH H0 hc
      go_wp2_with fail
      have hcu : (u : Int) / 2 ^ (8 * k) % 256 = (c : Int) := by
        rw [HC.out, Int.natCast_emod, Int.natCast_ediv, Int.natCast_pow, show ((256 : Nat) : Int) ^ k = 2 ^ (8 * k) from by rw [Int.pow_mul]; rfl]
        rfl
      rw [hcu]
      go_roundw
      case rel => exact ⟨k + 1, by omega, by go_num, HB5.out, HT5.out⟩
      case measure => simp [intOf]; omega
    · have hki : ¬ (k : Int) < n := by omega
      obtain rfl : k = n := by omega
      rw [show o + k - k = o by omega] at hB
      clear hlt hk HH H0
      go_wp2_with fail
      go_end0
      exact ⟨rfl, by rw [← List.append_assoc]; exact hB, ht⟩
end Go.Proofs.Ytjdmmnpfjbnhoaa
