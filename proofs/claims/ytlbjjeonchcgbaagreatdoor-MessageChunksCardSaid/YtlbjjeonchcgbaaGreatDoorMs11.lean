/- The statements of layer 8: MessageChunks. -/
import Derived.Test.YtlbjjeonchcgbaaGreatDoorMsS
import Derived.Test.YtlbjjeonchcgbaaGreatDoorQuiet
namespace Go.Proofs.YtlbjjeonchcgbaaGreatDoor
open Go.RowKit

def hexes : ByteArray := ⟨#[48, 49, 50, 51, 52, 53, 54, 55, 56, 57, 97, 98, 99, 100, 101, 102]⟩
theorem hexes_at : ∀ d, d < 16 → hexes.extract d (d + 1) = str [Oct.ch d]
  | 0, _ | 1, _ | 2, _ | 3, _ | 4, _ | 5, _ | 6, _ | 7, _ | 8, _ | 9, _ | 10, _ | 11, _ | 12, _ | 13, _ | 14, _ | 15, _ => by decide +kernel
  | d + 16, h => by omega
theorem str_put (c : UInt8) (l : List UInt8) : str [c] ++ str l = str (c :: l) := by
  rw [← str_of (str [c] ++ str l)]; simp [str_list]
set_option maxHeartbeats 6400000 in
set_option maxRecDepth 100000 in
theorem hex_s (n : Nat) (w : World) (hn : n ≤ 100000) : Calls Tryz.prog 24 #[.int .i64 n] w fun e w' => e = .returned (.string (str (Oct.dgs 16 n))) ∧ Below w.heap.size w w' := by
  have HN := Lib.hid hn
  have HX : Hid (∀ d : Nat, d < 16 → (⟨#[48, 49, 50, 51, 52, 53, 54, 55, 56, 57, 97, 98, 99, 100, 101, 102]⟩ : ByteArray).extract d (d + 1) = str [Oct.ch d]) := Lib.hid hexes_at
  clear hn
  go_enter Tryz.func24, Tryz.ntmps24
  go_wp2_with fail
  go_loopw [0, 3] (fun x s wr => ∃ (v q : Nat) (tl : List UInt8), x = .int .i64 v ∧ s = .string (str tl) ∧ v ≤ n ∧ wr = w.drewN q ∧ Hid (Oct.dgs 16 n = Oct.dgs 16 v ++ tl) ∧ Hid (tl.length + v ≤ n)) (fun x _ _ => (intOf x).toNat)
  case atStart => exact ⟨n, 0, [], rfl, rfl, Nat.le_refl _, rfl, Lib.hid (by simp), Lib.hid (by simp)⟩
  case round =>
    obtain ⟨v, q, tl, rfl, rfl, hv, rfl, HD, HL⟩ := hrel
    obtain ⟨d, hd⟩ : ∃ d, d = v % 16 := ⟨_, rfl⟩
    obtain ⟨u, hu⟩ : ∃ u, u = v / 16 := ⟨_, rfl⟩
    have hn9 := HN.out
    have hd16 : d < 16 := by omega
    have hx := HX.out d hd16
    have t1 : Int.tmod (v : Int) 16 = (d : Int) := by rw [Int.tmod_eq_emod_of_nonneg (by omega)]; omega
    have t2 : Int.tdiv (v : Int) 16 = (u : Int) := by rw [Int.tdiv_eq_ediv_of_nonneg (by omega)]; omega
    have w2 : IntKind.i64.wrap (u : Int) = (u : Int) := by rw [IntKind.wrap_i64]; omega
    have w3 : IntKind.i64.wrap (d : Int) = (d : Int) := by rw [IntKind.wrap_i64]; omega
    have w1 : IntKind.i64.wrap ((d : Int) + 1) = (d : Int) + 1 := by rw [IntKind.wrap_i64]; omega
    have p1 : (0 : Int) ≤ (d : Int) := by omega
    have p2 : (d : Int) + 1 ≤ 16 := by omega
    have hz : (str tl).size ≤ 100000 := by rw [str_size]; have := HL.out; have := HN.out; omega
    have hz1 : (str [Oct.ch d]).size = 1 := by rw [str_size]; rfl
    have hst := str_put (Oct.ch d) tl
    have hsum : ¬ 9223372036854775807 < 1 + (str tl).size := by omega
    by_cases h0 : u = 0
    · have HR : Hid (str (Oct.ch d :: tl) = str (Oct.dgs 16 n)) := Lib.hid (by rw [HD.out, Oct.dgs_last (show v < 16 by omega), hd, Nat.mod_eq_of_lt (show v < 16 by omega)]; rfl)
      generalize str (Oct.ch d :: tl) = T2 at *
      generalize str tl = T1 at *
      generalize str [Oct.ch d] = T0 at *
      have h0u : (u : Int) = 0 := by omega
      rw [h0u] at t2
      clear hd hu HX HN h0 h0u w2 HD
      go_wp2_with fail
      go_ret
      exact ⟨by rw [HR.out]; rfl, bdrewN _ _⟩
    · have hv16 : ¬ v < 16 := by omega
      have h0b : ((u : Int) == 0) = false := beq_eq_false_iff_ne.2 (by omega)
      have HD2 : Hid (Oct.dgs 16 n = Oct.dgs 16 u ++ (Oct.ch d :: tl)) := Lib.hid (by rw [HD.out, Oct.dgs_more (by decide) (show 16 ≤ v by omega), hd, hu]; simp)
      have HL2 : Hid ((Oct.ch d :: tl).length + u ≤ n ∧ u < v) := Lib.hid (by have := HL.out; simp; omega)
      have hun : u ≤ n := by omega
      clear hd hu HD HL hv16
      generalize hT2 : str (Oct.ch d :: tl) = T2 at *
      generalize str tl = T1 at *
      generalize str [Oct.ch d] = T0 at *
      have HT2 := Lib.hid hT2
      clear hT2 h0
      go_wp2_with fail
      go_roundw
      case rel => exact ⟨u, _, Oct.ch d :: tl, rfl, by rw [HT2.out], hun, rfl, HD2, Lib.hid HL2.out.1⟩
      case measure => have := HL2.out.2; simp [intOf]; omega
set_option maxHeartbeats 6400000 in
set_option maxRecDepth 100000 in
theorem chunks_core {a0 a1 a3 : ByteArray} {st mi kd sz er : Int} {fa0 ba : Option Addr} {fc0 n X bc K tc : Nat} {sa ra Q : Bool} {fs : List Fld.F} {x cl hd : List UInt8} {ao : Option Addr} (w : World) (hQ : (st == 0) = Q) (hx : BIn w (.slice ba X bc) x) (hXl : X = x.length) (hcl : BIn w (.slice ao K tc) cl) (hK : K = cl.length)
    (cA : ∀ W, Below w.heap.size w W → Calls Tryz.prog 9 #[] W fun e w' => e = .returned (.bool true) ∧ Below W.heap.size W w')
    (cSa : ∀ W, Below w.heap.size w W → Calls Tryz.prog 13 #[.agg #[.string a0, .string a1, .int .i64 st, .string a3, .int .i64 mi, .slice fa0 n fc0, .slice ba X bc], .string ⟨#[71, 69, 84]⟩] W fun e w' => e = .returned (.bool sa) ∧ Below W.heap.size W w')
    (HH : sa = true → ¬ (50 : Int) < K → X ≤ 3000 ∧ (∀ W, Below w.heap.size w W → Calls Tryz.prog 17 #[.agg #[.string a0, .string a1, .int .i64 st, .string a3, .int .i64 mi, .slice fa0 n fc0, .slice ba X bc], .string ⟨#[71, 69, 84]⟩] W fun e w' => e = .returned (.bool ra) ∧ Below W.heap.size W w') ∧
      (ra = true → mi = 1 → (∀ W, Below w.heap.size w W → Calls Tryz.prog 15 #[.agg #[.string a0, .string a1, .int .i64 st, .string a3, .int .i64 mi, .slice fa0 n fc0, .slice ba X bc], .string ⟨#[71, 69, 84]⟩] W fun e w' => e = .returned (.tuple #[.int .i64 kd, .int .i64 sz, .int .i64 er]) ∧ Below W.heap.size W w') ∧
        (kd = 2 → hd.length ≤ 100000 ∧ (∀ W, Below w.heap.size w W → Calls Tryz.prog 19 #[.agg #[.string a0, .string a1, .int .i64 st, .string a3, .int .i64 mi, .slice fa0 n fc0, .slice none 0 0], .string ⟨#[71, 69, 84]⟩] W fun e w' => e = .returned (.string (str (hd ++ [48, 13, 10, 13, 10]))) ∧ Below W.heap.size W w') ∧
          (∀ (ls : List (List UInt8)) u W, ls.flatten = x → BIn W u (hd ++ ls.flatMap Ck.chunkOf ++ [48, 13, 10, 120, 58, 32, 121, 13, 10, 13, 10]) → NilOk u → Below w.heap.size w W → Calls Tryz.prog 10 #[u, .bool Q, .string ⟨#[71, 69, 84]⟩] W fun e w' => (∃ fa fc ba bc, e = .returned (.tuple #[.agg #[.string a0, .string a1, .int .i64 st, .string a3, .int .i64 mi, .slice fa n fc, .slice ba X bc], .int .i64 ((hd ++ ls.flatMap Ck.chunkOf).length + 11 : Nat), .int .i64 0]) ∧ FIn w' (.slice fa n fc) fs ∧ BIn w' (.slice ba X bc) x ∧ NilOk (.slice ba X bc)) ∧ Below W.heap.size W w') ∧
          (∀ fa9 fc9 ba9 bc9 W, FIn W (.slice fa9 n fc9) fs → BIn W (.slice ba9 X bc9) x → NilOk (.slice ba9 X bc9) → Below w.heap.size w W → Calls Tryz.prog 12 #[.agg #[.string a0, .string a1, .int .i64 st, .string a3, .int .i64 mi, .slice fa9 n fc9, .slice ba9 X bc9], .agg #[.string a0, .string a1, .int .i64 st, .string a3, .int .i64 mi, .slice fa0 n fc0, .slice ba X bc]] W fun e w' => e = .returned (.bool true) ∧ Below W.heap.size W w')))) :
    Calls Tryz.prog 7 #[.agg #[.string a0, .string a1, .int .i64 st, .string a3, .int .i64 mi, .slice fa0 n fc0, .slice ba X bc], .slice ao K tc] w fun e w' => e = .returned (.bool true) ∧ Below w.heap.size w w' := by
  have hK9 : (K : Int) ≤ 9223372036854775807 := by obtain ⟨a, c, h1, h2, h3, _⟩ := hcl; injection h1 with _ h4 h5; omega
  have HX := Lib.hid hx
  have HXL := Lib.hid hXl
  have HCL := Lib.hid hcl
  have HKL := Lib.hid hK
  clear hx hXl hcl hK
  cases sa with
  | false =>
    clear HH hQ
    go_enter Tryz.func7, Tryz.ntmps7
    go_upto_region 1 with fail
    have bA : (w.alloc (.cells #[.string a0, .string a1, .int .i64 st, .string a3, .int .i64 mi, .slice fa0 n fc0, .slice ba X bc] 28)).heap[w.heap.size]? = some (.cells #[.string a0, .string a1, .int .i64 st, .string a3, .int .i64 mi, .slice fa0 n fc0, .slice ba X bc] 28 (0, 0)) := heap_alloc_new w _
    have hb : Below w.heap.size w (w.alloc (.cells #[.string a0, .string a1, .int .i64 st, .string a3, .int .i64 mi, .slice fa0 n fc0, .slice ba X bc] 28)) := (Below.refl _ w).alloc (Nat.le_refl _) _
    generalize w.alloc (.cells #[.string a0, .string a1, .int .i64 st, .string a3, .int .i64 mi, .slice fa0 n fc0, .slice ba X bc] 28) = W0 at *
    obtain ⟨p, hpp⟩ : ∃ q, q = w.heap.size := ⟨_, rfl⟩
    rw [← hpp] at bA ⊢
    have HPP := Lib.hid hpp
    clear hpp
    obtain ⟨c0, c1, c2, c3, c4, c5, c6⟩ := set7 bA
    go_wp2_with fail
    refine (cA _ hb).mono ?_
    rintro q1 w1 ⟨rfl, hq1⟩
    replace bA := blk_later bA hq1
    replace hb := bt5 hb hq1
    clear hq1
    clear c0 c1 c2 c3 c4 c5 c6
    obtain ⟨c0, c1, c2, c3, c4, c5, c6⟩ := set7 bA
    go_wp2_with fail
    refine (cSa _ hb).mono ?_
    rintro q2 w2 ⟨rfl, hq2⟩
    replace bA := blk_later bA hq2
    replace hb := bt5 hb hq2
    clear hq2
    clear c0 c1 c2 c3 c4 c5 c6
    obtain ⟨c0, c1, c2, c3, c4, c5, c6⟩ := set7 bA
    go_wp2_with fail
    refine (cA _ hb).mono ?_
    rintro e9 w9 ⟨rfl, hb9⟩
    have hB := bt5 hb hb9
    go_wp2_with fail
    go_ret
    exact ⟨rfl, by first | exact hB | (rw [HPP.out]; exact hB)⟩
  | true =>
  by_cases h3 : (50 : Int) < K
  · clear HH hQ
    go_enter Tryz.func7, Tryz.ntmps7
    go_upto_region 1 with fail
    have bA : (w.alloc (.cells #[.string a0, .string a1, .int .i64 st, .string a3, .int .i64 mi, .slice fa0 n fc0, .slice ba X bc] 28)).heap[w.heap.size]? = some (.cells #[.string a0, .string a1, .int .i64 st, .string a3, .int .i64 mi, .slice fa0 n fc0, .slice ba X bc] 28 (0, 0)) := heap_alloc_new w _
    have hb : Below w.heap.size w (w.alloc (.cells #[.string a0, .string a1, .int .i64 st, .string a3, .int .i64 mi, .slice fa0 n fc0, .slice ba X bc] 28)) := (Below.refl _ w).alloc (Nat.le_refl _) _
    generalize w.alloc (.cells #[.string a0, .string a1, .int .i64 st, .string a3, .int .i64 mi, .slice fa0 n fc0, .slice ba X bc] 28) = W0 at *
    obtain ⟨p, hpp⟩ : ∃ q, q = w.heap.size := ⟨_, rfl⟩
    rw [← hpp] at bA ⊢
    have HPP := Lib.hid hpp
    clear hpp
    obtain ⟨c0, c1, c2, c3, c4, c5, c6⟩ := set7 bA
    go_wp2_with fail
    refine (cA _ hb).mono ?_
    rintro q1 w1 ⟨rfl, hq1⟩
    replace bA := blk_later bA hq1
    replace hb := bt5 hb hq1
    clear hq1
    clear c0 c1 c2 c3 c4 c5 c6
    obtain ⟨c0, c1, c2, c3, c4, c5, c6⟩ := set7 bA
    go_wp2_with fail
    refine (cSa _ hb).mono ?_
    rintro q2 w2 ⟨rfl, hq2⟩
    replace bA := blk_later bA hq2
    replace hb := bt5 hb hq2
    clear hq2
    clear c0 c1 c2 c3 c4 c5 c6
    obtain ⟨c0, c1, c2, c3, c4, c5, c6⟩ := set7 bA
    go_wp2_with fail
    refine (cA _ hb).mono ?_
    rintro e9 w9 ⟨rfl, hb9⟩
    have hB := bt5 hb hb9
    go_wp2_with fail
    go_ret
    exact ⟨rfl, by first | exact hB | (rw [HPP.out]; exact hB)⟩
  obtain ⟨hX9, cR, HT⟩ := HH rfl h3
  clear HH
  cases ra with
  | false =>
    clear HT hQ hX9
    go_enter Tryz.func7, Tryz.ntmps7
    go_upto_region 1 with fail
    have bA : (w.alloc (.cells #[.string a0, .string a1, .int .i64 st, .string a3, .int .i64 mi, .slice fa0 n fc0, .slice ba X bc] 28)).heap[w.heap.size]? = some (.cells #[.string a0, .string a1, .int .i64 st, .string a3, .int .i64 mi, .slice fa0 n fc0, .slice ba X bc] 28 (0, 0)) := heap_alloc_new w _
    have hb : Below w.heap.size w (w.alloc (.cells #[.string a0, .string a1, .int .i64 st, .string a3, .int .i64 mi, .slice fa0 n fc0, .slice ba X bc] 28)) := (Below.refl _ w).alloc (Nat.le_refl _) _
    generalize w.alloc (.cells #[.string a0, .string a1, .int .i64 st, .string a3, .int .i64 mi, .slice fa0 n fc0, .slice ba X bc] 28) = W0 at *
    obtain ⟨p, hpp⟩ : ∃ q, q = w.heap.size := ⟨_, rfl⟩
    rw [← hpp] at bA ⊢
    have HPP := Lib.hid hpp
    clear hpp
    obtain ⟨c0, c1, c2, c3, c4, c5, c6⟩ := set7 bA
    go_wp2_with fail
    refine (cA _ hb).mono ?_
    rintro q1 w1 ⟨rfl, hq1⟩
    replace bA := blk_later bA hq1
    replace hb := bt5 hb hq1
    clear hq1
    clear c0 c1 c2 c3 c4 c5 c6
    obtain ⟨c0, c1, c2, c3, c4, c5, c6⟩ := set7 bA
    go_wp2_with fail
    refine (cSa _ hb).mono ?_
    rintro q2 w2 ⟨rfl, hq2⟩
    replace bA := blk_later bA hq2
    replace hb := bt5 hb hq2
    clear hq2
    clear c0 c1 c2 c3 c4 c5 c6
    obtain ⟨c0, c1, c2, c3, c4, c5, c6⟩ := set7 bA
    go_wp2_with fail
    refine (cR _ hb).mono ?_
    rintro q3 w3 ⟨rfl, hq3⟩
    replace bA := blk_later bA hq3
    replace hb := bt5 hb hq3
    clear hq3
    clear c0 c1 c2 c3 c4 c5 c6
    obtain ⟨c0, c1, c2, c3, c4, c5, c6⟩ := set7 bA
    go_wp2_with fail
    refine (cA _ hb).mono ?_
    rintro e9 w9 ⟨rfl, hb9⟩
    have hB := bt5 hb hb9
    go_wp2_with fail
    go_ret
    exact ⟨rfl, by first | exact hB | (rw [HPP.out]; exact hB)⟩
  | true =>
  by_cases hm : mi = 1
  case neg =>
    have hm' : (mi != 1) = true := by simpa using hm
    clear HT hQ hX9 hm
    go_enter Tryz.func7, Tryz.ntmps7
    go_upto_region 1 with fail
    have bA : (w.alloc (.cells #[.string a0, .string a1, .int .i64 st, .string a3, .int .i64 mi, .slice fa0 n fc0, .slice ba X bc] 28)).heap[w.heap.size]? = some (.cells #[.string a0, .string a1, .int .i64 st, .string a3, .int .i64 mi, .slice fa0 n fc0, .slice ba X bc] 28 (0, 0)) := heap_alloc_new w _
    have hb : Below w.heap.size w (w.alloc (.cells #[.string a0, .string a1, .int .i64 st, .string a3, .int .i64 mi, .slice fa0 n fc0, .slice ba X bc] 28)) := (Below.refl _ w).alloc (Nat.le_refl _) _
    generalize w.alloc (.cells #[.string a0, .string a1, .int .i64 st, .string a3, .int .i64 mi, .slice fa0 n fc0, .slice ba X bc] 28) = W0 at *
    obtain ⟨p, hpp⟩ : ∃ q, q = w.heap.size := ⟨_, rfl⟩
    rw [← hpp] at bA ⊢
    have HPP := Lib.hid hpp
    clear hpp
    obtain ⟨c0, c1, c2, c3, c4, c5, c6⟩ := set7 bA
    go_wp2_with fail
    refine (cA _ hb).mono ?_
    rintro q1 w1 ⟨rfl, hq1⟩
    replace bA := blk_later bA hq1
    replace hb := bt5 hb hq1
    clear hq1
    clear c0 c1 c2 c3 c4 c5 c6
    obtain ⟨c0, c1, c2, c3, c4, c5, c6⟩ := set7 bA
    go_wp2_with fail
    refine (cSa _ hb).mono ?_
    rintro q2 w2 ⟨rfl, hq2⟩
    replace bA := blk_later bA hq2
    replace hb := bt5 hb hq2
    clear hq2
    clear c0 c1 c2 c3 c4 c5 c6
    obtain ⟨c0, c1, c2, c3, c4, c5, c6⟩ := set7 bA
    go_wp2_with fail
    refine (cR _ hb).mono ?_
    rintro q3 w3 ⟨rfl, hq3⟩
    replace bA := blk_later bA hq3
    replace hb := bt5 hb hq3
    clear hq3
    clear c0 c1 c2 c3 c4 c5 c6
    obtain ⟨c0, c1, c2, c3, c4, c5, c6⟩ := set7 bA
    go_wp2_with fail
    refine (cA _ hb).mono ?_
    rintro e9 w9 ⟨rfl, hb9⟩
    have hB := bt5 hb hb9
    go_wp2_with fail
    go_ret
    exact ⟨rfl, by first | exact hB | (rw [HPP.out]; exact hB)⟩
  case pos =>
  obtain ⟨cF, HT⟩ := HT rfl hm
  subst hm
  by_cases hk : kd = 2
  case neg =>
    have hk' : (kd != 2) = true := by simpa using hk
    clear HT hQ hX9 hk
    go_enter Tryz.func7, Tryz.ntmps7
    go_upto_region 1 with fail
    have bA : (w.alloc (.cells #[.string a0, .string a1, .int .i64 st, .string a3, .int .i64 1, .slice fa0 n fc0, .slice ba X bc] 28)).heap[w.heap.size]? = some (.cells #[.string a0, .string a1, .int .i64 st, .string a3, .int .i64 1, .slice fa0 n fc0, .slice ba X bc] 28 (0, 0)) := heap_alloc_new w _
    have hb : Below w.heap.size w (w.alloc (.cells #[.string a0, .string a1, .int .i64 st, .string a3, .int .i64 1, .slice fa0 n fc0, .slice ba X bc] 28)) := (Below.refl _ w).alloc (Nat.le_refl _) _
    generalize w.alloc (.cells #[.string a0, .string a1, .int .i64 st, .string a3, .int .i64 1, .slice fa0 n fc0, .slice ba X bc] 28) = W0 at *
    obtain ⟨p, hpp⟩ : ∃ q, q = w.heap.size := ⟨_, rfl⟩
    rw [← hpp] at bA ⊢
    have HPP := Lib.hid hpp
    clear hpp
    obtain ⟨c0, c1, c2, c3, c4, c5, c6⟩ := set7 bA
    go_wp2_with fail
    refine (cA _ hb).mono ?_
    rintro q1 w1 ⟨rfl, hq1⟩
    replace bA := blk_later bA hq1
    replace hb := bt5 hb hq1
    clear hq1
    clear c0 c1 c2 c3 c4 c5 c6
    obtain ⟨c0, c1, c2, c3, c4, c5, c6⟩ := set7 bA
    go_wp2_with fail
    refine (cSa _ hb).mono ?_
    rintro q2 w2 ⟨rfl, hq2⟩
    replace bA := blk_later bA hq2
    replace hb := bt5 hb hq2
    clear hq2
    clear c0 c1 c2 c3 c4 c5 c6
    obtain ⟨c0, c1, c2, c3, c4, c5, c6⟩ := set7 bA
    go_wp2_with fail
    refine (cR _ hb).mono ?_
    rintro q3 w3 ⟨rfl, hq3⟩
    replace bA := blk_later bA hq3
    replace hb := bt5 hb hq3
    clear hq3
    clear c0 c1 c2 c3 c4 c5 c6
    obtain ⟨c0, c1, c2, c3, c4, c5, c6⟩ := set7 bA
    go_wp2_with fail
    refine (cF _ hb).mono ?_
    rintro q4 w4 ⟨rfl, hq4⟩
    replace bA := blk_later bA hq4
    replace hb := bt5 hb hq4
    clear hq4
    clear c0 c1 c2 c3 c4 c5 c6
    obtain ⟨c0, c1, c2, c3, c4, c5, c6⟩ := set7 bA
    go_wp2_with fail
    go_ret
    exact ⟨rfl, by first | exact hb | (rw [HPP.out]; exact hb)⟩
  case pos =>
  subst hk
  obtain ⟨hd9, cP, cX, cE⟩ := HT rfl
  have h3b : decide ((50 : Int) < (K : Int)) = false := decide_eq_false h3
  have HK50 : Hid (K ≤ 50) := Lib.hid (by omega)
  clear h3
  clear HT
  go_enter Tryz.func7, Tryz.ntmps7
  go_upto_region 1 with fail
  have bA : (w.alloc (.cells #[.string a0, .string a1, .int .i64 st, .string a3, .int .i64 1, .slice fa0 n fc0, .slice ba X bc] 28)).heap[w.heap.size]? = some (.cells #[.string a0, .string a1, .int .i64 st, .string a3, .int .i64 1, .slice fa0 n fc0, .slice ba X bc] 28 (0, 0)) := heap_alloc_new w _
  have hb : Below w.heap.size w (w.alloc (.cells #[.string a0, .string a1, .int .i64 st, .string a3, .int .i64 1, .slice fa0 n fc0, .slice ba X bc] 28)) := (Below.refl _ w).alloc (Nat.le_refl _) _
  generalize w.alloc (.cells #[.string a0, .string a1, .int .i64 st, .string a3, .int .i64 1, .slice fa0 n fc0, .slice ba X bc] 28) = W0 at *
  obtain ⟨p, hpp⟩ : ∃ q, q = w.heap.size := ⟨_, rfl⟩
  rw [← hpp] at bA ⊢
  have HPP := Lib.hid hpp
  clear hpp
  obtain ⟨c0, c1, c2, c3, c4, c5, c6⟩ := set7 bA
  go_wp2_with fail
  refine (cA _ hb).mono ?_
  rintro q1 w1 ⟨rfl, hq1⟩
  replace bA := blk_later bA hq1
  replace hb := bt5 hb hq1
  clear hq1
  clear c0 c1 c2 c3 c4 c5 c6
  obtain ⟨c0, c1, c2, c3, c4, c5, c6⟩ := set7 bA
  go_wp2_with fail
  refine (cSa _ hb).mono ?_
  rintro q2 w2 ⟨rfl, hq2⟩
  replace bA := blk_later bA hq2
  replace hb := bt5 hb hq2
  clear hq2
  clear c0 c1 c2 c3 c4 c5 c6
  obtain ⟨c0, c1, c2, c3, c4, c5, c6⟩ := set7 bA
  go_wp2_with fail
  refine (cR _ hb).mono ?_
  rintro q3 w3 ⟨rfl, hq3⟩
  replace bA := blk_later bA hq3
  replace hb := bt5 hb hq3
  clear hq3
  clear c0 c1 c2 c3 c4 c5 c6
  obtain ⟨c0, c1, c2, c3, c4, c5, c6⟩ := set7 bA
  go_wp2_with fail
  refine (cF _ hb).mono ?_
  rintro q4 w4 ⟨rfl, hq4⟩
  replace bA := blk_later bA hq4
  replace hb := bt5 hb hq4
  clear hq4
  clear c0 c1 c2 c3 c4 c5 c6
  obtain ⟨c0, c1, c2, c3, c4, c5, c6⟩ := set7 bA
  clear cA cSa cR cF
  have hs5 : (str (hd ++ [48, 13, 10, 13, 10])).size = hd.length + 5 := by rw [str_size]; simp
  obtain ⟨H, hH⟩ : ∃ H, H = hd.length := ⟨_, rfl⟩
  rw [← hH] at hs5 hd9
  have hcut : (str (hd ++ [48, 13, 10, 13, 10])).extract 0 H = str hd := by
    rw [← str_of ((str (hd ++ [48, 13, 10, 13, 10])).extract 0 H)]
    congr 1
    rw [ByteArray.data_extract, Array.toList_extract, List.extract_eq_take_drop, str_list, hH]
    simp
  have HH5 := Lib.hid hH
  generalize str (hd ++ [48, 13, 10, 13, 10]) = S5 at *
  obtain ⟨S6, hS6⟩ : ∃ S6, S6 = str hd := ⟨_, rfl⟩
  rw [← hS6] at hcut
  have hsub : IntKind.i64.wrap (((H + 5 : Nat) : Int) - 5) = (H : Int) := by rw [IntKind.wrap_i64]; omega
  have hsub2 : IntKind.i64.wrap ((H : Int) + 5 - 5) = (H : Int) := by rw [IntKind.wrap_i64]; omega
  have hH0 : (0 : Int) ≤ (H : Int) := by omega
  have hH5 : (H : Int) ≤ (H : Int) + 5 := by omega
  have HS6 := Lib.hid hS6
  clear hS6 hH
  go_wp2_with fail
  refine (cP _ hb).mono ?_
  rintro q5 w5 ⟨rfl, hq5⟩
  replace bA := blk_later bA hq5
  replace hb := bt5 hb hq5
  clear hq5 cP c0 c1 c2 c3 c4 c5 c6
  go_upto_region 10 with fail
  have HBA0 := Lib.hid bA
  have HB0 := Lib.hid hb
  go_loopw [8, 9, 10] (fun s at_ i wr => ∃ (ls : List (List UInt8)) (AT I : Nat), s = .string (str (hd ++ ls.flatMap Ck.chunkOf)) ∧ at_ = .int .i64 AT ∧ i = .int .i64 I ∧ AT ≤ X ∧ I ≤ K + 1 ∧ Hid (I ≤ K ∨ AT = X) ∧ wr.heap[p]? = some (.cells #[.string a0, .string a1, .int .i64 st, .string a3, .int .i64 1, .slice fa0 n fc0, .slice ba X bc] 28 (0, 0)) ∧ Below w.heap.size w wr ∧ Hid (ls.flatten = x.take AT) ∧ Hid ((hd ++ ls.flatMap Ck.chunkOf).length ≤ hd.length + 11 * AT)) (fun _ _ i _ => K + 1 - (intOf i).toNat)
  case atStart => exact ⟨[], 0, 0, by rw [HS6.out]; simp, rfl, rfl, Nat.zero_le _, Nat.zero_le _, Lib.hid (.inl (Nat.zero_le _)), HBA0.out, HB0.out, Lib.hid (by simp), Lib.hid (by simp)⟩
  case round =>
    clear bA hb HBA0 HB0
    obtain ⟨ls, AT, I, rfl, rfl, rfl, hA9, hI9, HIK, hbA, hbW, HLS, HLEN⟩ := hrel
    obtain ⟨wq, hwq⟩ : ∃ wq, wr = wq := ⟨_, rfl⟩
    rw [hwq] at hbA hbW ⊢
    clear hwq
    have hI0 : (0 : Int) ≤ (I : Int) := by omega
    have hA0 : (0 : Int) ≤ (AT : Int) := by omega
    by_cases hI : I ≤ K
    case neg =>
      have hIi : ¬ (I : Int) ≤ (K : Int) := by omega
      clear hI9
      have hAX : X = AT := by have := HIK.out; omega
      subst hAX
      have hfl : ls.flatten = x := by rw [HLS.out, HXL.out, List.take_length]
      have HPX := Lib.hid (fun u W => cX ls u W hfl)
      obtain ⟨SL, hSL⟩ : ∃ SL, SL = (hd ++ ls.flatMap Ck.chunkOf).length := ⟨_, rfl⟩
      obtain ⟨S, hS⟩ : ∃ S, S = str (hd ++ ls.flatMap Ck.chunkOf) := ⟨_, rfl⟩
      have hSz : S.size = SL := by rw [hS, str_size, hSL]
      have hSd : S.data.toList = hd ++ ls.flatMap Ck.chunkOf := by rw [hS, str_list]
      have hSL9 : SL ≤ 140000 := by have := HLEN.out; have := HH5.out; rw [hSL]; omega
      obtain ⟨T, hT⟩ : ∃ T, S ++ (⟨#[48, 13, 10, 120, 58, 32, 121, 13, 10, 13, 10]⟩ : ByteArray) = T := ⟨_, rfl⟩
      obtain ⟨M, hM⟩ : ∃ M, SL + 11 = M := ⟨_, rfl⟩
      have hTs : T.size = M := by rw [← hT, ByteArray.size_append, hSz, ← hM]; rfl
      have hTd : T.data.toList = hd ++ ls.flatMap Ck.chunkOf ++ [48, 13, 10, 120, 58, 32, 121, 13, 10, 13, 10] := by rw [← hT]; simp [hSd]
      have HO := Lib.hid (fun W => tx_run T _ hTd M hTs W (by omega))
      rw [← hS]
      rw [← hSL, hM] at HPX
      generalize hd ++ ls.flatMap Ck.chunkOf ++ [48, 13, 10, 120, 58, 32, 121, 13, 10, 13, 10] = lt at *
      have hsum : ¬ 9223372036854775807 < S.size + 11 := by omega
      have hsum2 : ¬ 9223372036854775807 < SL + 11 := by omega
      have hw : IntKind.i64.wrap ((SL : Int) + 11) = (M : Int) := by rw [IntKind.wrap_i64]; omega
      have hw2 : (SL : Int) + 11 = (M : Int) := by omega
      have hSi : (S.size : Int) ≤ 140000 := by omega
      clear hfl hSL hS hSd hM hTs hTd HIK HLS HLEN cX HS6 hsub hsub2 hcut hH5 hH0
      obtain ⟨c0, c1, c2, c3, c4, c5, c6⟩ := set7 hbA
      go_upto_region 17 with fail
      have HBA := Lib.hid hbA
      have HBW := Lib.hid hbW
      generalize hWX : wq = WX at *
      obtain ⟨cc, w7, hcv, hI, hb7⟩ := HO.out WX
      have bA7 := blk_later HBA.out hb7
      obtain ⟨_, _, k2, _, _, _, _⟩ := set7 bA7
      have hb := bt5 HBW.out hb7
      have cP := HPX.out _ w7 hI (nil_ok _ _ _) hb
      clear hI HPX HO hb7 c0 c1 c2 c3 c4 c5 c6 hbA hbW HBA HBW
      go_wp2_with fail
      refine cP.mono ?_
      rintro e7 w8 ⟨⟨fa9, fc9, ba9, bc9, rfl, hf9, hx9, hn9⟩, hb8⟩
      have bA := blk_later bA7 hb8
      replace hb := bt5 hb hb8
      clear bA7 k2 hb8 cP hcv hT
      go_upto_region 18 with fail
      have y9 : (w8.alloc (.cells #[.string a0, .string a1, .int .i64 st, .string a3, .int .i64 1, .slice fa9 n fc9, .slice ba9 X bc9] 28)).heap[w8.heap.size]? = some (.cells #[.string a0, .string a1, .int .i64 st, .string a3, .int .i64 1, .slice fa9 n fc9, .slice ba9 X bc9] 28 (0, 0)) := heap_alloc_new w8 _
      have hb9 : Below w8.heap.size w8 (w8.alloc (.cells #[.string a0, .string a1, .int .i64 st, .string a3, .int .i64 1, .slice fa9 n fc9, .slice ba9 X bc9] 28)) := (Below.refl _ w8).alloc (Nat.le_refl _) _
      generalize w8.alloc (.cells #[.string a0, .string a1, .int .i64 st, .string a3, .int .i64 1, .slice fa9 n fc9, .slice ba9 X bc9] 28) = w9 at *
      generalize w8.heap.size = g9 at y9 ⊢
      replace bA := blk_later bA hb9
      replace hf9 := hf9.later hb9
      replace hx9 := hx9.later hb9
      replace hb := bt5 hb hb9
      have cE9 := cE fa9 fc9 ba9 bc9 w9 hf9 hx9 hn9 hb
      clear hb9 hf9 hx9 hn9 cE
      obtain ⟨c0, c1, c2, c3, c4, c5, c6⟩ := set7 bA
      obtain ⟨k0, k1, k2, k3, k4, k5, k6⟩ := set7 y9
      clear y9 bA
      go_wp2_with fail
      refine cE9.mono ?_
      rintro e10 w10 ⟨rfl, hb10⟩
      have hB := bt5 hb hb10
      go_wp2_with fail
      go_ret
      exact ⟨rfl, by first | exact hB | (rw [HPP.out]; exact hB)⟩
    by_cases hA : AT < X
    case neg =>
      have hIi : (I : Int) ≤ (K : Int) := by omega
      have hAi : ¬ (AT : Int) < (X : Int) := by omega
      have hAX : X = AT := by have := HIK.out; omega
      subst hAX
      have hfl : ls.flatten = x := by rw [HLS.out, HXL.out, List.take_length]
      have HPX := Lib.hid (fun u W => cX ls u W hfl)
      obtain ⟨SL, hSL⟩ : ∃ SL, SL = (hd ++ ls.flatMap Ck.chunkOf).length := ⟨_, rfl⟩
      obtain ⟨S, hS⟩ : ∃ S, S = str (hd ++ ls.flatMap Ck.chunkOf) := ⟨_, rfl⟩
      have hSz : S.size = SL := by rw [hS, str_size, hSL]
      have hSd : S.data.toList = hd ++ ls.flatMap Ck.chunkOf := by rw [hS, str_list]
      have hSL9 : SL ≤ 140000 := by have := HLEN.out; have := HH5.out; rw [hSL]; omega
      obtain ⟨T, hT⟩ : ∃ T, S ++ (⟨#[48, 13, 10, 120, 58, 32, 121, 13, 10, 13, 10]⟩ : ByteArray) = T := ⟨_, rfl⟩
      obtain ⟨M, hM⟩ : ∃ M, SL + 11 = M := ⟨_, rfl⟩
      have hTs : T.size = M := by rw [← hT, ByteArray.size_append, hSz, ← hM]; rfl
      have hTd : T.data.toList = hd ++ ls.flatMap Ck.chunkOf ++ [48, 13, 10, 120, 58, 32, 121, 13, 10, 13, 10] := by rw [← hT]; simp [hSd]
      have HO := Lib.hid (fun W => tx_run T _ hTd M hTs W (by omega))
      rw [← hS]
      rw [← hSL, hM] at HPX
      generalize hd ++ ls.flatMap Ck.chunkOf ++ [48, 13, 10, 120, 58, 32, 121, 13, 10, 13, 10] = lt at *
      have hsum : ¬ 9223372036854775807 < S.size + 11 := by omega
      have hsum2 : ¬ 9223372036854775807 < SL + 11 := by omega
      have hw : IntKind.i64.wrap ((SL : Int) + 11) = (M : Int) := by rw [IntKind.wrap_i64]; omega
      have hw2 : (SL : Int) + 11 = (M : Int) := by omega
      have hSi : (S.size : Int) ≤ 140000 := by omega
      clear hfl hSL hS hSd hM hTs hTd HIK HLS HLEN cX HS6 hsub hsub2 hcut hH5 hH0
      obtain ⟨c0, c1, c2, c3, c4, c5, c6⟩ := set7 hbA
      go_upto_region 17 with fail
      have HBA := Lib.hid hbA
      have HBW := Lib.hid hbW
      generalize hWX : wq = WX at *
      obtain ⟨cc, w7, hcv, hI, hb7⟩ := HO.out WX
      have bA7 := blk_later HBA.out hb7
      obtain ⟨_, _, k2, _, _, _, _⟩ := set7 bA7
      have hb := bt5 HBW.out hb7
      have cP := HPX.out _ w7 hI (nil_ok _ _ _) hb
      clear hI HPX HO hb7 c0 c1 c2 c3 c4 c5 c6 hbA hbW HBA HBW
      go_wp2_with fail
      refine cP.mono ?_
      rintro e7 w8 ⟨⟨fa9, fc9, ba9, bc9, rfl, hf9, hx9, hn9⟩, hb8⟩
      have bA := blk_later bA7 hb8
      replace hb := bt5 hb hb8
      clear bA7 k2 hb8 cP hcv hT
      go_upto_region 18 with fail
      have y9 : (w8.alloc (.cells #[.string a0, .string a1, .int .i64 st, .string a3, .int .i64 1, .slice fa9 n fc9, .slice ba9 X bc9] 28)).heap[w8.heap.size]? = some (.cells #[.string a0, .string a1, .int .i64 st, .string a3, .int .i64 1, .slice fa9 n fc9, .slice ba9 X bc9] 28 (0, 0)) := heap_alloc_new w8 _
      have hb9 : Below w8.heap.size w8 (w8.alloc (.cells #[.string a0, .string a1, .int .i64 st, .string a3, .int .i64 1, .slice fa9 n fc9, .slice ba9 X bc9] 28)) := (Below.refl _ w8).alloc (Nat.le_refl _) _
      generalize w8.alloc (.cells #[.string a0, .string a1, .int .i64 st, .string a3, .int .i64 1, .slice fa9 n fc9, .slice ba9 X bc9] 28) = w9 at *
      generalize w8.heap.size = g9 at y9 ⊢
      replace bA := blk_later bA hb9
      replace hf9 := hf9.later hb9
      replace hx9 := hx9.later hb9
      replace hb := bt5 hb hb9
      have cE9 := cE fa9 fc9 ba9 bc9 w9 hf9 hx9 hn9 hb
      clear hb9 hf9 hx9 hn9 cE
      obtain ⟨c0, c1, c2, c3, c4, c5, c6⟩ := set7 bA
      obtain ⟨k0, k1, k2, k3, k4, k5, k6⟩ := set7 y9
      clear y9 bA
      go_wp2_with fail
      refine cE9.mono ?_
      rintro e10 w10 ⟨rfl, hb10⟩
      have hB := bt5 hb hb10
      go_wp2_with fail
      go_ret
      exact ⟨rfl, by first | exact hB | (rw [HPP.out]; exact hB)⟩
    have HIX := Lib.hid (⟨hI, hA⟩ : I ≤ K ∧ AT < X)
    have hIi : (I : Int) ≤ (K : Int) := by omega
    have hAi : (AT : Int) < (X : Int) := by omega
    have hXL := HXL.out
    obtain ⟨R, hR⟩ : ∃ R, R = X - AT := ⟨_, rfl⟩
    have hR1 : 1 ≤ R := by omega
    have hsR : IntKind.i64.wrap ((X : Int) - (AT : Int)) = (R : Int) := by rw [IntKind.wrap_i64]; omega
    have hsR2 : (X : Int) - (AT : Int) = (R : Int) := by omega
    have hRX : AT + R = X := by omega
    have hNN : ∃ N : Nat, 1 ≤ N ∧ N ≤ R ∧ (I = K → N = R) ∧ (I < K → ∃ (cc b2 o2 : Nat), cc < 256 ∧ ao = some ⟨b2, o2, none⟩ ∧ wq.cell? ⟨b2, o2 + I, none⟩ = some (.int .u8 cc) ∧ N = min R (1 + cc)) := by
      by_cases hlt : I < K
      · obtain ⟨a3, c3, e3, l3, m3, h3⟩ := HCL.out.later hbW
        injection e3 with e31 e32 e33
        rcases h3 with h3 | ⟨b2, o2, h3, hbl, hc⟩
        · have := HKL.out; rw [h3] at this; simp at this; omega
        · have hk : I < cl.length := by rw [← HKL.out]; exact hlt
          refine ⟨min R (1 + cl[I].toNat), by omega, by omega, by omega, fun _ => ⟨cl[I].toNat, b2, o2, cl[I].toNat_lt, by rw [e31, h3], hc I hk, rfl⟩⟩
      · exact ⟨R, by omega, by omega, fun _ => rfl, fun h => absurd h hlt⟩
    obtain ⟨N, hN1, hN2, hNK, hNC⟩ := hNN
    have HNK := Lib.hid hNK
    have HNC := Lib.hid hNC
    clear hNK hNC hR hXL
    obtain ⟨c0, c1, c2, c3, c4, c5, c6⟩ := set7 hbA
    clear c0 c1 c2 c3 c4 c5
    have HBA := Lib.hid hbA
    have HBW := Lib.hid hbW
    clear hbA hbW
    go_upto_region 13 with fail
    obtain ⟨tb, htb⟩ : ∃ tb, decide (I < K) = tb := ⟨_, rfl⟩
    go_cut [79] (fun x79 wx => x79 = .bool tb ∧ wq = wx)
    case first =>
      by_cases hlt : I < K
      · have hlti : (I : Int) < (K : Int) := by omega
        have htb2 : tb = true := by rw [← htb]; exact decide_eq_true hlt
        subst htb2
        clear htb hlt HNK HNC
        go_wp2_with fail
        go_meet
        case rel => exact ⟨rfl, rfl⟩
      · have hlti : ¬ (I : Int) < (K : Int) := by omega
        have htb2 : tb = false := by rw [← htb]; exact decide_eq_false hlt
        subst htb2
        clear htb hlt HNK HNC
        go_wp2_with fail
        go_meet
        case rel => exact ⟨rfl, rfl⟩
    case rest =>
    obtain ⟨rfl, rfl⟩ := hcut
    go_upto_if 79 with fail
    go_cut [11] (fun x11 wx => x11 = .int .i64 N ∧ wq = wx)
    case first =>
      cases tb with
      | true =>
        obtain ⟨cc, b2, o2, h256, rfl, hcell, hN⟩ := HNC.out (of_decide_eq_true htb)
        have hlti : (I : Int) < (K : Int) := by have := of_decide_eq_true htb; omega
        have hm : min (R : Int) (1 + (cc : Int)) = (N : Int) := by omega
        have hw1 : IntKind.i64.wrap (1 + (cc : Int)) = 1 + (cc : Int) := by rw [IntKind.wrap_i64]; omega
        clear hN HNK HNC htb
        go_wp2_with fail
        go_meet
        case rel => exact ⟨rfl, rfl⟩
      | false =>
        have hNR : N = R := HNK.out (by have := of_decide_eq_false htb; omega)
        subst hNR
        clear HNK HNC htb
        go_wp2_with fail
        go_meet
        case rel => exact ⟨rfl, rfl⟩
    case rest =>
      obtain ⟨rfl, rfl⟩ := hcut
      clear htb
      obtain ⟨ad, rfl⟩ : ∃ ad, ba = some ad := by
        obtain ⟨a3, c3, e3, l3, m3, h3⟩ := HX.out
        injection e3 with e31 e32 e33
        rcases h3 with h3 | ⟨b2, o2, h3, hbl, hc⟩
        · have := HXL.out; rw [h3] at this; simp at this; omega
        · exact ⟨_, e31.trans h3⟩
      have hbcX : X ≤ bc ∧ bc ≤ 9223372036854775807 := by
        obtain ⟨a3, c3, e3, l3, m3, h3⟩ := HX.out
        injection e3 with e31 e32 e33
        omega
      obtain ⟨E, hE⟩ : ∃ E, AT + N = E := ⟨_, rfl⟩
      have hEX : E ≤ X := by omega
      have hEl : E ≤ x.length := by rw [← HXL.out]; exact hEX
      have hwE : IntKind.i64.wrap ((AT : Int) + (N : Int)) = (E : Int) := by rw [IntKind.wrap_i64]; omega
      have hwE2 : IntKind.i64.wrap (E : Int) = (E : Int) := by rw [IntKind.wrap_i64]; omega
      have hE0 : (0 : Int) ≤ (E : Int) := by omega
      have hAEn : AT ≤ E := by omega
      have hAE : (AT : Int) ≤ (E : Int) := by omega
      have hEc : (E : Int) ≤ (bc : Int) := by omega
      have hcn : ¬ bc = AT := by omega
      have hmid := (HX.out.later HBW.out).mid AT E (by omega) hEl
      rw [if_neg hcn] at hmid
      obtain ⟨P, hP⟩ : ∃ P, P = (x.take E).drop AT := ⟨_, rfl⟩
      rw [← hP] at hmid
      have hPl : P.length = N := by rw [hP, List.length_drop, List.length_take]; omega
      have hP0 : P ≠ [] := by intro h; rw [h] at hPl; simp at hPl; omega
      have HPF : Hid ((ls ++ [P]).flatten = x.take E) := Lib.hid (by
        rw [List.flatten_append, HLS.out, hP]
        simp only [List.flatten_cons, List.flatten_nil, List.append_nil]
        have h := List.take_append_drop AT (x.take E)
        rw [List.take_take, Nat.min_eq_left (by omega)] at h
        exact h)
      have hdz : (Oct.dgs 16 N).length ≤ 4 := Ck.hex_len 3 N (by omega)
      have hCO : Ck.chunkOf P = Oct.dgs 16 N ++ [13, 10] ++ P ++ [13, 10] := by
        unfold Ck.chunkOf
        rw [if_neg hP0, hPl]
        rfl
      have HLEN2 : Hid ((hd ++ (ls ++ [P]).flatMap Ck.chunkOf).length ≤ hd.length + 11 * E) := Lib.hid (by
        have h1 := HLEN.out
        simp only [List.length_append, List.flatMap_append, List.flatMap_cons, List.flatMap_nil, List.append_nil, hCO, List.length_cons, List.length_nil] at h1 ⊢
        omega)
      obtain ⟨S, hS⟩ : ∃ S, S = str (hd ++ ls.flatMap Ck.chunkOf) := ⟨_, rfl⟩
      obtain ⟨D, hD⟩ : ∃ D, D = str (Oct.dgs 16 N) := ⟨_, rfl⟩
      obtain ⟨B, hB⟩ : ∃ B, B = str P := ⟨_, rfl⟩
      obtain ⟨U1, hU1⟩ : ∃ U1, D ++ (⟨#[13, 10]⟩ : ByteArray) = U1 := ⟨_, rfl⟩
      obtain ⟨U2, hU2⟩ : ∃ U2, U1 ++ B = U2 := ⟨_, rfl⟩
      obtain ⟨U3, hU3⟩ : ∃ U3, U2 ++ (⟨#[13, 10]⟩ : ByteArray) = U3 := ⟨_, rfl⟩
      obtain ⟨U4, hU4⟩ : ∃ U4, S ++ U3 = U4 := ⟨_, rfl⟩
      have HU4 : Hid (U4 = str (hd ++ (ls ++ [P]).flatMap Ck.chunkOf)) := Lib.hid (by
        rw [← str_of U4, ← hU4, ← hU3, ← hU2, ← hU1, hS, hD, hB]
        congr 1
        simp [str_list, List.flatMap_append, hCO])
      have zS : (S.size : Int) ≤ 140000 := by have := HLEN.out; have := HH5.out; rw [hS, str_size]; omega
      have zD : (D.size : Int) ≤ 4 := by rw [hD, str_size]; omega
      have zB : (B.size : Int) ≤ 3000 := by rw [hB, str_size]; omega
      have z1 : U1.size = D.size + 2 := by rw [← hU1, ByteArray.size_append]; rfl
      have z2 : U2.size = U1.size + B.size := by rw [← hU2, ByteArray.size_append]
      have z3 : U3.size = U2.size + 2 := by rw [← hU3, ByteArray.size_append]; rfl
      have s1 : ¬ 9223372036854775807 < D.size + 2 := by omega
      have s2 : ¬ 9223372036854775807 < U1.size + B.size := by omega
      have s3 : ¬ 9223372036854775807 < U2.size + 2 := by omega
      have s4 : ¬ 9223372036854775807 < S.size + U3.size := by omega
      have l1 := fun pp : LateOf wq => hex_s N pp.w (by omega)
      rw [← hD] at l1
      have m6 := fun pp : LateOf wq => pp.cell c6
      have cv := fun pp : LateOf wq => (hmid.later pp.h).all (fun _ h => by injection h with h; cases h)
      rw [← hB] at cv
      rw [← hS]
      clear c6 hmid hP hPl hP0 hdz hCO hS hD hB z1 z2 z3 HLEN HLS hbcX hEl HNC
      go_upto_region 15 with fail
      refine wp_region_late (by kernel_rfl) (by kernel_rfl) ?_
      repeat (quiet_step (fail))
      quiet_step ((go_at_call 24; exact late _ (l1 _)))
      repeat (quiet_step (fail))
      refine wpQuiet_nil ?_
      intro w6 hw6
      have hb6 : Below wq.heap.size wq w6 := by obtain ⟨pp, rfl⟩ := hw6; exact pp.h
      have H6 := Lib.hid (blk_later HBA.out hb6)
      have HB6 := Lib.hid (bt5 HBW.out hb6)
      clear hw6 m6 cv l1 s1 s2 s3 s4 hU1 hU2 hU3 hU4 hb6
      have HI2 : Hid (I + 1 ≤ K ∨ E = X) := Lib.hid (by
        have := HIX.out
        by_cases h : I = K
        · right; have := HNK.out h; omega
        · left; omega)
      have hwI : IntKind.i64.wrap ((I : Int) + 1) = (I : Int) + 1 := by have := HIX.out; have := HK50.out; rw [IntKind.wrap_i64]; omega
      go_wp2_with fail
      go_roundw
      case rel => exact ⟨ls ++ [P], E, I + 1, by rw [HU4.out], rfl, by have := HK50.out; have := HIX.out; go_num, hEX, by have := HIX.out; omega, HI2, H6.out, HB6.out, HPF, HLEN2⟩
      case measure => have := HIX.out; have := HK50.out; simp [intOf]; omega
set_option maxHeartbeats 6400000 in
set_option maxRecDepth 100000 in
theorem chunks_len : ∀ (ls : List (List UInt8)), ls.flatten.length ≤ 3000 → (ls.flatMap Ck.chunkOf).length ≤ 11 * ls.flatten.length
  | [], _ => Nat.zero_le _
  | p :: ls, h => by
    have hp : p.length + ls.flatten.length ≤ 3000 := by simpa using h
    have ih := chunks_len ls (by omega)
    have h1 : (Ck.chunkOf p).length ≤ 11 * p.length := by
      unfold Ck.chunkOf
      by_cases h0 : p = []
      · rw [if_pos h0]; exact Nat.zero_le _
      · rw [if_neg h0]
        have h2 : (Oct.print (p.length : Int) 16).length ≤ 4 := Ck.hex_len 3 p.length (by omega)
        have h3 : p.length ≠ 0 := fun e => h0 (List.eq_nil_of_length_eq_zero e)
        simp only [List.length_append, List.length_cons, List.length_nil]
        omega
    rw [List.flatMap_cons, List.length_append]
    simp only [List.flatten_cons, List.length_append]
    omega
/-- The same, its arguments as they come in. -/
theorem mchunks_w {Env : World → Prop} (P : Read8 Env) (s : St.S) (fv bv : Value) (fs : List Fld.F) (x : List UInt8) (v : Value) (l : List UInt8) (w : World) (hF : FIn w fv fs) (_hn : NilOk fv) (hx : BIn w bv x) (hxn : NilOk bv) (z4 : s.status ≤ 9223372036854775807) (z5 : s.minor ≤ 9223372036854775807) (h : BIn w v l) (_hn : NilOk v) (hE : Env w) :
    Calls Tryz.prog 7 #[mval s fv bv, v] w fun e w' => e = .returned (.bool true) ∧ Below w.heap.size w w' := by
  have hs0 : (s.status == 0) = decide (s.status = 0) := by
    by_cases h : s.status = 0
    · rw [h]; rfl
    · rw [decide_eq_false h]; exact beq_eq_false_iff_ne.2 h
  obtain ⟨ao, tc, rfl⟩ : ∃ a c, v = .slice a l.length c := by obtain ⟨a, c, h, _⟩ := h; exact ⟨a, c, h⟩
  obtain ⟨fa, fc, rfl⟩ : ∃ a c, fv = .slice a fs.length c := by obtain ⟨a, c, h, _⟩ := hF; exact ⟨a, c, h⟩
  obtain ⟨ba, bc, rfl⟩ : ∃ a c, bv = .slice a x.length c := by obtain ⟨a, c, h, _⟩ := hx; exact ⟨a, c, h⟩
  obtain ⟨m, hm⟩ : ∃ m : List UInt8, m = [71, 69, 84] := ⟨_, rfl⟩
  have hG : (⟨#[71, 69, 84]⟩ : ByteArray) = str m := by rw [hm]; rfl
  have cA := fun (W : World) (hb : Below w.heap.size w W) => mawake_w P W (P.later hE hb)
  have cSa := fun (W : World) (hb : Below w.heap.size w W) => small_w s (.slice fa fs.length fc) (.slice ba x.length bc) fs x m W (hF.later hb) (hx.later hb)
  rw [← hG] at cSa
  refine chunks_core (n := fs.length) (X := x.length) (K := l.length) (ra := Ms.right ⟨s, fs, x⟩ m) (cl := l) (fs := fs) (x := x) (hd := Ms.head ⟨s, fs, x⟩) (kd := (Ms.framed s fs m).1) (sz := (Ms.framed s fs m).2.1) (er := (Ms.framed s fs m).2.2) w rfl hx rfl h rfl cA cSa (fun hs h3 => ?_)
  rw [hG]
  have q := smallB_sm hs z4 z5
  have q1 := q.count
  have q2 := q.body
  have q3 := q.asked
  have q4 := q.method
  have q5 := q.target
  have q6 := q.reason
  refine ⟨q2, fun W hb => right_w s (.slice fa fs.length fc) (.slice ba x.length bc) fs x m W (hF.later hb) q.small (by omega) (hx.later hb) hxn (by omega) (by omega) (by omega) (by omega) (by omega), fun hr _ => ⟨fun W hb => framing_w s (.slice fa fs.length fc) (.slice ba x.length bc) fs m W (hF.later hb) q.small (by omega) (by omega), fun hk => ?_⟩⟩
  obtain ⟨r1, r2, r3⟩ := right_len hr q2
  have hh : (Ms.head ⟨s, fs, x⟩).length ≤ 100000 := by unfold Ms.head; rw [List.length_append]; show (St.text s).length + (Fld.print fs).length ≤ _; omega
  refine ⟨hh, fun W hb => ?_, fun ls u W hls hu hun hb => ?_, fun fa9 fc9 ba9 bc9 W h1 h2 h3 hb => ?_⟩
  · have h := print_w s (.slice fa fs.length fc) (.slice none 0 0) fs [] m W (hF.later hb) q.small (by omega) (bin_nil W).1 (bin_nil W).2 (by simp) (by omega) (by omega) (by omega) (by omega) z4 z5 (by omega) (by omega)
    have e : Ms.print ⟨s, fs, []⟩ m = Ms.head ⟨s, fs, x⟩ ++ [48, 13, 10, 13, 10] := by
      unfold Ms.print Ms.kind
      rw [if_pos hk]
      rfl
    rw [e] at h
    exact h
  · have hl := chunks_len ls (by rw [hls]; exact q2)
    rw [hls] at hl
    rw [List.append_assoc] at hu
    have h := P.parse_new u _ (s.status == 0) m W (by simp only [List.length_append, List.length_cons, List.length_nil]; omega) q3 hu hun (P.later hE hb)
    have hp := Ms.parse_chunks (m := ⟨s, fs, x⟩) hr hk ls hls
    rw [hs0, hp] at h
    rw [hs0]
    refine h.mono ?_
    rintro e w' ⟨⟨fa2, fc2, ba2, bc2, he, h1, h2, h3, _⟩, hb2⟩
    rw [List.length_append]
    exact ⟨⟨fa2, fc2, ba2, bc2, he, h1, h2, h3⟩, hb2⟩
  · have h := same_w s s (.slice fa9 fs.length fc9) (.slice ba9 x.length bc9) (.slice fa fs.length fc) (.slice ba x.length bc) fs fs x x W h1 (hF.later hb) h2 h3 (hx.later hb) hxn (by omega)
    rw [sameF_self, decide_eq_true (rfl : s = s), decide_eq_true (rfl : x = x)] at h
    exact h
end Go.Proofs.YtlbjjeonchcgbaaGreatDoor
