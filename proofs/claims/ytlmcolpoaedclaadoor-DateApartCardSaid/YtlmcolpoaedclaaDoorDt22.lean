/- The statements of layer 2: DateApart. -/
import Derived.Test.YtlmcolpoaedclaaDoorDt20
import Derived.Test.YtlmcolpoaedclaaDoorDt21
import Derived.Test.YtlmcolpoaedclaaDoorDtMathF
import Derived.IntWalk
import Derived.Lib.SmallJoins
import Derived.RegionTactic
namespace Go.Proofs.YtlmcolpoaedclaaDoor
open Go.RowKit

theorem f3_at (a : Int) (k : Nat) (hk : k < 3) (w : World) : (w.alloc (.cells #[.string (f3 a 0), .string (f3 a 1), .string (f3 a 2)] 31)).cell? ⟨w.heap.size, k, none⟩ = some (.string (f3 a k)) := by
  rw [World.cell?_alloc_at _ _ _ _ rfl]
  have : k = 0 ∨ k = 1 ∨ k = 2 := by omega
  rcases this with rfl | rfl | rfl <;> rfl
theorem f3_size (a : Int) (k : Nat) (hk : k < 3) (a0 : 0 ≤ a) (a1 : a ≤ 253402300799) : 24 ≤ (f3 a k).size ∧ (f3 a k).size ≤ 33 := by
  have hl := Dt.len_form (a := a) a0 a1
  have : k = 0 ∨ k = 1 ∨ k = 2 := by omega
  rcases this with rfl | rfl | rfl
  · have e : (f3 a 0).size = (Dt.form a 0).length := str_size _
    omega
  · have e : (f3 a 1).size = (Dt.form a 1).length := str_size _
    omega
  · have e : (f3 a 2).size = (Dt.form a 2).length := str_size _
    omega
theorem turn_str (S : ByteArray) (k : Nat) (c : UInt8) (_hk : k < S.size) : S.extract 0 k ++ str [c] ++ S.extract (k + 1) S.size = str (Dt.turned S.data.toList k c) := by
  have hl : S.data.toList.length = S.size := Oct.length_size S
  conv => lhs; rw [← str_of S]
  rw [str_ext, str_ext, str_app, str_app, str_of]
  unfold Dt.turned
  congr 1
  rw [List.drop_zero, List.take_of_length_le (l := S.data.toList) (i := S.size) (by omega)]
  simp

theorem set3_cell {w : World} {g : Nat} {x y z : Value} {t : TypeId} (h : w.heap[g]? = some (.cells #[x, y, z] t)) (v : Value) (j : Nat) (hj : j < 3) :
    (((w.setCell ⟨g, 0, none⟩ v).setCell ⟨g, 1, none⟩ v).setCell ⟨g, 2, none⟩ v).cell? ⟨g, j, none⟩ = some v := by
  have h3 := Joins.block_setCell (i := 2) (Joins.block_setCell (i := 1) (Joins.block_setCell (i := 0) h v) v) v
  simp only [World.cell?, h3]
  have : j = 0 ∨ j = 1 ∨ j = 2 := by omega
  rcases this with rfl | rfl | rfl <;> rfl
set_option maxHeartbeats 3200000 in
set_option maxRecDepth 100000 in
theorem apart_a (a f t0 t1 : Int) (w : World) (a0 : 0 ≤ a) (a1 : a ≤ 3155759999) (hT : DTabs w) :
    Calls Tryd.prog 6 #[.int .i64 a, .int .i64 f, .agg #[.int .i64 t0, .int .i64 t1]] w fun e w' => e = .returned (.bool true) ∧ Below w.heap.size w w' := by
  have hw0 : Below w.heap.size w (w.alloc (.cells #[.int .i64 t0, .int .i64 t1] 39)) := (Below.refl _ _).alloc (Nat.le_refl _) _
  have hA := awake_w _ (hT.later hw0)
  have HT := Lib.hid (hT.later hw0)
  clear hT
  obtain ⟨q3, hq3⟩ : ∃ q, f.tmod 3 = q := ⟨_, rfl⟩
  have hb3 := tmod_bd f 3 (by omega)
  rw [hq3] at hb3
  obtain ⟨b30, b31⟩ := hb3
  obtain ⟨i, hi⟩ : ∃ i : Nat, (q3 + 3) % 3 = i := ⟨((q3 + 3) % 3).toNat, by omega⟩
  have hi3 : i < 3 := by omega
  have hi3' : (i : Int) < 3 := by omega
  have hF := fun w hT => Forms_yes a (f3 a 0) (f3 a 1) (f3 a 2) w hT a0 a1 rfl rfl rfl
  have hat := f3_at a i hi3
  have hsz := f3_size a i hi3 a0 (by omega)
  have HSays := Lib.hid (says_f3 (k := i) hi3 a0 a1)
  obtain ⟨z0, z1⟩ := hsz
  generalize f3 a i = S at hat HSays z0 z1
  obtain ⟨q0, hq0⟩ : ∃ q, t0.tmod (S.size : Int) = q := ⟨_, rfl⟩
  have hb0 := tmod_bd t0 (S.size : Int) (by omega)
  rw [hq0] at hb0
  obtain ⟨b00, b01⟩ := hb0
  obtain ⟨k, hk⟩ : ∃ k : Nat, (q0 + (S.size : Int)) % (S.size : Int) = k := ⟨((q0 + (S.size : Int)) % (S.size : Int)).toNat, by have := Int.emod_nonneg (q0 + (S.size : Int)) (show (S.size : Int) ≠ 0 by omega); omega⟩
  have hkS : k < S.size := by have := Int.emod_lt_of_pos (q0 + (S.size : Int)) (show 0 < (S.size : Int) by omega); omega
  have hk' : (q0 + (S.size : Int)).tmod (S.size : Int) = k := by rw [Int.tmod_eq_emod_of_nonneg (by omega), hk]
  obtain ⟨q1, hq1⟩ : ∃ q, t1.tmod 256 = q := ⟨_, rfl⟩
  have hb1' := tmod_bd t1 256 (by omega)
  rw [hq1] at hb1'
  obtain ⟨b10, b11⟩ := hb1'
  obtain ⟨c, hc⟩ : ∃ c : UInt8, (q1 + 256) % 256 = (c.toNat : Int) := ⟨UInt8.ofNat ((q1 + 256) % 256).toNat, by rw [UInt8.toNat_ofNat']; omega⟩
  have hc8 := c.toNat_lt
  have hS0 : ((S.size : Int) == 0) = false := beq_eq_false_iff_ne.2 (by omega)
  have hS1 : ¬ (S.size : Int) = 0 := by omega
  have hS2 : ¬ S.size = 0 := by omega
  have hd1 : decide (a < 0) = false := decide_eq_false (by omega)
  have hd2 : decide (253402300799 < a) = false := decide_eq_false (by omega)
  go_enter Tryd.func6, Tryd.ntmps6
  go_wp2_with fail
  refine hA.mono ?_
  rintro e w1 ⟨rfl, hb1⟩
  have hB1 := hw0.trans (hb1.mono hw0.size)
  have hT1 := HT.out.later hb1
  clear hA
  go_wp2_with (go_at_call 13; refine (Last_c _).mono ?_; rintro e w' ⟨rfl, rfl⟩)
  refine (hF w1 hT1).mono ?_
  rintro e w2 ⟨rfl, hb2⟩
  have hB2 := bt hB1 hb2
  have c0 : w2.cell? ⟨w.heap.size, 0, none⟩ = some (.int .i64 t0) := cell_later hb2 (cell_later hb1 (by rw [World.cell?_alloc_at _ _ _ _ rfl]; rfl))
  have c1 : w2.cell? ⟨w.heap.size, 1, none⟩ = some (.int .i64 t1) := cell_later hb2 (cell_later hb1 (by rw [World.cell?_alloc_at _ _ _ _ rfl]; rfl))
  have C0 := fun o => (World.cell?_alloc_past (w := w2) o w.heap.size 0 (World.block_lt_of_cell? w2 _ c0)).trans c0
  have C1 := fun o => (World.cell?_alloc_past (w := w2) o w.heap.size 1 (World.block_lt_of_cell? w2 _ c1)).trans c1
  clear hF hw0 c0 c1
  go_wp2_with fail
  have hb4 : Below w2.heap.size w2 (w2.alloc (.cells #[.string (f3 a 0), .string (f3 a 1), .string (f3 a 2)] 31)) := (Below.refl _ _).alloc (Nat.le_refl _) _
  generalize w2.alloc (.cells #[.string (f3 a 0), .string (f3 a 1), .string (f3 a 2)] 31) = w4 at hb4 ⊢
  have hB4 := bt hB2 hb4
  have hT4 := (hT1.later hb2).later hb4
  clear hB2 hb4 hT1 hb1 hB1 hb2 C0 C1 hat
  have hcv := (Buf.one (Below.refl w4.heap.size w4) c c.toNat rfl).drew.string
  have x0 : (S.extract 0 k).size = k := by rw [ByteArray.size_extract]; omega
  have x1 : (str [c]).size = 1 := str_size _
  have x2 : (S.extract (k + 1) S.size).size = S.size - (k + 1) := by rw [ByteArray.size_extract]; omega
  have k1 : (k : Int) ≤ (S.size : Int) := by omega
  have k2 : (k : Int) + 1 ≤ (S.size : Int) := by omega
  have k3 : (0 : Int) ≤ (k : Int) + 1 := by omega
  have k4 : ((k : Int) + 1).toNat = k + 1 := by omega
  have k5 := IntWalk.i64_in ((k : Int) + 1) (by omega)
  go_region
  rw [turn_str S k c hkS]
  have hB5 := (hB4.alloc hB4.size (.cells #[.int .u8 c.toNat] 5)).drew
  have hT5 := hT4.later (((Below.refl w4.heap.size w4).alloc (Nat.le_refl _) (.cells #[.int .u8 c.toNat] 5)).drew)
  generalize (w4.alloc (.cells #[.int .u8 c.toNat] 5)).drew = w5 at hB5 hT5 ⊢
  clear hcv x0 x1 x2 k1 k2 k3 k4 k5 hB4 hT4
  have hlS : S.data.toList.length = S.size := Oct.length_size S
  have hkl : k < S.data.toList.length := by omega
  have hPT := Parse_asked (str (Dt.turned S.data.toList k c)) w5 hT5
  rw [str_list] at hPT
  have k1 : (k : Int) < (S.size : Int) := by omega
  have hix : S.data.toList[k]'hkl = S[k]'hkS := rfl
  by_cases hcs : c = S[k]'hkS
  · have hask : Dt.asked (Dt.turned S.data.toList k c) = (a, 0) := by
      rw [hcs, ← hix, Dt.turned_same]; exact Dt.asked_yes HSays.out
    rw [hask] at hPT
    have g1 : ((c.toNat : Int) == ((S[k]'hkS).toNat : Int)) = true := by rw [← hcs]; simp
    have g2 : ((c.toNat : Int) != ((S[k]'hkS).toNat : Int)) = false := by rw [bne, g1]; rfl
    clear hask hcs hix hkl hlS
    generalize str (Dt.turned S.data.toList k c) = T at hPT ⊢
    go_wp2_with fail
    refine hPT.mono ?_
    rintro e w6 ⟨rfl, hb6⟩
    clear hPT
    go_wp2_with fail
    go_ret
    exact ⟨rfl, bt hB5 hb6⟩
  · have hask := Dt.apart HSays.out k hkl c (by rw [hix]; exact hcs)
    have g0 : ¬ (c.toNat : Int) = ((S[k]'hkS).toNat : Int) := fun e => hcs (UInt8.toNat_inj.1 (by omega))
    have g1 : ((c.toNat : Int) == ((S[k]'hkS).toNat : Int)) = false := beq_eq_false_iff_ne.2 g0
    have g2 : ((c.toNat : Int) != ((S[k]'hkS).toNat : Int)) = true := by rw [bne, g1]; rfl
    rcases hask with hask | ⟨n, hask, hn⟩
    · rw [hask] at hPT
      clear hask hcs hix hkl hlS g0
      generalize str (Dt.turned S.data.toList k c) = T at hPT ⊢
      go_wp2_with fail
      refine hPT.mono ?_
      rintro e w6 ⟨rfl, hb6⟩
      clear hPT
      go_wp2_with fail
      go_ret
      exact ⟨rfl, bt hB5 hb6⟩
    · rw [hask] at hPT
      have n1 : (n == a) = false := beq_eq_false_iff_ne.2 hn
      have n2 : (n != a) = true := by rw [bne, n1]; rfl
      clear hask hcs hix hkl hlS g0 hn
      generalize str (Dt.turned S.data.toList k c) = T at hPT ⊢
      go_wp2_with fail
      refine hPT.mono ?_
      rintro e w6 ⟨rfl, hb6⟩
      clear hPT
      go_wp2_with fail
      go_ret
      exact ⟨rfl, bt hB5 hb6⟩

set_option maxHeartbeats 3200000 in
set_option maxRecDepth 100000 in
theorem apart_b (a f t0 t1 : Int) (w : World) (a0 : 0 ≤ a) (a1 : a ≤ 253402300799) (hlate : 3155759999 < a) (hT : DTabs w) :
    Calls Tryd.prog 6 #[.int .i64 a, .int .i64 f, .agg #[.int .i64 t0, .int .i64 t1]] w fun e w' => e = .returned (.bool true) ∧ Below w.heap.size w w' := by
  have hw0 : Below w.heap.size w (w.alloc (.cells #[.int .i64 t0, .int .i64 t1] 39)) := (Below.refl _ _).alloc (Nat.le_refl _) _
  have hA := awake_w _ (hT.later hw0)
  have HT := Lib.hid (hT.later hw0)
  clear hT
  obtain ⟨q3, hq3⟩ : ∃ q, f.tmod 3 = q := ⟨_, rfl⟩
  have hb3 := tmod_bd f 3 (by omega)
  rw [hq3] at hb3
  obtain ⟨b30, b31⟩ := hb3
  obtain ⟨i, hi⟩ : ∃ i : Nat, (q3 + 3) % 3 = i := ⟨((q3 + 3) % 3).toNat, by omega⟩
  have hi3 : i < 3 := by omega
  have hi3' : (i : Int) < 3 := by omega
  have hF := fun w => Forms_no a w (by omega)
  have hP := fun w hT => Print_yes a (f3 a 0) w hT a0 a1 rfl
  have hsz := f3_size a 0 (by omega) a0 a1
  have HSays := Lib.hid (says_f0 a0 a1)
  obtain ⟨z0, z1⟩ := hsz
  generalize f3 a 0 = S at hP HSays z0 z1
  obtain ⟨q0, hq0⟩ : ∃ q, t0.tmod (S.size : Int) = q := ⟨_, rfl⟩
  have hb0 := tmod_bd t0 (S.size : Int) (by omega)
  rw [hq0] at hb0
  obtain ⟨b00, b01⟩ := hb0
  obtain ⟨k, hk⟩ : ∃ k : Nat, (q0 + (S.size : Int)) % (S.size : Int) = k := ⟨((q0 + (S.size : Int)) % (S.size : Int)).toNat, by have := Int.emod_nonneg (q0 + (S.size : Int)) (show (S.size : Int) ≠ 0 by omega); omega⟩
  have hkS : k < S.size := by have := Int.emod_lt_of_pos (q0 + (S.size : Int)) (show 0 < (S.size : Int) by omega); omega
  have hk' : (q0 + (S.size : Int)).tmod (S.size : Int) = k := by rw [Int.tmod_eq_emod_of_nonneg (by omega), hk]
  obtain ⟨q1, hq1⟩ : ∃ q, t1.tmod 256 = q := ⟨_, rfl⟩
  have hb1' := tmod_bd t1 256 (by omega)
  rw [hq1] at hb1'
  obtain ⟨b10, b11⟩ := hb1'
  obtain ⟨c, hc⟩ : ∃ c : UInt8, (q1 + 256) % 256 = (c.toNat : Int) := ⟨UInt8.ofNat ((q1 + 256) % 256).toNat, by rw [UInt8.toNat_ofNat']; omega⟩
  have hc8 := c.toNat_lt
  have hS0 : ((S.size : Int) == 0) = false := beq_eq_false_iff_ne.2 (by omega)
  have hS1 : ¬ (S.size : Int) = 0 := by omega
  have hS2 : ¬ S.size = 0 := by omega
  have hd1 : decide (a < 0) = false := decide_eq_false (by omega)
  have hd2 : decide (253402300799 < a) = false := decide_eq_false (by omega)
  go_enter Tryd.func6, Tryd.ntmps6
  go_wp2_with fail
  refine hA.mono ?_
  rintro e w1 ⟨rfl, hb1⟩
  have hB1 := hw0.trans (hb1.mono hw0.size)
  have hT1 := HT.out.later hb1
  clear hA
  go_wp2_with (go_at_call 13; refine (Last_c _).mono ?_; rintro e w' ⟨rfl, rfl⟩)
  refine (hF w1).mono ?_
  rintro e w2 ⟨rfl, hb2⟩
  have hW2 := hb1.trans (hb2.mono hb1.size)
  have hT2 := hT1.later hb2
  clear hF hT1 hb2
  go_wp2_with fail
  have hb3 : Below w2.heap.size w2 (w2.alloc (.cells #[.string ⟨#[]⟩, .string ⟨#[]⟩, .string ⟨#[]⟩] 31)) := (Below.refl _ _).alloc (Nat.le_refl _) _
  have hg := heap_alloc_new w2 (.cells #[.string ⟨#[]⟩, .string ⟨#[]⟩, .string ⟨#[]⟩] 31)
  generalize w2.alloc (.cells #[.string ⟨#[]⟩, .string ⟨#[]⟩, .string ⟨#[]⟩] 31) = w3 at hb3 hg ⊢
  have hW3 := hW2.trans (hb3.mono hW2.size)
  have hT3 := hT2.later hb3
  clear hT2 hb3
  refine (hP w3 hT3).mono ?_
  rintro e w6 ⟨rfl, hb6⟩
  have hW6 := hW3.trans (hb6.mono hW3.size)
  have hT6 := hT3.later hb6
  have hg6 : w6.heap[w2.heap.size]? = some (.cells #[.string ⟨#[]⟩, .string ⟨#[]⟩, .string ⟨#[]⟩] 31) := by
    rw [hb6.block _ (lt_of_block hg)]; exact hg
  have r0 : w6.cell? ⟨w2.heap.size, 0, none⟩ = some (.string ⟨#[]⟩) := by simp only [World.cell?, hg6]; rfl
  have r1 : w6.cell? ⟨w2.heap.size, 1, none⟩ = some (.string ⟨#[]⟩) := by simp only [World.cell?, hg6]; rfl
  have r2 : w6.cell? ⟨w2.heap.size, 2, none⟩ = some (.string ⟨#[]⟩) := by simp only [World.cell?, hg6]; rfl
  have fz0 : w6.frozen? ⟨w2.heap.size, 0, none⟩ = false := by simp only [World.frozen?, hg6]; simp
  have fz1 : w6.frozen? ⟨w2.heap.size, 1, none⟩ = false := by simp only [World.frozen?, hg6]; simp
  have fz2 : w6.frozen? ⟨w2.heap.size, 2, none⟩ = false := by simp only [World.frozen?, hg6]; simp
  clear hT3 hb6 hg hP
  go_upto_region 7 with fail
  have h20 : (w.alloc (.cells #[.int .i64 t0, .int .i64 t1] 39)).heap.size ≤ w2.heap.size := hW2.size
  have hW7 := ((hW6.setCell (p := ⟨w2.heap.size, 0, none⟩) h20 (.string S)).setCell (p := ⟨w2.heap.size, 1, none⟩) h20 (.string S)).setCell (p := ⟨w2.heap.size, 2, none⟩) h20 (.string S)
  have hat := fun j (hj : j < 3) => set3_cell hg6 (.string S) j hj
  have hT7 := HT.out.later hW7
  generalize ((w6.setCell ⟨w2.heap.size, 0, none⟩ (.string S)).setCell ⟨w2.heap.size, 1, none⟩ (.string S)).setCell ⟨w2.heap.size, 2, none⟩ (.string S) = w4 at hW7 hat hT7 ⊢
  have C0 : w4.cell? ⟨w.heap.size, 0, none⟩ = some (.int .i64 t0) := cell_later hW7 (by rw [World.cell?_alloc_at _ _ _ _ rfl]; rfl)
  have C1 : w4.cell? ⟨w.heap.size, 1, none⟩ = some (.int .i64 t1) := cell_later hW7 (by rw [World.cell?_alloc_at _ _ _ _ rfl]; rfl)
  have hat' := hat i hi3
  have hB4 := hw0.trans (hW7.mono hw0.size)
  have hT4 := hT7
  clear r0 r1 r2 fz0 fz1 fz2 hg6 hT6 hW6 hW3 hW2 hW7 hat hT7 h20 hb1 hB1 hw0
  go_wp2_with fail
  clear C0 C1 hat'
  have hcv := (Buf.one (Below.refl w4.heap.size w4) c c.toNat rfl).drew.string
  have x0 : (S.extract 0 k).size = k := by rw [ByteArray.size_extract]; omega
  have x1 : (str [c]).size = 1 := str_size _
  have x2 : (S.extract (k + 1) S.size).size = S.size - (k + 1) := by rw [ByteArray.size_extract]; omega
  have k1 : (k : Int) ≤ (S.size : Int) := by omega
  have k2 : (k : Int) + 1 ≤ (S.size : Int) := by omega
  have k3 : (0 : Int) ≤ (k : Int) + 1 := by omega
  have k4 : ((k : Int) + 1).toNat = k + 1 := by omega
  have k5 := IntWalk.i64_in ((k : Int) + 1) (by omega)
  go_region
  rw [turn_str S k c hkS]
  have hB5 := (hB4.alloc hB4.size (.cells #[.int .u8 c.toNat] 5)).drew
  have hT5 := hT4.later (((Below.refl w4.heap.size w4).alloc (Nat.le_refl _) (.cells #[.int .u8 c.toNat] 5)).drew)
  generalize (w4.alloc (.cells #[.int .u8 c.toNat] 5)).drew = w5 at hB5 hT5 ⊢
  clear hcv x0 x1 x2 k1 k2 k3 k4 k5 hB4 hT4
  have hlS : S.data.toList.length = S.size := Oct.length_size S
  have hkl : k < S.data.toList.length := by omega
  have hPT := Parse_asked (str (Dt.turned S.data.toList k c)) w5 hT5
  rw [str_list] at hPT
  have k1 : (k : Int) < (S.size : Int) := by omega
  have hix : S.data.toList[k]'hkl = S[k]'hkS := rfl
  by_cases hcs : c = S[k]'hkS
  · have hask : Dt.asked (Dt.turned S.data.toList k c) = (a, 0) := by
      rw [hcs, ← hix, Dt.turned_same]; exact Dt.asked_yes HSays.out
    rw [hask] at hPT
    have g1 : ((c.toNat : Int) == ((S[k]'hkS).toNat : Int)) = true := by rw [← hcs]; simp
    have g2 : ((c.toNat : Int) != ((S[k]'hkS).toNat : Int)) = false := by rw [bne, g1]; rfl
    clear hask hcs hix hkl hlS
    generalize str (Dt.turned S.data.toList k c) = T at hPT ⊢
    go_wp2_with fail
    refine hPT.mono ?_
    rintro e w6 ⟨rfl, hb6⟩
    clear hPT
    go_wp2_with fail
    go_ret
    exact ⟨rfl, bt hB5 hb6⟩
  · have hask := Dt.apart HSays.out k hkl c (by rw [hix]; exact hcs)
    have g0 : ¬ (c.toNat : Int) = ((S[k]'hkS).toNat : Int) := fun e => hcs (UInt8.toNat_inj.1 (by omega))
    have g1 : ((c.toNat : Int) == ((S[k]'hkS).toNat : Int)) = false := beq_eq_false_iff_ne.2 g0
    have g2 : ((c.toNat : Int) != ((S[k]'hkS).toNat : Int)) = true := by rw [bne, g1]; rfl
    rcases hask with hask | ⟨n, hask, hn⟩
    · rw [hask] at hPT
      clear hask hcs hix hkl hlS g0
      generalize str (Dt.turned S.data.toList k c) = T at hPT ⊢
      go_wp2_with fail
      refine hPT.mono ?_
      rintro e w6 ⟨rfl, hb6⟩
      clear hPT
      go_wp2_with fail
      go_ret
      exact ⟨rfl, bt hB5 hb6⟩
    · rw [hask] at hPT
      have n1 : (n == a) = false := beq_eq_false_iff_ne.2 hn
      have n2 : (n != a) = true := by rw [bne, n1]; rfl
      clear hask hcs hix hkl hlS g0 hn
      generalize str (Dt.turned S.data.toList k c) = T at hPT ⊢
      go_wp2_with fail
      refine hPT.mono ?_
      rintro e w6 ⟨rfl, hb6⟩
      clear hPT
      go_wp2_with fail
      go_ret
      exact ⟨rfl, bt hB5 hb6⟩

set_option maxHeartbeats 1600000 in
theorem apart_no (a f t0 t1 : Int) (w : World) (hT : DTabs w) (h : a < 0 ∨ (0 ≤ a ∧ 253402300799 < a)) :
    Calls Tryd.prog 6 #[.int .i64 a, .int .i64 f, .agg #[.int .i64 t0, .int .i64 t1]] w fun e w' => e = .returned (.bool true) ∧ Below w.heap.size w w' := by
  have hw0 : Below w.heap.size w (w.alloc (.cells #[.int .i64 t0, .int .i64 t1] 39)) := (Below.refl _ _).alloc (Nat.le_refl _) _
  have hA := awake_w _ (hT.later hw0)
  have HT := Lib.hid (hT.later hw0)
  clear hT
  rcases h with h | ⟨h0, h⟩
  · go_enter Tryd.func6, Tryd.ntmps6
    go_wp2_with fail
    refine hA.mono ?_
    rintro e w1 ⟨rfl, hb1⟩
    have hB1 := hw0.trans (hb1.mono hw0.size)
    have hT1 := HT.out.later hb1
    clear hA hb1
    go_wp2_with fail
    refine (awake_w w1 hT1).mono ?_
    rintro e w2 ⟨rfl, hb2⟩
    go_wp2_with fail
    go_ret
    exact ⟨rfl, bt hB1 hb2⟩
  · go_enter Tryd.func6, Tryd.ntmps6
    go_wp2_with fail
    refine hA.mono ?_
    rintro e w1 ⟨rfl, hb1⟩
    have hB1 := hw0.trans (hb1.mono hw0.size)
    have hT1 := HT.out.later hb1
    clear hA hb1
    go_wp2_with (go_at_call 13; refine (Last_c _).mono ?_; rintro e w' ⟨rfl, rfl⟩)
    refine (awake_w w1 hT1).mono ?_
    rintro e w2 ⟨rfl, hb2⟩
    go_wp2_with fail
    go_ret
    exact ⟨rfl, bt hB1 hb2⟩
theorem apart_w (a f t0 t1 : Int) (w : World) (hT : DTabs w) :
    Calls Tryd.prog 6 #[.int .i64 a, .int .i64 f, .agg #[.int .i64 t0, .int .i64 t1]] w fun e w' => e = .returned (.bool true) ∧ Below w.heap.size w w' := by
  by_cases h : a < 0 ∨ (0 ≤ a ∧ 253402300799 < a)
  · exact apart_no a f t0 t1 w hT h
  · by_cases hl : 3155759999 < a
    · exact apart_b a f t0 t1 w (by omega) (by omega) hl hT
    · exact apart_a a f t0 t1 w (by omega) (by omega) hT

end Go.Proofs.YtlmcolpoaedclaaDoor
