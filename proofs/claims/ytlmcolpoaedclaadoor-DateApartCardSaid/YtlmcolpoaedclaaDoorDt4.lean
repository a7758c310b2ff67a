/- Package date: a moment's forms. -/
import Derived.Test.YtlmcolpoaedclaaDoorDt3
import Derived.Test.YtlmcolpoaedclaaDoorQuiet
import Derived.StillTailTactics
namespace Go.Proofs.YtlmcolpoaedclaaDoor
open Go.RowKit

theorem lit_str (l : List UInt8) : (⟨l.toArray⟩ : ByteArray) = str l := rfl
theorem str_app (a b : List UInt8) : str a ++ str b = str (a ++ b) := by
  rw [← str_of (str a ++ str b), app_list, str_list, str_list]
theorem str_ext (a : List UInt8) (f k : Nat) : (str a).extract f k = str ((a.take k).drop f) := by
  rw [← str_of ((str a).extract f k), Dt.ext_list, str_list]
theorem cat0 (dn ad mn yn h i s : List UInt8) : (str dn).extract 0 3 ++ (⟨#[44, 32]⟩ : ByteArray) ++ str ad ++ ⟨#[32]⟩ ++ str mn ++ ⟨#[32]⟩ ++ str yn ++ ⟨#[32]⟩ ++ (str h ++ (⟨#[58]⟩ : ByteArray) ++ str i ++ ⟨#[58]⟩ ++ str s) ++ ⟨#[32, 71, 77, 84]⟩ =
    str (dn.take 3 ++ 44 :: (32 :: (ad ++ 32 :: (mn ++ 32 :: (yn ++ 32 :: ((h ++ 58 :: (i ++ 58 :: s)) ++ 32 :: Dt.gmt)))))) := by
  rw [show (⟨#[44, 32]⟩ : ByteArray) = str [44, 32] from rfl, show (⟨#[32]⟩ : ByteArray) = str [32] from rfl, show (⟨#[58]⟩ : ByteArray) = str [58] from rfl, show (⟨#[32, 71, 77, 84]⟩ : ByteArray) = str [32, 71, 77, 84] from rfl]
  simp only [str_app, str_ext]
  congr 1
  simp [Dt.gmt]
theorem cat1 (dn ad mn yn h i s y2 : List UInt8) (hy : yn.drop 2 = y2 ∧ yn.length = 4) : str dn ++ (⟨#[44, 32]⟩ : ByteArray) ++ str ad ++ ⟨#[45]⟩ ++ str mn ++ ⟨#[45]⟩ ++ (str yn).extract 2 4 ++ ⟨#[32]⟩ ++ (str h ++ (⟨#[58]⟩ : ByteArray) ++ str i ++ ⟨#[58]⟩ ++ str s) ++ ⟨#[32, 71, 77, 84]⟩ =
    str (dn ++ 44 :: (32 :: (ad ++ 45 :: (mn ++ 45 :: (y2 ++ 32 :: ((h ++ 58 :: (i ++ 58 :: s)) ++ 32 :: Dt.gmt)))))) := by
  have e : (yn.take 4).drop 2 = y2 := by rw [List.take_of_length_le (by omega)]; exact hy.1
  rw [show (⟨#[44, 32]⟩ : ByteArray) = str [44, 32] from rfl, show (⟨#[32]⟩ : ByteArray) = str [32] from rfl, show (⟨#[45]⟩ : ByteArray) = str [45] from rfl, show (⟨#[58]⟩ : ByteArray) = str [58] from rfl, show (⟨#[32, 71, 77, 84]⟩ : ByteArray) = str [32, 71, 77, 84] from rfl]
  simp only [str_app, str_ext, e]
  congr 1
  simp [Dt.gmt]
theorem cat2 (dn ad mn yn h i s : List UInt8) : (str dn).extract 0 3 ++ (⟨#[32]⟩ : ByteArray) ++ str mn ++ ⟨#[32]⟩ ++ str ad ++ ⟨#[32]⟩ ++ (str h ++ (⟨#[58]⟩ : ByteArray) ++ str i ++ ⟨#[58]⟩ ++ str s) ++ ⟨#[32]⟩ ++ str yn =
    str (dn.take 3 ++ 32 :: (mn ++ 32 :: (ad ++ 32 :: ((h ++ 58 :: (i ++ 58 :: s)) ++ 32 :: yn)))) := by
  rw [show (⟨#[32]⟩ : ByteArray) = str [32] from rfl, show (⟨#[58]⟩ : ByteArray) = str [58] from rfl]
  simp only [str_app, str_ext]
  congr 1
  simp
theorem d4_drop (y : Int) (_h0 : 0 ≤ y) : (Dt.d4 y).drop 2 = Dt.d2 (y % 100) ∧ (Dt.d4 y).length = 4 := by
  refine ⟨?_, rfl⟩
  unfold Dt.d4 Dt.d2
  simp only [List.drop_succ_cons, List.drop_zero]
  rw [show y % 100 / 10 = y / 10 % 10 by omega, show y % 100 % 10 = y % 10 by omega]

set_option maxHeartbeats 16000000 in
theorem forms_c (a y d : Int) (m : Nat) (w : World) (hT : DTabs w) (a0 : 0 ≤ a) (a1 : a ≤ 253402300799) (hd : Dt.IsDate (a / 86400) y m d) :
    Calls Tryd.prog 17 #[.int .i64 a] w fun e w' => e = .returned (.agg #[.string (str (Dt.form a 0)), .string (str (Dt.form a 1)), .string (str (Dt.form a 2))]) ∧ Below w.heap.size w w' := by
  obtain ⟨s, hs⟩ : ∃ s, a % 86400 = s := ⟨_, rfl⟩
  have s0 : 0 ≤ s := by omega
  have s1 : s < 86400 := by omega
  obtain ⟨k, hk⟩ : ∃ k : Nat, Dt.wday (a / 86400) = k := ⟨(Dt.wday (a / 86400)).toNat, by have := Dt.wday_bd (a / 86400); omega⟩
  have hk7 : k < 7 := by have := Dt.wday_bd (a / 86400); omega
  have HF : Hid (Dt.form a 0 = Dt.f0 y m d k s ∧ Dt.form a 1 = Dt.f1 y m d k s ∧ Dt.form a 2 = Dt.f2 y m d k s) := by
    rw [Dt.form0 hd, Dt.form1 hd, Dt.form2 hd, hk, hs]; exact ⟨rfl, rfl, rfl⟩
  have hWd := weekday_c a
  rw [hk] at hWd
  have y0 := hd.y0
  have y1 := hd.y1
  have hm : m < 12 := by have := hd.m1; omega
  have d0 := hd.d0
  have d1 : d ≤ 31 := by have := hd.d1; have := Dt.ml_bd y m; omega
  obtain ⟨W, hW⟩ : ∃ W, w.alloc (.cells #[.string ⟨#[]⟩, .string ⟨#[]⟩, .string ⟨#[]⟩] 31) = W := ⟨_, rfl⟩
  have hR : W.heap[w.heap.size]? = some (.cells #[.string ⟨#[]⟩, .string ⟨#[]⟩, .string ⟨#[]⟩] 31) := by rw [← hW]; exact heap_alloc_new w _
  have hB : Below w.heap.size w W := by rw [← hW]; exact (Below.refl _ _).alloc (Nat.le_refl _) _
  have hC := calendar_c a y d m W (hT.later hB) a0 a1 hd
  rw [hs] at hC
  unfold partsV at hC
  go_enter Tryd.func17, Tryd.ntmps17
  go_wp2_with fail
  refine hC.mono ?_
  rintro e w1 ⟨rfl, hb1⟩
  have HB1 := Lib.hid (hB.trans (hb1.mono hB.size))
  have hT1 := hT.later HB1.out
  clear hT hC hd hs hW hk
  go_wp2_with fail
  have hb2 : Below w1.heap.size w1 (w1.alloc (.cells #[.int .i64 y, .int .i64 m, .int .i64 d, .int .i64 (s / 3600), .int .i64 (s / 60 % 60), .int .i64 (s % 60)] 56)) := (Below.refl _ _).alloc (Nat.le_refl _) _
  have hg := heap_alloc_new w1 (.cells #[.int .i64 y, .int .i64 m, .int .i64 d, .int .i64 (s / 3600), .int .i64 (s / 60 % 60), .int .i64 (s % 60)] 56)
  generalize hw2 : w1.alloc (.cells #[.int .i64 y, .int .i64 m, .int .i64 d, .int .i64 (s / 3600), .int .i64 (s / 60 % 60), .int .i64 (s % 60)] 56) = w2 at hb2 hg ⊢
  have hT2 := hT1.later hb2
  clear hT1 hw2
  have hP (j : Nat) (v : Value) (h : (#[.int .i64 y, .int .i64 m, .int .i64 d, .int .i64 (s / 3600), .int .i64 (s / 60 % 60), .int .i64 (s % 60)] : Array Value)[j]? = some v) : w2.cell? ⟨w1.heap.size, j, none⟩ = some v := by
    simp only [World.cell?, hg]; exact h
  obtain ⟨DN, hDN⟩ : ∃ x, str (Dt.dayNames.getD k []) = x := ⟨_, rfl⟩
  obtain ⟨MN, hMN⟩ : ∃ x, str (Dt.monthNames.getD m []) = x := ⟨_, rfl⟩
  obtain ⟨YN, hYN⟩ : ∃ x, str (Dt.d4 y) = x := ⟨_, rfl⟩
  obtain ⟨HN, hHN⟩ : ∃ x, str (Dt.d2 (s / 3600)) = x := ⟨_, rfl⟩
  obtain ⟨IN, hIN⟩ : ∃ x, str (Dt.d2 (s / 60 % 60)) = x := ⟨_, rfl⟩
  obtain ⟨SN, hSN⟩ : ∃ x, str (Dt.d2 (s % 60)) = x := ⟨_, rfl⟩
  obtain ⟨AN, hAN⟩ : ∃ x, str (Dt.d2 d) = x := ⟨_, rfl⟩
  obtain ⟨BN, hBN⟩ : ∃ x, str (Dt.db d) = x := ⟨_, rfl⟩
  have hPY := Print_year y
  have hPH := two0 (s / 3600)
  have hPI := two0 (s / 60 % 60)
  have hPS := two0 (s % 60)
  have hPA := two0 d
  have hPB := twoB d
  rw [hYN] at hPY
  rw [hHN] at hPH
  rw [hIN] at hPI
  rw [hSN] at hPS
  rw [hAN] at hPA
  rw [hBN] at hPB
  have zD : 6 ≤ DN.size ∧ DN.size ≤ 9 := by rw [← hDN, str_size]; have := (Dt.dayN_all (w := k) (by omega) (by omega)).2.2; exact this
  have zM : MN.size = 3 := by rw [← hMN, str_size]; have := (Dt.monN_all (m := m) (by omega) (by omega)).2; exact this
  have zY : YN.size = 4 := by rw [← hYN, str_size]; rfl
  have zH : HN.size = 2 := by rw [← hHN, str_size]; rfl
  have zI : IN.size = 2 := by rw [← hIN, str_size]; rfl
  have zS : SN.size = 2 := by rw [← hSN, str_size]; rfl
  have zA : AN.size = 2 := by rw [← hAN, str_size]; rfl
  have zB : BN.size = 2 := by rw [← hBN, str_size]; rfl
  obtain ⟨zD1, zD2⟩ := zD
  have zD3 : (3 : Int) ≤ (DN.size : Int) := by omega
  have zD4 : min 3 DN.size = 3 := by omega
  have p0 := fun p : LateOf w2 => p.cell (hP 0 _ rfl)
  have p1 := fun p : LateOf w2 => p.cell (hP 1 _ rfl)
  have q0 := fun p : LateOf w2 => p.cell (hT2.day k hk7)
  have q1 := fun p : LateOf w2 => p.cell (hT2.mon m hm)
  rw [hDN] at q0
  rw [hMN] at q1
  have HE := Lib.hid (And.intro hDN (And.intro hMN (And.intro hYN (And.intro hHN (And.intro hIN (And.intro hSN (And.intro hAN hBN)))))))
  clear hDN hMN hYN hHN hIN hSN hAN hBN
  have HT := Lib.hid hT2.base
  have hk7' : (k : Int) < 7 := by omega
  have hm' : (m : Int) < 12 := by omega
  refine wp_region_late (by kernel_rfl) (by kernel_rfl) ?_
  repeat (quiet_step (first
    | (go_at_call 32; exact late_same _ (hWd _ a0 (by omega)))
    | (go_at_call 33; exact late _ (hPY _ (HT.out.later (LateOf.h _)) (by omega) (by omega)))))
  refine wpQuiet_nil ?_
  intro w3 hw'
  have hb3 : Below w2.heap.size w2 w3 := by obtain ⟨p, rfl⟩ := hw'; exact p.h
  clear hw' p0 p1 q0 q1 hWd hPY HT hT2
  have c2 := cell_later hb3 (hP 2 _ rfl)
  have c3 := cell_later hb3 (hP 3 _ rfl)
  have c4 := cell_later hb3 (hP 4 _ rfl)
  have c5 := cell_later hb3 (hP 5 _ rfl)
  clear hP
  go_wp2_with fail
  go_quiet ((first
    | (go_at_call 34; with_reducible exact quiet _ (hPH _ (by omega) (by omega)))
    | (go_at_call 34; with_reducible exact quiet _ (hPI _ (by omega) (by omega)))
    | (go_at_call 34; with_reducible exact quiet _ (hPS _ (by omega) (by omega)))))
  go_wp2_with fail
  have hbW : Below W.heap.size W w3 := hb1.trans (hb2.trans (hb3.mono hb2.size) |>.mono hb1.size)
  have hR3 : (w3.drewN nq).heap[w.heap.size]? = some (.cells #[.string ⟨#[]⟩, .string ⟨#[]⟩, .string ⟨#[]⟩] 31) := by
    show w3.heap[w.heap.size]? = _
    rw [hbW.block _ (lt_of_block hR)]; exact hR
  have HB := Lib.hid (hB.trans (hbW.mono hB.size) |> fun h => Go.below_drewN h nq)
  have c2' : (w3.drewN nq).cell? ⟨w1.heap.size, 2, none⟩ = some (.int .i64 d) := c2
  generalize w3.drewN nq = w4 at hR3 HB c2' ⊢
  clear hR hB hb1 hb2 hb3 hbW hg c2 c3 c4 c5 hPH hPI hPS
  obtain ⟨TN, hTN⟩ : ∃ x, HN ++ (⟨#[58]⟩ : ByteArray) ++ IN ++ ⟨#[58]⟩ ++ SN = x := ⟨_, rfl⟩
  have zT : TN.size = 8 := by rw [← hTN]; simp [zH, zI, zS]; rfl
  rw [hTN]
  have HT := Lib.hid hTN
  clear hTN zH zI zS
  have r0 : w4.cell? ⟨w.heap.size, 0, none⟩ = some (.string ⟨#[]⟩) := by simp only [World.cell?, hR3]; rfl
  have r1 : w4.cell? ⟨w.heap.size, 1, none⟩ = some (.string ⟨#[]⟩) := by simp only [World.cell?, hR3]; rfl
  have r2 : w4.cell? ⟨w.heap.size, 2, none⟩ = some (.string ⟨#[]⟩) := by simp only [World.cell?, hR3]; rfl
  have fz : ∀ j, w4.frozen? ⟨w.heap.size, j, none⟩ = false := by intro j; simp only [World.frozen?, hR3]; simp
  refine wp_region_still_tail 51 (by kernel_rfl) (by kernel_rfl) ?_
  simp only [List.take_succ_cons, List.take_zero, List.drop_succ_cons, List.drop_zero]
  have big (Z : ByteArray) (n : Nat) (h : Z.size ≤ 100) (h' : n ≤ 1000) : ¬ 9223372036854775807 < Z.size + n := by omega
  have hD := fun n h => big DN n (by omega) h
  have zD5 : (DN.extract 0 3).size = 3 := by simp [zD4]
  have zY5 : (YN.extract 2 4).size = 2 := by simp [zY]
  still_step
  still_step
  refine wpStill_step (fun K hK => ?_)
  go_simp
  refine hK _ ?_
  clear hK K
  generalize hA1 : (HAppend.hAppend (DN.extract 0 3) _ : ByteArray) = A1
  have zA1 : A1.size = 5 := by rw [← hA1, ByteArray.size_append, zD5]; try rfl
  have HA1 := Lib.hid hA1
  clear hA1
  still_step
  still_step
  still_call (same (hPA _ (by omega) (by omega)))
  refine wpStill_step (fun K hK => ?_)
  go_simp
  refine hK _ ?_
  clear hK K
  generalize hA2 : (HAppend.hAppend A1 _ : ByteArray) = A2
  have zA2 : A2.size = 7 := by rw [← hA2, ByteArray.size_append, zA1, zA]; try rfl
  have HA2 := Lib.hid hA2
  clear hA2
  refine wpStill_step (fun K hK => ?_)
  go_simp
  refine hK _ ?_
  clear hK K
  generalize hA3 : (HAppend.hAppend A2 _ : ByteArray) = A3
  have zA3 : A3.size = 8 := by rw [← hA3, ByteArray.size_append, zA2]; try rfl
  have HA3 := Lib.hid hA3
  clear hA3
  still_step
  refine wpStill_step (fun K hK => ?_)
  go_simp
  refine hK _ ?_
  clear hK K
  generalize hA4 : (HAppend.hAppend A3 _ : ByteArray) = A4
  have zA4 : A4.size = 11 := by rw [← hA4, ByteArray.size_append, zA3, zM]; try rfl
  have HA4 := Lib.hid hA4
  clear hA4
  refine wpStill_step (fun K hK => ?_)
  go_simp
  refine hK _ ?_
  clear hK K
  generalize hA5 : (HAppend.hAppend A4 _ : ByteArray) = A5
  have zA5 : A5.size = 12 := by rw [← hA5, ByteArray.size_append, zA4]; try rfl
  have HA5 := Lib.hid hA5
  clear hA5
  still_step
  refine wpStill_step (fun K hK => ?_)
  go_simp
  refine hK _ ?_
  clear hK K
  generalize hA6 : (HAppend.hAppend A5 _ : ByteArray) = A6
  have zA6 : A6.size = 16 := by rw [← hA6, ByteArray.size_append, zA5, zY]; try rfl
  have HA6 := Lib.hid hA6
  clear hA6
  refine wpStill_step (fun K hK => ?_)
  go_simp
  refine hK _ ?_
  clear hK K
  generalize hA7 : (HAppend.hAppend A6 _ : ByteArray) = A7
  have zA7 : A7.size = 17 := by rw [← hA7, ByteArray.size_append, zA6]; try rfl
  have HA7 := Lib.hid hA7
  clear hA7
  still_step
  refine wpStill_step (fun K hK => ?_)
  go_simp
  refine hK _ ?_
  clear hK K
  generalize hA8 : (HAppend.hAppend A7 _ : ByteArray) = A8
  have zA8 : A8.size = 25 := by rw [← hA8, ByteArray.size_append, zA7, zT]; try rfl
  have HA8 := Lib.hid hA8
  clear hA8
  refine wpStill_step (fun K hK => ?_)
  go_simp
  refine hK _ ?_
  clear hK K
  generalize hA9 : (HAppend.hAppend A8 _ : ByteArray) = A9
  have zA9 : A9.size = 29 := by rw [← hA9, ByteArray.size_append, zA8]; try rfl
  have HA9 := Lib.hid hA9
  clear hA9
  still_step
  refine wpStill_step (fun K hK => ?_)
  go_simp
  refine hK _ ?_
  clear hK K
  generalize hB1 : (HAppend.hAppend DN _ : ByteArray) = B1
  have zB1 : B1.size ≤ 11 := by rw [← hB1, ByteArray.size_append]; first | omega | (simp only [show ∀ l : Array UInt8, (⟨l⟩ : ByteArray).size = l.size from fun _ => rfl]; simp; omega)
  have qB1 := fun n h => big B1 n (by omega) h
  have HB1 := Lib.hid hB1
  clear hB1
  still_step
  still_step
  still_call (same (hPA _ (by omega) (by omega)))
  refine wpStill_step (fun K hK => ?_)
  go_simp
  refine hK _ ?_
  clear hK K
  generalize hB2 : (HAppend.hAppend B1 _ : ByteArray) = B2
  have zB2 : B2.size ≤ 13 := by rw [← hB2, ByteArray.size_append, zA]; first | omega | (simp only [show ∀ l : Array UInt8, (⟨l⟩ : ByteArray).size = l.size from fun _ => rfl]; simp; omega)
  have qB2 := fun n h => big B2 n (by omega) h
  have HB2 := Lib.hid hB2
  clear hB2
  refine wpStill_step (fun K hK => ?_)
  go_simp
  refine hK _ ?_
  clear hK K
  generalize hB3 : (HAppend.hAppend B2 _ : ByteArray) = B3
  have zB3 : B3.size ≤ 14 := by rw [← hB3, ByteArray.size_append]; first | omega | (simp only [show ∀ l : Array UInt8, (⟨l⟩ : ByteArray).size = l.size from fun _ => rfl]; simp; omega)
  have qB3 := fun n h => big B3 n (by omega) h
  have HB3 := Lib.hid hB3
  clear hB3
  still_step
  refine wpStill_step (fun K hK => ?_)
  go_simp
  refine hK _ ?_
  clear hK K
  generalize hB4 : (HAppend.hAppend B3 _ : ByteArray) = B4
  have zB4 : B4.size ≤ 17 := by rw [← hB4, ByteArray.size_append, zM]; first | omega | (simp only [show ∀ l : Array UInt8, (⟨l⟩ : ByteArray).size = l.size from fun _ => rfl]; simp; omega)
  have qB4 := fun n h => big B4 n (by omega) h
  have HB4 := Lib.hid hB4
  clear hB4
  refine wpStill_step (fun K hK => ?_)
  go_simp
  refine hK _ ?_
  clear hK K
  generalize hB5 : (HAppend.hAppend B4 _ : ByteArray) = B5
  have zB5 : B5.size ≤ 18 := by rw [← hB5, ByteArray.size_append]; first | omega | (simp only [show ∀ l : Array UInt8, (⟨l⟩ : ByteArray).size = l.size from fun _ => rfl]; simp; omega)
  have qB5 := fun n h => big B5 n (by omega) h
  have HB5 := Lib.hid hB5
  clear hB5
  still_step
  still_step
  refine wpStill_step (fun K hK => ?_)
  go_simp
  refine hK _ ?_
  clear hK K
  generalize hB6 : (HAppend.hAppend B5 _ : ByteArray) = B6
  have zB6 : B6.size ≤ 20 := by rw [← hB6, ByteArray.size_append, zY5]; first | omega | (simp only [show ∀ l : Array UInt8, (⟨l⟩ : ByteArray).size = l.size from fun _ => rfl]; simp; omega)
  have qB6 := fun n h => big B6 n (by omega) h
  have HB6 := Lib.hid hB6
  clear hB6
  refine wpStill_step (fun K hK => ?_)
  go_simp
  refine hK _ ?_
  clear hK K
  generalize hB7 : (HAppend.hAppend B6 _ : ByteArray) = B7
  have zB7 : B7.size ≤ 21 := by rw [← hB7, ByteArray.size_append]; first | omega | (simp only [show ∀ l : Array UInt8, (⟨l⟩ : ByteArray).size = l.size from fun _ => rfl]; simp; omega)
  have qB7 := fun n h => big B7 n (by omega) h
  have HB7 := Lib.hid hB7
  clear hB7
  still_step
  refine wpStill_step (fun K hK => ?_)
  go_simp
  refine hK _ ?_
  clear hK K
  generalize hB8 : (HAppend.hAppend B7 _ : ByteArray) = B8
  have zB8 : B8.size ≤ 29 := by rw [← hB8, ByteArray.size_append, zT]; first | omega | (simp only [show ∀ l : Array UInt8, (⟨l⟩ : ByteArray).size = l.size from fun _ => rfl]; simp; omega)
  have qB8 := fun n h => big B8 n (by omega) h
  have HB8 := Lib.hid hB8
  clear hB8
  refine wpStill_step (fun K hK => ?_)
  go_simp
  refine hK _ ?_
  clear hK K
  generalize hB9 : (HAppend.hAppend B8 _ : ByteArray) = B9
  have zB9 : B9.size ≤ 33 := by rw [← hB9, ByteArray.size_append]; first | omega | (simp only [show ∀ l : Array UInt8, (⟨l⟩ : ByteArray).size = l.size from fun _ => rfl]; simp; omega)
  have qB9 := fun n h => big B9 n (by omega) h
  have HB9 := Lib.hid hB9
  clear hB9
  still_step
  still_step
  refine wpStill_step (fun K hK => ?_)
  go_simp
  refine hK _ ?_
  clear hK K
  generalize hC1 : (HAppend.hAppend (DN.extract 0 3) _ : ByteArray) = C1
  have zC1 : C1.size = 4 := by rw [← hC1, ByteArray.size_append, zD5]; try rfl
  have HC1 := Lib.hid hC1
  clear hC1
  still_step
  refine wpStill_step (fun K hK => ?_)
  go_simp
  refine hK _ ?_
  clear hK K
  generalize hC2 : (HAppend.hAppend C1 _ : ByteArray) = C2
  have zC2 : C2.size = 7 := by rw [← hC2, ByteArray.size_append, zC1, zM]; try rfl
  have HC2 := Lib.hid hC2
  clear hC2
  refine wpStill_step (fun K hK => ?_)
  go_simp
  refine hK _ ?_
  clear hK K
  generalize hC3 : (HAppend.hAppend C2 _ : ByteArray) = C3
  have zC3 : C3.size = 8 := by rw [← hC3, ByteArray.size_append, zC2]; try rfl
  have HC3 := Lib.hid hC3
  clear hC3
  still_step
  still_step
  still_call (same (hPB _ (by omega) (by omega)))
  refine wpStill_step (fun K hK => ?_)
  go_simp
  refine hK _ ?_
  clear hK K
  generalize hC4 : (HAppend.hAppend C3 _ : ByteArray) = C4
  have zC4 : C4.size = 10 := by rw [← hC4, ByteArray.size_append, zC3, zB]; try rfl
  have HC4 := Lib.hid hC4
  clear hC4
  refine wpStill_step (fun K hK => ?_)
  go_simp
  refine hK _ ?_
  clear hK K
  generalize hC5 : (HAppend.hAppend C4 _ : ByteArray) = C5
  have zC5 : C5.size = 11 := by rw [← hC5, ByteArray.size_append, zC4]; try rfl
  have HC5 := Lib.hid hC5
  clear hC5
  still_step
  refine wpStill_step (fun K hK => ?_)
  go_simp
  refine hK _ ?_
  clear hK K
  generalize hC6 : (HAppend.hAppend C5 _ : ByteArray) = C6
  have zC6 : C6.size = 19 := by rw [← hC6, ByteArray.size_append, zC5, zT]; try rfl
  have HC6 := Lib.hid hC6
  clear hC6
  refine wpStill_step (fun K hK => ?_)
  go_simp
  refine hK _ ?_
  clear hK K
  generalize hC7 : (HAppend.hAppend C6 _ : ByteArray) = C7
  have zC7 : C7.size = 20 := by rw [← hC7, ByteArray.size_append, zC6]; try rfl
  have HC7 := Lib.hid hC7
  clear hC7
  still_step
  refine wpStill_step (fun K hK => ?_)
  go_simp
  refine hK _ ?_
  clear hK K
  generalize hC8 : (HAppend.hAppend C7 _ : ByteArray) = C8
  have zC8 : C8.size = 24 := by rw [← hC8, ByteArray.size_append, zC7, zY]; try rfl
  have HC8 := Lib.hid hC8
  clear hC8
  still_step
  refine wpStill_nil ?_
  change wpList _ _ _ _ _ w4.drew
  clear fz r0 r1 r2 big qB1 qB2 qB3 qB4 qB5 qB6 qB7 qB8 qB9 hD hPA hPB
  have HBl := Lib.hid (HB.out.drew)
  have hR5 : w4.drew.heap[w.heap.size]? = some (.cells #[.string ⟨#[]⟩, .string ⟨#[]⟩, .string ⟨#[]⟩] 31) := hR3
  generalize w4.drew = w5 at HBl hR5 ⊢
  clear hR3 HB c2'
  have r0 : w5.cell? ⟨w.heap.size, 0, none⟩ = some (.string ⟨#[]⟩) := by simp only [World.cell?, hR5]; rfl
  have r1 : w5.cell? ⟨w.heap.size, 1, none⟩ = some (.string ⟨#[]⟩) := by simp only [World.cell?, hR5]; rfl
  have r2 : w5.cell? ⟨w.heap.size, 2, none⟩ = some (.string ⟨#[]⟩) := by simp only [World.cell?, hR5]; rfl
  have fz0 : w5.frozen? ⟨w.heap.size, 0, none⟩ = false := by simp only [World.frozen?, hR5]; simp
  have fz1 : w5.frozen? ⟨w.heap.size, 1, none⟩ = false := by simp only [World.frozen?, hR5]; simp
  have fz2 : w5.frozen? ⟨w.heap.size, 2, none⟩ = false := by simp only [World.frozen?, hR5]; simp
  clear hR5
  go_wp2_with fail
  have e0 : A9 = str (Dt.form a 0) := by
    rw [HF.out.1, ← HA9.out, ← HA8.out, ← HA7.out, ← HA6.out, ← HA5.out, ← HA4.out, ← HA3.out, ← HA2.out, ← HA1.out, ← HT.out]
    obtain ⟨e1, e2, e3, e4, e5, e6, e7, e8⟩ := HE.out
    rw [← e1, ← e2, ← e3, ← e4, ← e5, ← e6, ← e7]
    exact cat0 _ _ _ _ _ _ _
  have e1 : B9 = str (Dt.form a 1) := by
    rw [HF.out.2.1, ← HB9.out, ← HB8.out, ← HB7.out, ← HB6.out, ← HB5.out, ← HB4.out, ← HB3.out, ← HB2.out, ← HB1.out, ← HT.out]
    obtain ⟨e1, e2, e3, e4, e5, e6, e7, e8⟩ := HE.out
    rw [← e1, ← e2, ← e3, ← e4, ← e5, ← e6, ← e7]
    exact cat1 _ _ _ _ _ _ _ _ (d4_drop y (by omega))
  have e2 : C8 = str (Dt.form a 2) := by
    rw [HF.out.2.2, ← HC8.out, ← HC7.out, ← HC6.out, ← HC5.out, ← HC4.out, ← HC3.out, ← HC2.out, ← HC1.out, ← HT.out]
    obtain ⟨e1, e2, e3, e4, e5, e6, e7, e8⟩ := HE.out
    rw [← e1, ← e2, ← e3, ← e4, ← e5, ← e6, ← e8]
    exact cat2 _ _ _ _ _ _ _
  clear HA1 HA2 HA3 HA4 HA5 HA6 HA7 HA8 HA9 HB1 HB2 HB3 HB4 HB5 HB6 HB7 HB8 HB9 HC1 HC2 HC3 HC4 HC5 HC6 HC7 HC8
  refine bodyPost_ret (v := .agg #[.string A9, .string B9, .string C8]) (by simp [results, Tryd.results17, go_sem, r0, r1, r2]) rfl ⟨by rw [e0, e1, e2], ?_⟩
  exact ((HBl.out.setCell (Nat.le_refl _) _).setCell (Nat.le_refl _) _).setCell (Nat.le_refl _) _

end Go.Proofs.YtlmcolpoaedclaaDoor
