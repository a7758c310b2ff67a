/- The document's own answer for package date: forms. -/
import Derived.Test.YtlmcolpoaedclaaDoorDt11
namespace Go.Proofs.YtlmcolpoaedclaaDoor
open Go.RowKit

theorem cat2' (dn mn yn h i s : List UInt8) (ad : ByteArray) (al : List UInt8) (ha : ad = str al) : (str dn).extract 0 3 ++ (⟨#[32]⟩ : ByteArray) ++ str mn ++ ⟨#[32]⟩ ++ ad ++ ⟨#[32]⟩ ++ (str h ++ (⟨#[58]⟩ : ByteArray) ++ str i ++ ⟨#[58]⟩ ++ str s) ++ ⟨#[32]⟩ ++ str yn =
    str (dn.take 3 ++ 32 :: (mn ++ 32 :: (al ++ 32 :: ((h ++ 58 :: (i ++ 58 :: s)) ++ 32 :: yn)))) := by
  subst ha; exact cat2 _ _ _ _ _ _ _
theorem cat1' (dn ad mn h i s y2 : List UInt8) : str dn ++ (⟨#[44, 32]⟩ : ByteArray) ++ str ad ++ ⟨#[45]⟩ ++ str mn ++ ⟨#[45]⟩ ++ str y2 ++ ⟨#[32]⟩ ++ (str h ++ (⟨#[58]⟩ : ByteArray) ++ str i ++ ⟨#[58]⟩ ++ str s) ++ ⟨#[32, 71, 77, 84]⟩ =
    str (dn ++ 44 :: (32 :: (ad ++ 45 :: (mn ++ 45 :: (y2 ++ 32 :: ((h ++ 58 :: (i ++ 58 :: s)) ++ 32 :: Dt.gmt)))))) := by
  rw [show (⟨#[44, 32]⟩ : ByteArray) = str [44, 32] from rfl, show (⟨#[32]⟩ : ByteArray) = str [32] from rfl, show (⟨#[45]⟩ : ByteArray) = str [45] from rfl, show (⟨#[58]⟩ : ByteArray) = str [58] from rfl, show (⟨#[32, 71, 77, 84]⟩ : ByteArray) = str [32, 71, 77, 84] from rfl]
  simp only [str_app]
  congr 1
  simp [Dt.gmt]
theorem db_cut (d : Int) (h : d < 10) : (⟨#[32]⟩ : ByteArray) ++ (str (Dt.d2 d)).extract 1 2 = str (Dt.db d) := by
  rw [show (⟨#[32]⟩ : ByteArray) = str [32] from rfl, str_ext, str_app]
  unfold Dt.db Dt.d2
  rw [if_pos h]; rfl
theorem db_same (d : Int) (h : ¬ d < 10) : str (Dt.d2 d) = str (Dt.db d) := by
  unfold Dt.db Dt.d2
  rw [if_neg h]

set_option maxHeartbeats 16000000 in
theorem Form_0 (a : Int) (w : World) (a0 : 0 ≤ a) (a1 : a ≤ 253402300799) :
    Calls Tryd.prog 14 #[.int .i64 a, .int .i64 0] w fun e w' => e = .returned (.string (str (Dt.form a 0))) ∧ Below w.heap.size w w' := by
  obtain ⟨y, m', d, hd⟩ := Dt.exDate (a / 86400) (by omega) (by omega)
  obtain ⟨m, rfl⟩ : ∃ k : Nat, m' = k := ⟨m'.toNat, by have := hd.m0; omega⟩
  obtain ⟨s, hs⟩ : ∃ s, a % 86400 = s := ⟨_, rfl⟩
  have s0 : 0 ≤ s := by omega
  have s1 : s < 86400 := by omega
  obtain ⟨k, hk⟩ : ∃ k : Nat, Dt.wday (a / 86400) = k := ⟨(Dt.wday (a / 86400)).toNat, by have := Dt.wday_bd (a / 86400); omega⟩
  have hk7 : k < 7 := by have := Dt.wday_bd (a / 86400); omega
  have HF : Hid (Dt.form a 0 = Dt.f0 y m d k s ∧ Dt.form a 1 = Dt.f1 y m d k s ∧ Dt.form a 2 = Dt.f2 y m d k s) := by
    rw [Dt.form0 hd, Dt.form1 hd, Dt.form2 hd, hk, hs]; exact ⟨rfl, rfl, rfl⟩
  have hW := When_c a y d m w a0 a1 hd
  rw [hk] at hW
  have y0 := hd.y0
  have y1 := hd.y1
  have hm : m < 12 := by have := hd.m1; omega
  have d0 := hd.d0
  have d1 : d ≤ 31 := by have := hd.d1; have := Dt.ml_bd y m; omega
  obtain ⟨DN, hDN⟩ : ∃ x, str (Dt.dayNames.getD k []) = x := ⟨_, rfl⟩
  obtain ⟨MN, hMN⟩ : ∃ x, monS m = x := ⟨_, rfl⟩
  obtain ⟨YN, hYN⟩ : ∃ x, str (Dt.d4 y) = x := ⟨_, rfl⟩
  obtain ⟨ZN, hZN⟩ : ∃ x, str (Dt.d2 (y % 100)) = x := ⟨_, rfl⟩
  obtain ⟨HN, hHN⟩ : ∃ x, str (Dt.d2 (s / 3600)) = x := ⟨_, rfl⟩
  obtain ⟨IN, hIN⟩ : ∃ x, str (Dt.d2 (s / 60 % 60)) = x := ⟨_, rfl⟩
  obtain ⟨SN, hSN⟩ : ∃ x, str (Dt.d2 (s % 60)) = x := ⟨_, rfl⟩
  obtain ⟨AN, hAN⟩ : ∃ x, str (Dt.d2 d) = x := ⟨_, rfl⟩
  have hPD := Day_c k
  have hPM := Month_c m
  have hPY := dig4 y
  have hPZ := dig2 (y % 100)
  have hPH := dig2 (s / 3600)
  have hPI := dig2 (s / 60 % 60)
  have hPS := dig2 (s % 60)
  have hPA := dig2 d
  rw [hDN] at hPD
  rw [hMN] at hPM
  rw [hYN] at hPY
  rw [hZN] at hPZ
  rw [hHN] at hPH
  rw [hIN] at hPI
  rw [hSN] at hPS
  rw [hAN] at hPA
  have zD : 6 ≤ DN.size ∧ DN.size ≤ 9 := by rw [← hDN, str_size]; have := (Dt.dayN_all (w := k) (by omega) (by omega)).2.2; exact this
  have zM : MN.size = 3 := by rw [← hMN]; unfold monS; rw [str_size]; have := (Dt.monN_all (m := m) (by omega) (by omega)).2; exact this
  have zY : YN.size = 4 := by rw [← hYN, str_size]; rfl
  have zZ : ZN.size = 2 := by rw [← hZN, str_size]; rfl
  have zH : HN.size = 2 := by rw [← hHN, str_size]; rfl
  have zI : IN.size = 2 := by rw [← hIN, str_size]; rfl
  have zS : SN.size = 2 := by rw [← hSN, str_size]; rfl
  have zA : AN.size = 2 := by rw [← hAN, str_size]; rfl
  obtain ⟨zD1, zD2⟩ := zD
  have zD3 : (3 : Int) ≤ (DN.size : Int) := by omega
  have zD4 : min 3 DN.size = 3 := by omega
  have zD5 : (DN.extract 0 3).size = 3 := by simp [zD4]
  unfold monS at hMN
  have HE := Lib.hid (And.intro hDN (And.intro hMN (And.intro hYN (And.intro hZN (And.intro hHN (And.intro hIN (And.intro hSN hAN)))))))
  clear hDN hMN hYN hZN hHN hIN hSN hAN hd hk
  go_enter Tryd.func14, Tryd.ntmps14
  go_wp2_with fail
  refine hW.mono ?_
  rintro e w1 ⟨rfl, hb1⟩
  clear hW
  go_wp2_with fail
  with_reducible refine (hPH _ (by omega) (by omega)).mono ?_
  rintro e w2 ⟨rfl, hb2⟩
  have hB2 := bt hb1 hb2
  clear hb1 hb2 hPH
  go_wp2_with fail
  with_reducible refine (hPI _ (by omega) (by omega)).mono ?_
  rintro e w3 ⟨rfl, hb3⟩
  have hB3 := bt hB2 hb3
  clear hB2 hb3 hPI
  go_wp2_with fail
  with_reducible refine (hPS _ (by omega) (by omega)).mono ?_
  rintro e w4 ⟨rfl, hb4⟩
  have hB4 := bt hB3 hb4
  clear hB3 hb4 hPS
  obtain ⟨TN, hTN⟩ : ∃ x, HN ++ (⟨#[58]⟩ : ByteArray) ++ IN ++ ⟨#[58]⟩ ++ SN = x := ⟨_, rfl⟩
  have zT : TN.size = 8 := by rw [← hTN]; simp [zH, zI, zS]; rfl
  go_wp2_with fail

  have HT := Lib.hid hTN
  clear hTN zH zI zS hs
  refine wp_region_late (by kernel_rfl) (by kernel_rfl) ?_
  quiet_step (fail)
  quiet_step ((go_at_call 21; exact late _ (hPD _ hk7)))
  quiet_step (fail)
  refine wpQuiet_step (fun K hK => ?_)
  go_simp
  refine hK _ ?_
  clear hK K
  generalize hA1 : (HAppend.hAppend (DN.extract 0 3) _ : ByteArray) = A1
  have zA1 : A1.size = 5 := by rw [← hA1, ByteArray.size_append, zD5]; try rfl
  have HA1 := Lib.hid hA1
  clear hA1
  quiet_step (fail)
  quiet_step ((go_at_call 22; exact late _ (hPA _ (by omega) (by omega))))
  refine wpQuiet_step (fun K hK => ?_)
  go_simp
  refine hK _ ?_
  clear hK K
  generalize hA2 : (HAppend.hAppend A1 _ : ByteArray) = A2
  have zA2 : A2.size = 7 := by rw [← hA2, ByteArray.size_append, zA1, zA]; try rfl
  have HA2 := Lib.hid hA2
  clear hA2
  refine wpQuiet_step (fun K hK => ?_)
  go_simp
  refine hK _ ?_
  clear hK K
  generalize hA3 : (HAppend.hAppend A2 _ : ByteArray) = A3
  have zA3 : A3.size = 8 := by rw [← hA3, ByteArray.size_append, zA2]; try rfl
  have HA3 := Lib.hid hA3
  clear hA3
  quiet_step (fail)
  quiet_step ((go_at_call 23; exact late _ (hPM _ hm)))
  refine wpQuiet_step (fun K hK => ?_)
  go_simp
  refine hK _ ?_
  clear hK K
  generalize hA4 : (HAppend.hAppend A3 _ : ByteArray) = A4
  have zA4 : A4.size = 11 := by rw [← hA4, ByteArray.size_append, zA3, zM]; try rfl
  have HA4 := Lib.hid hA4
  clear hA4
  refine wpQuiet_step (fun K hK => ?_)
  go_simp
  refine hK _ ?_
  clear hK K
  generalize hA5 : (HAppend.hAppend A4 _ : ByteArray) = A5
  have zA5 : A5.size = 12 := by rw [← hA5, ByteArray.size_append, zA4]; try rfl
  have HA5 := Lib.hid hA5
  clear hA5
  quiet_step (fail)
  quiet_step ((go_at_call 22; exact late _ (hPY _ (by omega) (by omega))))
  refine wpQuiet_step (fun K hK => ?_)
  go_simp
  refine hK _ ?_
  clear hK K
  generalize hA6 : (HAppend.hAppend A5 _ : ByteArray) = A6
  have zA6 : A6.size = 16 := by rw [← hA6, ByteArray.size_append, zA5, zY]; try rfl
  have HA6 := Lib.hid hA6
  clear hA6
  refine wpQuiet_step (fun K hK => ?_)
  go_simp
  refine hK _ ?_
  clear hK K
  generalize hA7 : (HAppend.hAppend A6 _ : ByteArray) = A7
  have zA7 : A7.size = 17 := by rw [← hA7, ByteArray.size_append, zA6]; try rfl
  have HA7 := Lib.hid hA7
  clear hA7
  quiet_step (fail)
  refine wpQuiet_step (fun K hK => ?_)
  go_simp
  refine hK _ ?_
  clear hK K
  generalize hA8 : (HAppend.hAppend A7 _ : ByteArray) = A8
  have zA8 : A8.size = 25 := by rw [← hA8, ByteArray.size_append, zA7, zT]; try rfl
  have HA8 := Lib.hid hA8
  clear hA8
  refine wpQuiet_step (fun K hK => ?_)
  go_simp
  refine hK _ ?_
  clear hK K
  generalize hA9 : (HAppend.hAppend A8 _ : ByteArray) = A9
  have zA9 : A9.size = 29 := by rw [← hA9, ByteArray.size_append, zA8]; try rfl
  have HA9 := Lib.hid hA9
  clear hA9
  quiet_step (fail)
  refine wpQuiet_nil ?_
  intro w5 hw'
  have hb5 : Below w4.heap.size w4 w5 := by obtain ⟨p, rfl⟩ := hw'; exact p.h
  clear hw'
  go_wp2_with fail
  go_ret
  have e0 : A9 = str (Dt.form a 0) := by
    rw [HF.out.1, ← HA9.out, ← HA8.out, ← HA7.out, ← HA6.out, ← HA5.out, ← HA4.out, ← HA3.out, ← HA2.out, ← HA1.out, ← HT.out]
    obtain ⟨e1, e2, e3, e4, e5, e6, e7, e8⟩ := HE.out
    rw [← e1, ← e2, ← e3, ← e5, ← e6, ← e7, ← e8]
    exact cat0 _ _ _ _ _ _ _
  exact ⟨ret_str e0, bt hB4 hb5⟩

set_option maxHeartbeats 16000000 in
theorem Form_1 (a : Int) (w : World) (a0 : 0 ≤ a) (a1 : a ≤ 253402300799) :
    Calls Tryd.prog 14 #[.int .i64 a, .int .i64 1] w fun e w' => e = .returned (.string (str (Dt.form a 1))) ∧ Below w.heap.size w w' := by
  obtain ⟨y, m', d, hd⟩ := Dt.exDate (a / 86400) (by omega) (by omega)
  obtain ⟨m, rfl⟩ : ∃ k : Nat, m' = k := ⟨m'.toNat, by have := hd.m0; omega⟩
  obtain ⟨s, hs⟩ : ∃ s, a % 86400 = s := ⟨_, rfl⟩
  have s0 : 0 ≤ s := by omega
  have s1 : s < 86400 := by omega
  obtain ⟨k, hk⟩ : ∃ k : Nat, Dt.wday (a / 86400) = k := ⟨(Dt.wday (a / 86400)).toNat, by have := Dt.wday_bd (a / 86400); omega⟩
  have hk7 : k < 7 := by have := Dt.wday_bd (a / 86400); omega
  have HF : Hid (Dt.form a 0 = Dt.f0 y m d k s ∧ Dt.form a 1 = Dt.f1 y m d k s ∧ Dt.form a 2 = Dt.f2 y m d k s) := by
    rw [Dt.form0 hd, Dt.form1 hd, Dt.form2 hd, hk, hs]; exact ⟨rfl, rfl, rfl⟩
  have hW := When_c a y d m w a0 a1 hd
  rw [hk] at hW
  have y0 := hd.y0
  have y1 := hd.y1
  have hm : m < 12 := by have := hd.m1; omega
  have d0 := hd.d0
  have d1 : d ≤ 31 := by have := hd.d1; have := Dt.ml_bd y m; omega
  obtain ⟨DN, hDN⟩ : ∃ x, str (Dt.dayNames.getD k []) = x := ⟨_, rfl⟩
  obtain ⟨MN, hMN⟩ : ∃ x, monS m = x := ⟨_, rfl⟩
  obtain ⟨YN, hYN⟩ : ∃ x, str (Dt.d4 y) = x := ⟨_, rfl⟩
  obtain ⟨ZN, hZN⟩ : ∃ x, str (Dt.d2 (y % 100)) = x := ⟨_, rfl⟩
  obtain ⟨HN, hHN⟩ : ∃ x, str (Dt.d2 (s / 3600)) = x := ⟨_, rfl⟩
  obtain ⟨IN, hIN⟩ : ∃ x, str (Dt.d2 (s / 60 % 60)) = x := ⟨_, rfl⟩
  obtain ⟨SN, hSN⟩ : ∃ x, str (Dt.d2 (s % 60)) = x := ⟨_, rfl⟩
  obtain ⟨AN, hAN⟩ : ∃ x, str (Dt.d2 d) = x := ⟨_, rfl⟩
  have hPD := Day_c k
  have hPM := Month_c m
  have hPY := dig4 y
  have hPZ := dig2 (y % 100)
  have hPH := dig2 (s / 3600)
  have hPI := dig2 (s / 60 % 60)
  have hPS := dig2 (s % 60)
  have hPA := dig2 d
  rw [hDN] at hPD
  rw [hMN] at hPM
  rw [hYN] at hPY
  rw [hZN] at hPZ
  rw [hHN] at hPH
  rw [hIN] at hPI
  rw [hSN] at hPS
  rw [hAN] at hPA
  have zD : 6 ≤ DN.size ∧ DN.size ≤ 9 := by rw [← hDN, str_size]; have := (Dt.dayN_all (w := k) (by omega) (by omega)).2.2; exact this
  have zM : MN.size = 3 := by rw [← hMN]; unfold monS; rw [str_size]; have := (Dt.monN_all (m := m) (by omega) (by omega)).2; exact this
  have zY : YN.size = 4 := by rw [← hYN, str_size]; rfl
  have zZ : ZN.size = 2 := by rw [← hZN, str_size]; rfl
  have zH : HN.size = 2 := by rw [← hHN, str_size]; rfl
  have zI : IN.size = 2 := by rw [← hIN, str_size]; rfl
  have zS : SN.size = 2 := by rw [← hSN, str_size]; rfl
  have zA : AN.size = 2 := by rw [← hAN, str_size]; rfl
  obtain ⟨zD1, zD2⟩ := zD
  have zD3 : (3 : Int) ≤ (DN.size : Int) := by omega
  have zD4 : min 3 DN.size = 3 := by omega
  have zD5 : (DN.extract 0 3).size = 3 := by simp [zD4]
  unfold monS at hMN
  have HE := Lib.hid (And.intro hDN (And.intro hMN (And.intro hYN (And.intro hZN (And.intro hHN (And.intro hIN (And.intro hSN hAN)))))))
  clear hDN hMN hYN hZN hHN hIN hSN hAN hd hk
  go_enter Tryd.func14, Tryd.ntmps14
  go_wp2_with fail
  refine hW.mono ?_
  rintro e w1 ⟨rfl, hb1⟩
  clear hW
  go_wp2_with fail
  with_reducible refine (hPH _ (by omega) (by omega)).mono ?_
  rintro e w2 ⟨rfl, hb2⟩
  have hB2 := bt hb1 hb2
  clear hb1 hb2 hPH
  go_wp2_with fail
  with_reducible refine (hPI _ (by omega) (by omega)).mono ?_
  rintro e w3 ⟨rfl, hb3⟩
  have hB3 := bt hB2 hb3
  clear hB2 hb3 hPI
  go_wp2_with fail
  with_reducible refine (hPS _ (by omega) (by omega)).mono ?_
  rintro e w4 ⟨rfl, hb4⟩
  have hB4 := bt hB3 hb4
  clear hB3 hb4 hPS
  obtain ⟨TN, hTN⟩ : ∃ x, HN ++ (⟨#[58]⟩ : ByteArray) ++ IN ++ ⟨#[58]⟩ ++ SN = x := ⟨_, rfl⟩
  have zT : TN.size = 8 := by rw [← hTN]; simp [zH, zI, zS]; rfl
  go_wp2_with fail

  have HT := Lib.hid hTN
  have big (Z : ByteArray) (n : Nat) (h : Z.size ≤ 100) (h' : n ≤ 1000) : ¬ 9223372036854775807 < Z.size + n := by omega
  have qD := fun n h => big DN n (by omega) h
  clear hTN zH zI zS hs
  with_reducible refine (hPD _ hk7).mono ?_
  rintro e w5 ⟨rfl, hb5⟩
  have hB5 := bt hB4 hb5
  clear hB4 hb5
  go_wp2_with fail
  generalize hC1 : (HAppend.hAppend DN _ : ByteArray) = C1
  have zC1 : C1.size ≤ 11 := by rw [← hC1, ByteArray.size_append]; simp only [show ∀ l : Array UInt8, (⟨l⟩ : ByteArray).size = l.size from fun _ => rfl]; simp; omega
  have qC1 := fun n h => big C1 n (by omega) h
  have HC1 := Lib.hid hC1
  clear hC1 qD
  with_reducible refine (hPA _ (by omega) (by omega)).mono ?_
  rintro e w6 ⟨rfl, hb6⟩
  have hB6 := bt hB5 hb6
  clear hB5 hb6
  go_wp2_with fail
  generalize hC2 : (HAppend.hAppend C1 AN : ByteArray) = C2
  generalize hC3 : (HAppend.hAppend C2 _ : ByteArray) = C3
  have zC3 : C3.size ≤ 14 := by rw [← hC3, ByteArray.size_append, ← hC2, ByteArray.size_append, zA]; simp only [show ∀ l : Array UInt8, (⟨l⟩ : ByteArray).size = l.size from fun _ => rfl]; simp; omega
  have qC3 := fun n h => big C3 n (by omega) h
  have HC2 := Lib.hid hC2
  have HC3 := Lib.hid hC3
  clear hC2 hC3 qC1
  with_reducible refine (hPM _ hm).mono ?_
  rintro e w7 ⟨rfl, hb7⟩
  have hB7 := bt hB6 hb7
  clear hB6 hb7
  go_wp2_with fail
  generalize hC4 : (HAppend.hAppend C3 MN : ByteArray) = C4
  generalize hC5 : (HAppend.hAppend C4 _ : ByteArray) = C5
  have zC5 : C5.size ≤ 18 := by rw [← hC5, ByteArray.size_append, ← hC4, ByteArray.size_append, zM]; simp only [show ∀ l : Array UInt8, (⟨l⟩ : ByteArray).size = l.size from fun _ => rfl]; simp; omega
  have qC5 := fun n h => big C5 n (by omega) h
  have HC4 := Lib.hid hC4
  have HC5 := Lib.hid hC5
  clear hC4 hC5 qC3
  with_reducible refine (hPZ _ (by omega) (by omega)).mono ?_
  rintro e w8 ⟨rfl, hb8⟩
  have hB8 := bt hB7 hb8
  clear hB7 hb8
  have r2 : C5.size + 2 + 1 = C5.size + 3 := rfl
  have r3 : C5.size + 3 + 8 = C5.size + 11 := rfl
  have r4 : C5.size + 11 + 4 = C5.size + 15 := rfl
  go_wp2_with fail
  go_ret
  have e0 : C5 ++ ZN ++ (⟨#[32]⟩ : ByteArray) ++ TN ++ ⟨#[32, 71, 77, 84]⟩ = str (Dt.form a 1) := by
    rw [HF.out.2.1, ← HC5.out, ← HC4.out, ← HC3.out, ← HC2.out, ← HC1.out, ← HT.out]
    obtain ⟨e1, e2, e3, e4, e5, e6, e7, e8⟩ := HE.out
    rw [← e1, ← e2, ← e4, ← e5, ← e6, ← e7, ← e8]
    exact cat1' _ _ _ _ _ _ _
  exact ⟨ret_str e0, hB8⟩

set_option maxHeartbeats 16000000 in
theorem Form_2 (a : Int) (w : World) (a0 : 0 ≤ a) (a1 : a ≤ 253402300799) :
    Calls Tryd.prog 14 #[.int .i64 a, .int .i64 2] w fun e w' => e = .returned (.string (str (Dt.form a 2))) ∧ Below w.heap.size w w' := by
  obtain ⟨y, m', d, hd⟩ := Dt.exDate (a / 86400) (by omega) (by omega)
  obtain ⟨m, rfl⟩ : ∃ k : Nat, m' = k := ⟨m'.toNat, by have := hd.m0; omega⟩
  obtain ⟨s, hs⟩ : ∃ s, a % 86400 = s := ⟨_, rfl⟩
  have s0 : 0 ≤ s := by omega
  have s1 : s < 86400 := by omega
  obtain ⟨k, hk⟩ : ∃ k : Nat, Dt.wday (a / 86400) = k := ⟨(Dt.wday (a / 86400)).toNat, by have := Dt.wday_bd (a / 86400); omega⟩
  have hk7 : k < 7 := by have := Dt.wday_bd (a / 86400); omega
  have HF : Hid (Dt.form a 0 = Dt.f0 y m d k s ∧ Dt.form a 1 = Dt.f1 y m d k s ∧ Dt.form a 2 = Dt.f2 y m d k s) := by
    rw [Dt.form0 hd, Dt.form1 hd, Dt.form2 hd, hk, hs]; exact ⟨rfl, rfl, rfl⟩
  have hW := When_c a y d m w a0 a1 hd
  rw [hk] at hW
  have y0 := hd.y0
  have y1 := hd.y1
  have hm : m < 12 := by have := hd.m1; omega
  have d0 := hd.d0
  have d1 : d ≤ 31 := by have := hd.d1; have := Dt.ml_bd y m; omega
  obtain ⟨DN, hDN⟩ : ∃ x, str (Dt.dayNames.getD k []) = x := ⟨_, rfl⟩
  obtain ⟨MN, hMN⟩ : ∃ x, monS m = x := ⟨_, rfl⟩
  obtain ⟨YN, hYN⟩ : ∃ x, str (Dt.d4 y) = x := ⟨_, rfl⟩
  obtain ⟨ZN, hZN⟩ : ∃ x, str (Dt.d2 (y % 100)) = x := ⟨_, rfl⟩
  obtain ⟨HN, hHN⟩ : ∃ x, str (Dt.d2 (s / 3600)) = x := ⟨_, rfl⟩
  obtain ⟨IN, hIN⟩ : ∃ x, str (Dt.d2 (s / 60 % 60)) = x := ⟨_, rfl⟩
  obtain ⟨SN, hSN⟩ : ∃ x, str (Dt.d2 (s % 60)) = x := ⟨_, rfl⟩
  obtain ⟨AN, hAN⟩ : ∃ x, str (Dt.d2 d) = x := ⟨_, rfl⟩
  have hPD := Day_c k
  have hPM := Month_c m
  have hPY := dig4 y
  have hPZ := dig2 (y % 100)
  have hPH := dig2 (s / 3600)
  have hPI := dig2 (s / 60 % 60)
  have hPS := dig2 (s % 60)
  have hPA := dig2 d
  rw [hDN] at hPD
  rw [hMN] at hPM
  rw [hYN] at hPY
  rw [hZN] at hPZ
  rw [hHN] at hPH
  rw [hIN] at hPI
  rw [hSN] at hPS
  rw [hAN] at hPA
  have zD : 6 ≤ DN.size ∧ DN.size ≤ 9 := by rw [← hDN, str_size]; have := (Dt.dayN_all (w := k) (by omega) (by omega)).2.2; exact this
  have zM : MN.size = 3 := by rw [← hMN]; unfold monS; rw [str_size]; have := (Dt.monN_all (m := m) (by omega) (by omega)).2; exact this
  have zY : YN.size = 4 := by rw [← hYN, str_size]; rfl
  have zZ : ZN.size = 2 := by rw [← hZN, str_size]; rfl
  have zH : HN.size = 2 := by rw [← hHN, str_size]; rfl
  have zI : IN.size = 2 := by rw [← hIN, str_size]; rfl
  have zS : SN.size = 2 := by rw [← hSN, str_size]; rfl
  have zA : AN.size = 2 := by rw [← hAN, str_size]; rfl
  obtain ⟨zD1, zD2⟩ := zD
  have zD3 : (3 : Int) ≤ (DN.size : Int) := by omega
  have zD4 : min 3 DN.size = 3 := by omega
  have zD5 : (DN.extract 0 3).size = 3 := by simp [zD4]
  unfold monS at hMN
  have HE := Lib.hid (And.intro hDN (And.intro hMN (And.intro hYN (And.intro hZN (And.intro hHN (And.intro hIN (And.intro hSN hAN)))))))
  clear hDN hMN hYN hZN hHN hIN hSN hAN hd hk
  go_enter Tryd.func14, Tryd.ntmps14
  go_wp2_with fail
  refine hW.mono ?_
  rintro e w1 ⟨rfl, hb1⟩
  clear hW
  go_wp2_with fail
  with_reducible refine (hPH _ (by omega) (by omega)).mono ?_
  rintro e w2 ⟨rfl, hb2⟩
  have hB2 := bt hb1 hb2
  clear hb1 hb2 hPH
  go_wp2_with fail
  with_reducible refine (hPI _ (by omega) (by omega)).mono ?_
  rintro e w3 ⟨rfl, hb3⟩
  have hB3 := bt hB2 hb3
  clear hB2 hb3 hPI
  go_wp2_with fail
  with_reducible refine (hPS _ (by omega) (by omega)).mono ?_
  rintro e w4 ⟨rfl, hb4⟩
  have hB4 := bt hB3 hb4
  clear hB3 hb4 hPS
  obtain ⟨TN, hTN⟩ : ∃ x, HN ++ (⟨#[58]⟩ : ByteArray) ++ IN ++ ⟨#[58]⟩ ++ SN = x := ⟨_, rfl⟩
  have zT : TN.size = 8 := by rw [← hTN]; simp [zH, zI, zS]; rfl
  go_wp2_with fail
  have HT := Lib.hid hTN
  clear hTN zH zI zS hs
  with_reducible refine (hPA _ (by omega) (by omega)).mono ?_
  rintro e w9 ⟨rfl, hb9⟩
  have hB9 := bt hB4 hb9
  clear hB4 hb9
  by_cases hd10 : d < 10
  · have zX0 : (AN.extract 1 2).size = 1 := by simp [zA]
    go_wp2_with fail
    generalize hXN : (HAppend.hAppend (⟨#[32]⟩ : ByteArray) _ : ByteArray) = XN
    have zX : XN.size = 2 := by rw [← hXN, ByteArray.size_append, zX0]; rfl
    have HX : Hid (XN = str (Dt.db d)) := by
      show _ = _
      rw [← hXN, ← HE.out.2.2.2.2.2.2.2]; exact db_cut d hd10
    clear hXN
    refine wp_region_late (by kernel_rfl) (by kernel_rfl) ?_
    quiet_step (fail)
    quiet_step ((go_at_call 21; exact late _ (hPD _ hk7)))
    quiet_step (fail)
    refine wpQuiet_step (fun K hK => ?_)
    go_simp
    refine hK _ ?_
    clear hK K
    generalize hC1 : (HAppend.hAppend (DN.extract 0 3) _ : ByteArray) = C1
    have zC1 : C1.size = 4 := by rw [← hC1, ByteArray.size_append, zD5]; try rfl
    have HC1 := Lib.hid hC1
    clear hC1
    quiet_step (fail)
    quiet_step ((go_at_call 23; exact late _ (hPM _ hm)))
    refine wpQuiet_step (fun K hK => ?_)
    go_simp
    refine hK _ ?_
    clear hK K
    generalize hC2 : (HAppend.hAppend C1 _ : ByteArray) = C2
    have zC2 : C2.size = 7 := by rw [← hC2, ByteArray.size_append, zC1, zM]; try rfl
    have HC2 := Lib.hid hC2
    clear hC2
    refine wpQuiet_step (fun K hK => ?_)
    go_simp
    refine hK _ ?_
    clear hK K
    generalize hC3 : (HAppend.hAppend C2 _ : ByteArray) = C3
    have zC3 : C3.size = 8 := by rw [← hC3, ByteArray.size_append, zC2]; try rfl
    have HC3 := Lib.hid hC3
    clear hC3
    quiet_step (fail)
    refine wpQuiet_step (fun K hK => ?_)
    go_simp
    refine hK _ ?_
    clear hK K
    generalize hC4 : (HAppend.hAppend C3 _ : ByteArray) = C4
    have zC4 : C4.size = 10 := by rw [← hC4, ByteArray.size_append, zC3, zX]; try rfl
    have HC4 := Lib.hid hC4
    clear hC4
    refine wpQuiet_step (fun K hK => ?_)
    go_simp
    refine hK _ ?_
    clear hK K
    generalize hC5 : (HAppend.hAppend C4 _ : ByteArray) = C5
    have zC5 : C5.size = 11 := by rw [← hC5, ByteArray.size_append, zC4]; try rfl
    have HC5 := Lib.hid hC5
    clear hC5
    quiet_step (fail)
    refine wpQuiet_step (fun K hK => ?_)
    go_simp
    refine hK _ ?_
    clear hK K
    generalize hC6 : (HAppend.hAppend C5 _ : ByteArray) = C6
    have zC6 : C6.size = 19 := by rw [← hC6, ByteArray.size_append, zC5, zT]; try rfl
    have HC6 := Lib.hid hC6
    clear hC6
    refine wpQuiet_step (fun K hK => ?_)
    go_simp
    refine hK _ ?_
    clear hK K
    generalize hC7 : (HAppend.hAppend C6 _ : ByteArray) = C7
    have zC7 : C7.size = 20 := by rw [← hC7, ByteArray.size_append, zC6]; try rfl
    have HC7 := Lib.hid hC7
    clear hC7
    quiet_step (fail)
    quiet_step ((go_at_call 22; exact late _ (hPY _ (by omega) (by omega))))
    refine wpQuiet_step (fun K hK => ?_)
    go_simp
    refine hK _ ?_
    clear hK K
    generalize hC8 : (HAppend.hAppend C7 _ : ByteArray) = C8
    have zC8 : C8.size = 24 := by rw [← hC8, ByteArray.size_append, zC7, zY]; try rfl
    have HC8 := Lib.hid hC8
    clear hC8
    quiet_step (fail)
    refine wpQuiet_nil ?_
    intro w5 hw'
    have hb5 : Below w9.heap.size w9 w5 := by obtain ⟨p, rfl⟩ := hw'; exact p.h
    clear hw'
    go_wp2_with fail
    go_ret
    have e0 : C8 = str (Dt.form a 2) := by
      rw [HF.out.2.2, ← HC8.out, ← HC7.out, ← HC6.out, ← HC5.out, ← HC4.out, ← HC3.out, ← HC2.out, ← HC1.out, ← HT.out]
      obtain ⟨e1, e2, e3, e4, e5, e6, e7, e8⟩ := HE.out
      rw [← e1, ← e2, ← e3, ← e5, ← e6, ← e7]
      exact cat2' _ _ _ _ _ _ _ _ HX.out
    exact ⟨ret_str e0, bt hB9 hb5⟩
  · have HX : Hid (AN = str (Dt.db d)) := by
      show _ = _
      rw [← HE.out.2.2.2.2.2.2.2]; exact db_same d hd10
    have zX : AN.size = 2 := zA
    go_wp2_with fail
    refine wp_region_late (by kernel_rfl) (by kernel_rfl) ?_
    quiet_step (fail)
    quiet_step ((go_at_call 21; exact late _ (hPD _ hk7)))
    quiet_step (fail)
    refine wpQuiet_step (fun K hK => ?_)
    go_simp
    refine hK _ ?_
    clear hK K
    generalize hC1 : (HAppend.hAppend (DN.extract 0 3) _ : ByteArray) = C1
    have zC1 : C1.size = 4 := by rw [← hC1, ByteArray.size_append, zD5]; try rfl
    have HC1 := Lib.hid hC1
    clear hC1
    quiet_step (fail)
    quiet_step ((go_at_call 23; exact late _ (hPM _ hm)))
    refine wpQuiet_step (fun K hK => ?_)
    go_simp
    refine hK _ ?_
    clear hK K
    generalize hC2 : (HAppend.hAppend C1 _ : ByteArray) = C2
    have zC2 : C2.size = 7 := by rw [← hC2, ByteArray.size_append, zC1, zM]; try rfl
    have HC2 := Lib.hid hC2
    clear hC2
    refine wpQuiet_step (fun K hK => ?_)
    go_simp
    refine hK _ ?_
    clear hK K
    generalize hC3 : (HAppend.hAppend C2 _ : ByteArray) = C3
    have zC3 : C3.size = 8 := by rw [← hC3, ByteArray.size_append, zC2]; try rfl
    have HC3 := Lib.hid hC3
    clear hC3
    quiet_step (fail)
    refine wpQuiet_step (fun K hK => ?_)
    go_simp
    refine hK _ ?_
    clear hK K
    generalize hC4 : (HAppend.hAppend C3 _ : ByteArray) = C4
    have zC4 : C4.size = 10 := by rw [← hC4, ByteArray.size_append, zC3, zX]; try rfl
    have HC4 := Lib.hid hC4
    clear hC4
    refine wpQuiet_step (fun K hK => ?_)
    go_simp
    refine hK _ ?_
    clear hK K
    generalize hC5 : (HAppend.hAppend C4 _ : ByteArray) = C5
    have zC5 : C5.size = 11 := by rw [← hC5, ByteArray.size_append, zC4]; try rfl
    have HC5 := Lib.hid hC5
    clear hC5
    quiet_step (fail)
    refine wpQuiet_step (fun K hK => ?_)
    go_simp
    refine hK _ ?_
    clear hK K
    generalize hC6 : (HAppend.hAppend C5 _ : ByteArray) = C6
    have zC6 : C6.size = 19 := by rw [← hC6, ByteArray.size_append, zC5, zT]; try rfl
    have HC6 := Lib.hid hC6
    clear hC6
    refine wpQuiet_step (fun K hK => ?_)
    go_simp
    refine hK _ ?_
    clear hK K
    generalize hC7 : (HAppend.hAppend C6 _ : ByteArray) = C7
    have zC7 : C7.size = 20 := by rw [← hC7, ByteArray.size_append, zC6]; try rfl
    have HC7 := Lib.hid hC7
    clear hC7
    quiet_step (fail)
    quiet_step ((go_at_call 22; exact late _ (hPY _ (by omega) (by omega))))
    refine wpQuiet_step (fun K hK => ?_)
    go_simp
    refine hK _ ?_
    clear hK K
    generalize hC8 : (HAppend.hAppend C7 _ : ByteArray) = C8
    have zC8 : C8.size = 24 := by rw [← hC8, ByteArray.size_append, zC7, zY]; try rfl
    have HC8 := Lib.hid hC8
    clear hC8
    quiet_step (fail)
    refine wpQuiet_nil ?_
    intro w5 hw'
    have hb5 : Below w9.heap.size w9 w5 := by obtain ⟨p, rfl⟩ := hw'; exact p.h
    clear hw'
    go_wp2_with fail
    go_ret
    have e0 : C8 = str (Dt.form a 2) := by
      rw [HF.out.2.2, ← HC8.out, ← HC7.out, ← HC6.out, ← HC5.out, ← HC4.out, ← HC3.out, ← HC2.out, ← HC1.out, ← HT.out]
      obtain ⟨e1, e2, e3, e4, e5, e6, e7, e8⟩ := HE.out
      rw [← e1, ← e2, ← e3, ← e5, ← e6, ← e7]
      exact cat2' _ _ _ _ _ _ _ _ HX.out
    exact ⟨ret_str e0, bt hB9 hb5⟩


end Go.Proofs.YtlmcolpoaedclaaDoor
