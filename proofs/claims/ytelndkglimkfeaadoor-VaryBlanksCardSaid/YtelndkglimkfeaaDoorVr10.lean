/- The statements of layer 9: the examples; VaryNames. -/
import Derived.Test.YtelndkglimkfeaaDoorVr9
namespace Go.Proofs.YtelndkglimkfeaaDoor
open Go.RowKit

theorem ex_names : Vr.names [[65, 99, 99, 101, 112, 116, 44, 32, 65], [97, 99, 99, 101, 112, 116]] = ([[97], [97, 99, 99, 101, 112, 116]], true) := by decide +kernel
theorem ex_key : str (Vr.key [[97], [97, 99, 99, 101, 112, 116]] [([65, 99, 99, 101, 112, 116], [120, 44, 32, 121])]) = ⟨#[97, 10, 97, 99, 99, 101, 112, 116, 58, 120, 44, 121, 10]⟩ := by
  have : Vr.key [[97], [97, 99, 99, 101, 112, 116]] [([65, 99, 99, 101, 112, 116], [120, 44, 32, 121])] = [97, 10, 97, 99, 99, 101, 112, 116, 58, 120, 44, 121, 10] := by decide +kernel
  rw [this]; rfl
theorem fin_one (w : World) (x y : ByteArray) (a b : List UInt8) (hx : x = str a) (hy : y = str b) : FIn (w.alloc (.cells #[.string x, .string y] 35)) (.slice (some ⟨w.heap.size, 0, none⟩) 1 1) [(a, b)] := by
  subst hx hy
  refine ⟨_, 1, rfl, .inr ⟨w.heap.size, 0, rfl, by simp, fun j hj => ?_⟩⟩
  obtain rfl : j = 0 := by simpa using hj
  constructor
  · show (w.alloc _).cell? ⟨w.heap.size, 0 + 0 * 2, none⟩ = _; rw [World.cell?_alloc_at _ _ _ _ rfl]; rfl
  · show (w.alloc _).cell? ⟨w.heap.size, 0 + 0 * 2 + 1, none⟩ = _; rw [World.cell?_alloc_at _ _ _ _ rfl]; rfl

set_option maxHeartbeats 1600000 in
set_option maxRecDepth 100000 in
theorem awake_w (w : World) : Calls Tryd.prog 8 #[] w fun e w' => e = .returned (.bool true) ∧ Below w.heap.size w w' := by
  have h2 := SIn.two w ⟨#[65, 99, 99, 101, 112, 116, 44, 32, 65]⟩ ⟨#[97, 99, 99, 101, 112, 116]⟩ [65, 99, 99, 101, 112, 116, 44, 32, 65] [97, 99, 99, 101, 112, 116] rfl rfl
  have hb0 : Below w.heap.size w (w.alloc (.cells #[.string ⟨#[65, 99, 99, 101, 112, 116, 44, 32, 65]⟩, .string ⟨#[97, 99, 99, 101, 112, 116]⟩] 9)) := (Below.refl _ w).alloc (Nat.le_refl _) _
  go_enter Tryd.func8, Tryd.ntmps8
  go_wp2_with fail
  refine (Names_w _ [[65, 99, 99, 101, 112, 116, 44, 32, 65], [97, 99, 99, 101, 112, 116]] _ h2 (by decide) (by decide)).mono ?_
  rw [ex_names]
  rintro e w1 ⟨v, rfl, hB⟩
  have hb1 := hb0.trans (hB.2.mono hb0.size)
  have hv := hB.sin
  have h3 := SIn.two w1 ⟨#[97]⟩ ⟨#[97, 99, 99, 101, 112, 116]⟩ [97] [97, 99, 99, 101, 112, 116] rfl rfl
  have hb3 : Below w1.heap.size w1 (w1.alloc (.cells #[.string ⟨#[97]⟩, .string ⟨#[97, 99, 99, 101, 112, 116]⟩] 9)) := (Below.refl _ w1).alloc (Nat.le_refl _) _
  have hv3 := hv.later hb3
  have hb13 := hb1.trans (hb3.mono hb1.size)
  clear h2 hB hb0
  go_wp2_with fail
  refine (Same_w _ _ _ _ _ hv3 h3 (by decide) (by decide)).mono ?_
  rw [sameL_self]
  rintro e w6 ⟨rfl, m, rfl⟩
  have hb4 := hb13.trans ((bdrewN _ m).mono hb13.size)
  have hv4 := hv3.later (bdrewN _ m)
  generalize (w1.alloc (.cells #[.string ⟨#[97]⟩, .string ⟨#[97, 99, 99, 101, 112, 116]⟩] 9)).drewN m = w4 at *
  have h5 := fin_one w4 ⟨#[65, 99, 99, 101, 112, 116]⟩ ⟨#[120, 44, 32, 121]⟩ [65, 99, 99, 101, 112, 116] [120, 44, 32, 121] rfl rfl
  have hb5 : Below w4.heap.size w4 (w4.alloc (.cells #[.string ⟨#[65, 99, 99, 101, 112, 116]⟩, .string ⟨#[120, 44, 32, 121]⟩] 35)) := (Below.refl _ w4).alloc (Nat.le_refl _) _
  have hv5 := hv4.later hb5
  have hsh : shortS [([65, 99, 99, 101, 112, 116], [120, 44, 32, 121])] = true := by decide
  have cK := Key_w v _ _ _ _ hv5 (by decide) (by decide) h5 (shortS_fits hsh) (shortS_joined hsh)
  rw [ex_key] at cK
  have hb6 := hb4.trans (hb5.mono hb4.size)
  clear h3 hb3 hv3 hb13 hv hsh hb1
  go_wp2_with fail
  refine cK.mono ?_
  rintro e w7 ⟨rfl, hb7⟩
  go_wp2_with fail
  go_ret
  exact ⟨rfl, hb6.trans (hb7.mono hb6.size)⟩

set_option maxHeartbeats 1600000 in
set_option maxRecDepth 100000 in
theorem names_w (va : Value) (ls : List (List UInt8)) (w : World) (hv : SIn w va ls) (hbig : ls.length ≤ 9223372036854775807) (hl : ∀ l ∈ ls, l.length ≤ 9223372036854775807) :
    Calls Tryd.prog 3 #[va] w fun e w' => e = .returned (.bool true) ∧ Below w.heap.size w w' := by
  have cF := fun (w1 : World) (hb : Below w.heap.size w w1) => few_w va ls w1 (hv.later hb) hbig hl
  have HV := Lib.hid hv
  by_cases hf : fewS ls = true
  case neg =>
    have f0 : fewS ls = false := by simpa using hf
    rw [f0] at cF
    clear hf f0 hl hbig hv
    go_enter Tryd.func3, Tryd.ntmps3
    go_wp2_with fail
    refine (awake_w w).mono ?_
    rintro e w1 ⟨rfl, hb1⟩
    go_wp2_with fail
    refine (cF w1 hb1).mono ?_
    rintro e w1' ⟨rfl, rfl⟩
    go_wp2_with fail
    refine (awake_w w1).mono ?_
    rintro e w2 ⟨rfl, hb2⟩
    go_wp2_with fail
    go_ret
    exact ⟨rfl, hb1.trans (hb2.mono hb1.size)⟩
  obtain ⟨s1, s2⟩ := fewS_spec hf
  rw [hf] at cF
  have cN := fun (w1 : World) (hb : Below w.heap.size w w1) => Names_w va ls w1 (hv.later hb) (by omega) (fun l h => Nat.le_trans (s2 l h) (by decide))
  have cR := fun (w1 : World) (hb : Below w.heap.size w w1) => rNames_w va ls w1 (hv.later hb) (by omega) (fun l h => Nat.le_trans (s2 l h) (by decide))
  have hnl : (Vr.names ls).1.length ≤ 100000 := by
    have h1 := Vr.names_length ls
    have h2 := Vr.splitAll_lens ls 500 s2
    have h3 := Nat.mul_le_mul_right (2 * 500 + 1) s1
    omega
  generalize Vr.names ls = NM at *
  obtain ⟨X, t⟩ := NM
  clear s1 s2 hf hl hbig hv HV
  go_enter Tryd.func3, Tryd.ntmps3
  go_wp2_with fail
  refine (awake_w w).mono ?_
  rintro e w1 ⟨rfl, hb1⟩
  go_wp2_with fail
  refine (cF w1 hb1).mono ?_
  rintro e w1' ⟨rfl, rfl⟩
  go_wp2_with fail
  refine (cN w1 hb1).mono ?_
  rintro e w2 ⟨v2, rfl, hB2⟩
  have hb2 := hb1.trans (hB2.2.mono hb1.size)
  go_wp2_with fail
  refine (cR w2 hb2).mono ?_
  rintro e w3 ⟨v3, rfl, hB3⟩
  have hb3 := hb2.trans (hB3.2.mono hb2.size)
  have hv2 := hB2.sin.later hB3.2
  have hv3 := hB3.sin
  have cS := Same_w v2 v3 X X w3 hv2 hv3 (by omega) (by omega)
  rw [sameL_self] at cS
  clear cN cR cF hB2 hB3
  go_wp2_with fail
  refine cS.mono ?_
  rintro e w4 ⟨rfl, m, rfl⟩
  go_wp2_with fail
  go_ret
  exact ⟨by simp, Go.below_drewN hb3 m⟩
end Go.Proofs.YtelndkglimkfeaaDoor
