/- The law DeviceKeeps. -/
import Derived.Test.YtaagfgkoglhfaaaDv3
import Derived.Test.YtaagfgkoglhfaaaRel
namespace Go.Proofs.Ytaagfgkoglhfaaa
open Go.RowKit

theorem tmod_bounds (a : Int) (n : Nat) (hn : 1 ≤ n) : ∃ q, a.tmod n = q ∧ -(n : Int) < q ∧ q < n := by
  refine ⟨_, rfl, ?_, ?_⟩
  · have := Int.lt_tmod_of_pos a (b := n) (by omega); omega
  · exact Int.tmod_lt_of_pos a (by omega)
theorem cut_at (a : Int) (n : Nat) (hn : 1 ≤ n) (hn2 : n ≤ 1000000) : ∃ (q : Int) (k : Nat), a.tmod n = q ∧ IntKind.i64.wrap q = q ∧ IntKind.i64.wrap (q + n) = q + n ∧ (q + (n : Int)).tmod n = k ∧ IntKind.i64.wrap (k : Int) = k ∧ k < n := by
  obtain ⟨q, h1, h2, h3⟩ := tmod_bounds a n hn
  refine ⟨q, ((q + (n : Int)) % n).toNat, h1, ?_, ?_, ?_, ?_, ?_⟩
  · rw [IntKind.wrap_i64]; omega
  · rw [IntKind.wrap_i64]; omega
  · rw [Int.tmod_eq_emod_of_nonneg (by omega)]
    have := Int.emod_nonneg (q + (n : Int)) (b := n) (by omega)
    omega
  · rw [IntKind.wrap_i64]
    have h4 := Int.emod_nonneg (q + (n : Int)) (b := n) (by omega)
    have h5 := Int.emod_lt_of_pos (q + (n : Int)) (b := n) (by omega)
    omega
  · have h4 := Int.emod_nonneg (q + (n : Int)) (b := n) (by omega)
    have h5 := Int.emod_lt_of_pos (q + (n : Int)) (b := n) (by omega)
    omega

theorem oct_int (a j : Nat) (h : a + j < 256) : ((Dv.oct a j).toNat : Int) = (a : Int) + j := by
  unfold Dv.oct
  rw [UInt8.toNat_ofNat', Nat.mod_eq_of_lt h]; omega
/-- The flags of eight sectors, in a block of the call's own. -/
def Flags (w : World) (g : Nat) (b : Nat → Bool) : Prop := ∃ C, w.heap[g]? = some (.cells C 35 (0, 0)) ∧ C.size = 8 ∧ ∀ m, m < 8 → C[m]? = some (.bool (b m))
theorem Flags.cell {w : World} {g : Nat} {b : Nat → Bool} (h : Flags w g b) (m : Nat) (hm : m < 8) : w.cell? ⟨g, m, none⟩ = some (.bool (b m)) ∧ w.frozen? ⟨g, m, none⟩ = false := by
  obtain ⟨C, h1, h2, h3⟩ := h
  constructor
  · simp only [World.cell?, h1]; simpa using h3 m hm
  · simp only [World.frozen?, h1]; simp
theorem Flags.set {w : World} {g : Nat} {b b' : Nat → Bool} (h : Flags w g b) (m : Nat) (hm : m < 8) (hb : ∀ i, b' i = (decide (i = m) || b i)) : Flags (w.setCell ⟨g, m, none⟩ (.bool true)) g b' := by
  obtain ⟨C, h1, h2, h3⟩ := h
  have hlt := lt_of_block h1
  refine ⟨C.setIfInBounds m (.bool true), ?_, by simp [h2], fun i hi => ?_⟩
  · show (w.heap.modify g _)[g]? = _
    have h' : w.heap[g] = .cells C 35 (0, 0) := by simpa [Array.getElem?_eq_getElem hlt] using h1
    rw [Array.getElem?_eq_getElem (by simpa using hlt), Array.getElem_modify_self, h']
    rfl
  · rw [Array.getElem?_setIfInBounds, hb]
    by_cases e : m = i
    · subst e; simp [h2, hm]
    · rw [if_neg e, h3 i hi, decide_eq_false (fun x => e x.symm), Bool.false_or]
theorem Flags.keep {w w' : World} {g : Nat} {b : Nat → Bool} (h : Flags w g b) (hk : w'.heap[g]? = w.heap[g]?) : Flags w' g b := by
  obtain ⟨C, h1, h2, h3⟩ := h
  exact ⟨C, by rw [hk]; exact h1, h2, h3⟩
theorem Flags.lt {w : World} {g : Nat} {b : Nat → Bool} (h : Flags w g b) : g < w.heap.size := by obtain ⟨C, h1, _⟩ := h; exact lt_of_block h1
/-- One filled sector in a row of its own, handed to a device. -/
theorem one_out {Env : World → Prop} {Dev : World → Nat → Dv.S → (Nat → Prop) → Prop} (P : Prog13 Env Dev) {w w2 : World} {g : Nat} {d : Dv.S} {F : Nat → Prop} (c : UInt8) (hD : Dev w g d F) (hB : Blk w2 w.heap.size (filled c)) (hb : Below w.heap.size w w2) :
    BsOut F (w2.alloc (.cells #[.slice (some ⟨w.heap.size, 0, none⟩) 64 64] 32)) (.slice (some ⟨w2.heap.size, 0, none⟩) 1 1) [Dv.f_ c] ∧ Dev (w2.alloc (.cells #[.slice (some ⟨w.heap.size, 0, none⟩) 64 64] 32)) g d F ∧ Below w.heap.size w (w2.alloc (.cells #[.slice (some ⟨w.heap.size, 0, none⟩) 64 64] 32)) := by
  have hD2 := P.later hD hb
  refine ⟨bso_lit w2 _ [Dv.f_ c] 1 rfl (by decide) (P.lt hD2) (fun j hj => ?_), P.later hD2 ((Below.refl _ _).alloc (Nat.le_refl _) _), hb.alloc hb.size _⟩
  match j, hj with
  | 0, _ => exact ⟨_, rfl, hB.out rfl (by decide) (not_new (P.lt hD) _ (Nat.le_refl _))⟩
theorem KIn.later {F : Nat → Prop} {w w' : World} {v : Value} {l : List Bool} (h : ∃ ao cap, v = .slice ao l.length cap ∧ l.length ≤ cap ∧ cap ≤ 9223372036854775807 ∧ (l = [] ∨ ∃ b o, ao = some ⟨b, o, none⟩ ∧ b < w.heap.size ∧ ∀ j (hj : j < l.length), w.cell? ⟨b, o + j, none⟩ = some (.bool l[j]))) (hb : Below w.heap.size w w') (hF : ∀ k, F k → w.heap.size ≤ k) : KIn F w' v l := by
  obtain ⟨ao, cap, hv, h1, h2, h3⟩ := h
  refine ⟨ao, cap, hv, h1, h2, ?_⟩
  rcases h3 with h | ⟨b, o, e, hl, hc⟩
  · exact .inl h
  · exact .inr ⟨b, o, e, Nat.lt_of_lt_of_le hl hb.size, fun hf => by have := hF _ hf; omega, fun j hj => cell_later hb (hc j hj)⟩

set_option maxHeartbeats 6400000 in
set_option maxRecDepth 100000 in
theorem dkeeps_w {Env : World → Prop} {Dev : World → Nat → Dv.S → (Nat → Prop) → Prop} (P : Prog13 Env Dev) (a0 a1 a2 a3 : Int) (ka : Option Addr) (N kc : Nat) (keep : List Bool) (torn p part : Int) (w : World)
    (hK : ∃ ao cap, Value.slice ka N kc = .slice ao keep.length cap ∧ keep.length ≤ cap ∧ cap ≤ 9223372036854775807 ∧ (keep = [] ∨ ∃ b o, ao = some ⟨b, o, none⟩ ∧ b < w.heap.size ∧ ∀ j (hj : j < keep.length), w.cell? ⟨b, o + j, none⟩ = some (.bool keep[j])))
    (ht : -9223372036854775808 ≤ torn ∧ torn ≤ 9223372036854775807) (hp : -9223372036854775808 ≤ p ∧ p ≤ 9223372036854775807) (hE : Env w) :
    Calls Try.prog 3 #[.agg #[.int .i64 a0, .int .i64 a1, .int .i64 a2, .int .i64 a3], .agg #[.slice ka N kc, .int .i64 torn, .int .i64 p], .int .i64 part] w fun e w' => e = .returned (.bool true) ∧ Below w.heap.size w w' := by
  obtain ⟨al, hal⟩ : ∃ al, al = [a0, a1, a2, a3] := ⟨_, rfl⟩
  have hb0 : Below w.heap.size w ((w.alloc (.cells #[.int .i64 a0, .int .i64 a1, .int .i64 a2, .int .i64 a3] 22)).alloc (.cells #[.slice ka N kc, .int .i64 torn, .int .i64 p] 25)) := ((Below.refl _ w).alloc (Nat.le_refl _) _).alloc (by simp) _
  have hA : ∀ j, j < 4 → ((w.alloc (.cells #[.int .i64 a0, .int .i64 a1, .int .i64 a2, .int .i64 a3] 22)).alloc (.cells #[.slice ka N kc, .int .i64 torn, .int .i64 p] 25)).cell? ⟨w.heap.size, j, none⟩ = some (.int .i64 (al.getD j 0)) := fun j hj => by
    have h1 : (w.alloc (.cells #[.int .i64 a0, .int .i64 a1, .int .i64 a2, .int .i64 a3] 22)).cell? ⟨w.heap.size, j, none⟩ = some (.int .i64 (al.getD j 0)) := by
      rw [World.cell?_alloc_at _ _ _ _ rfl, hal]
      match j, hj with
      | 0, _ => rfl
      | 1, _ => rfl
      | 2, _ => rfl
      | 3, _ => rfl
    exact cell_later ((Below.refl _ _).alloc (Nat.le_refl _) _) h1
  have hC : ∀ (j : Nat) u, (#[.slice ka N kc, .int .i64 torn, .int .i64 p] : Array Value)[j]? = some u → ((w.alloc (.cells #[.int .i64 a0, .int .i64 a1, .int .i64 a2, .int .i64 a3] 22)).alloc (.cells #[.slice ka N kc, .int .i64 torn, .int .i64 p] 25)).cell? ⟨w.heap.size + 1, j, none⟩ = some u := fun j u hu => by
    have hs : (w.alloc (.cells #[.int .i64 a0, .int .i64 a1, .int .i64 a2, .int .i64 a3] 22)).heap.size = w.heap.size + 1 := by simp
    rw [World.cell?_alloc_at _ _ _ _ (by rw [hs])]
    exact hu
  have q0 := hC 0 _ rfl
  have q1 := hC 1 _ rfl
  have q2 := hC 2 _ rfl
  have hlt : w.heap.size + 1 < ((w.alloc (.cells #[.int .i64 a0, .int .i64 a1, .int .i64 a2, .int .i64 a3] 22)).alloc (.cells #[.slice ka N kc, .int .i64 torn, .int .i64 p] 25)).heap.size := by simp
  clear hC
  have HE := Lib.hid (fun (W : World) (hb : Below w.heap.size w W) => P.env hE hb)
  have HP := Lib.hid P
  have cA := Lib.hid (fun (W : World) (hb : Below w.heap.size w W) => dawake_w P W (P.env hE hb))
  have hN : N = keep.length := by obtain ⟨ao, cap, h, _⟩ := hK; cases h; rfl
  have HK := Lib.hid hK
  have HN := Lib.hid hN
  clear hE P hK hN
  go_enter Try.func3, Try.ntmps3
  go_upto_region 1 with fail
  generalize ((w.alloc (.cells #[.int .i64 a0, .int .i64 a1, .int .i64 a2, .int .i64 a3] 22)).alloc (.cells #[.slice ka N kc, .int .i64 torn, .int .i64 p] 25)) = W0 at *
  obtain ⟨ga, hga⟩ : ∃ ga, ga = w.heap.size := ⟨_, rfl⟩
  obtain ⟨gc, hgc⟩ : ∃ gc, gc = ga + 1 := ⟨_, rfl⟩
  rw [← hga] at hA q0 q1 q2 hlt ⊢
  rw [← hgc] at q0 q1 q2 hlt ⊢
  have HB0 := Lib.hid hb0
  have HAL := Lib.hid hA
  have hga0 : ga < W0.heap.size := by omega
  have HQ : Hid (∀ W, Below W0.heap.size W0 W → W.cell? ⟨gc, 0, none⟩ = some (.slice ka N kc) ∧ W.cell? ⟨gc, 1, none⟩ = some (.int .i64 torn) ∧ W.cell? ⟨gc, 2, none⟩ = some (.int .i64 p)) := Lib.hid (fun W hb => ⟨cell_later hb q0, cell_later hb q1, cell_later hb q2⟩)
  clear hga hgc hA hal q1 q2 hlt
  by_cases h3 : (300 : Int) < N
  · have hww : Below W0.heap.size W0 W0 := Below.refl _ _
    go_wp2_with fail
    refine (cA.out W0 hb0).mono ?_
    rintro e w1 ⟨rfl, hb1⟩
    have q0' := cell_later hb1 q0
    go_wp2_with fail
    refine (cA.out w1 (bt5 hb0 hb1)).mono ?_
    rintro e w2 ⟨rfl, hb2⟩
    go_wp2_with fail
    go_ret
    exact ⟨rfl, bt5 (bt5 hb0 hb1) hb2⟩
  have hN3 : N ≤ 300 := by omega
  go_wp2_with fail
  refine (cA.out W0 hb0).mono ?_
  rintro e w1 ⟨rfl, hb1⟩
  have q0' := cell_later hb1 q0
  have c0 := HP.out.new 8 w1 (by decide) (by decide) (HE.out _ (bt5 hb0 hb1))
  clear q0 hb0
  go_wp2_with fail
  refine c0.mono ?_
  rintro e w2 ⟨g, F2, rfl, hD2, hb2, hF2⟩
  clear c0 q0'
  have hbz := bt5 hb1 hb2
  have hFz : ∀ k, F2 k → W0.heap.size ≤ k := fun k hk => Nat.le_trans hb1.size (hF2 k hk)
  clear hb1 hb2 hF2
  go_wp2_with fail
  go_loopw [9] (fun i wr => ∃ (k : Nat) (F : Nat → Prop), k ≤ 8 ∧ i = .int .i64 k ∧ Dev wr g (Dv.first k) F ∧ Below W0.heap.size W0 wr ∧ ∀ x, F x → W0.heap.size ≤ x) (fun i _ => 8 - (intOf i).toNat)
  case atStart => exact ⟨0, F2, Nat.zero_le _, rfl, hD2, hbz, hFz⟩
  case round =>
    clear hD2 hbz hFz
    obtain ⟨k, F, hk, rfl, hD, hbr, hF⟩ := hrel
    by_cases hlt : k < 8
    · have hki : (k : Int) < 8 := by omega
      have cF : Calls Try.prog 9 #[.int .u8 ((10 : Int) + k)] wr fun e w' => e = .returned (.slice (some ⟨wr.heap.size, 0, none⟩) 64 64) ∧ Blk w' wr.heap.size (filled (Dv.oct 10 k)) ∧ Below wr.heap.size wr w' := by
        have := filled_w (Dv.oct 10 k) wr
        rwa [oct_int 10 k (by omega)] at this
      go_wp2_with fail
      refine cF.mono ?_
      rintro e w3 ⟨rfl, hB3, hb3⟩
      clear cF
      obtain ⟨hbs, hD3, hb33⟩ := one_out HP.out (Dv.oct 10 k) hD hB3 hb3
      have hbw := bt5 hbr hb33
      have cW := HP.out.write g (Dv.first k) F k _ _ _ hD3 ⟨by show k ≤ _; omega, by show (Dv.row 10 k).length ≤ _; unfold Dv.row; simp; omega, by show (List.replicate 8 _).length ≤ _; simp, Nat.zero_le _⟩ hbs (by simp) (by omega) (HE.out _ (bt5 HB0.out hbw))
      rw [Dv.first_write k hlt] at cW
      have HBW := Lib.hid hbw
      clear hbs hD hD3 hB3 hb3 hb33 hbw hbr
      go_wp2_with fail
      refine cW.mono ?_
      rintro e w4 ⟨F4, rfl, hD4, ht4, hm4⟩
      clear cW
      have hF4 := hm4.up hF HBW.out.size
      have hb4 := ht4.below hF HBW.out HBW.out.size
      clear ht4 hm4 hF HBW
      go_wp2_with fail
      go_roundw
      case rel => exact ⟨k + 1, F4, by omega, by go_num, hD4, hb4, hF4⟩
      case measure => simp [intOf]; omega
    · have hki : ¬ (k : Int) < 8 := by omega
      obtain rfl : k = 8 := by omega
      have cL := HP.out.flush g (Dv.first 8) F wr hD ⟨by decide, by decide, by decide, by decide⟩ (HE.out _ (bt5 HB0.out hbr))
      rw [Dv.first_flush] at cL
      clear hlt hk hD
      go_wp2_with fail
      refine cL.mono ?_
      rintro e w5 ⟨F5, rfl, hD5, ht5, hm5⟩
      clear cL
      have hF5 := hm5.up hF hbr.size
      have hb5 := ht5.below hF hbr hbr.size
      clear ht5 hm5 hF hbr
      go_upto_region 12 with fail
      obtain ⟨gb, hgb⟩ : ∃ gb, gb = w5.heap.size := ⟨_, rfl⟩
      have hfl : Flags (w5.alloc (.cells #[.bool false, .bool false, .bool false, .bool false, .bool false, .bool false, .bool false, .bool false] 35)) gb (fun m => ([] : List (Nat × Dv.Sec)).any fun x => x.1 == m) :=
        ⟨_, by rw [hgb]; exact heap_alloc_new w5 _, rfl, fun m hm => by
          match m, hm with
          | 0, _ => rfl
          | 1, _ => rfl
          | 2, _ => rfl
          | 3, _ => rfl
          | 4, _ => rfl
          | 5, _ => rfl
          | 6, _ => rfl
          | 7, _ => rfl⟩
      have hD6 := HP.out.later hD5 ((Below.refl _ _).alloc (Nat.le_refl _) (.cells #[.bool false, .bool false, .bool false, .bool false, .bool false, .bool false, .bool false, .bool false] 35))
      have hb6 := hb5.alloc hb5.size (.cells #[.bool false, .bool false, .bool false, .bool false, .bool false, .bool false, .bool false, .bool false] 35)
      have hnb : ¬ F5 gb := not_new (HP.out.lt hD5) _ (by rw [hgb]; exact Nat.le_refl _)
      have hgb0 : W0.heap.size ≤ gb := by rw [hgb]; exact hb5.size
      generalize w5.alloc _ = w6 at hfl hD6 hb6 ⊢
      rw [← hgb]
      clear hD5 hb5 hgb
      go_upto_region 13 with fail
      go_loopw [11] (fun i wr => ∃ (j : Nat) (F : Nat → Prop) (wt : List (Nat × Dv.Sec)), j ≤ 4 ∧ i = .int .i64 j ∧ wt.length = j ∧ Dev wr g (Dv.anew wt) F ∧ Below W0.heap.size W0 wr ∧ (∀ x, F x → W0.heap.size ≤ x) ∧ ¬ F gb ∧ Flags wr gb (fun m => wt.any fun x => x.1 == m)) (fun i _ => 4 - (intOf i).toNat)
      case atStart => exact ⟨0, F5, [], Nat.zero_le _, rfl, rfl, hD6, hb6, hF5, hnb, hfl⟩
      case round =>
        clear hD6 hb6 hF5 hnb hfl
        obtain ⟨j, F, wt, hj, rfl, hwl, hD, hbr, hF, hnb, hfl⟩ := hrel
        by_cases hlt : j < 4
        · have hji : (j : Int) < 4 := by omega
          have ha := cell_later hbr (HAL.out j hlt)
          generalize al.getD j 0 = a at ha
          obtain ⟨q, k, m1, m2, m3, m4, m5, hk8⟩ := cut_at a 8 (by decide) (by decide)
          have m1 : a.tmod 8 = q := m1
          have m3 : IntKind.i64.wrap (q + 8) = q + 8 := m3
          have m4 : (q + 8).tmod 8 = (k : Int) := m4
          have hki : (k : Int) < 8 := by omega
          obtain ⟨fc, ff⟩ := hfl.cell k hk8
          have hD3 : Dev (wr.setCell ⟨gb, k, none⟩ (.bool true)) g (Dv.anew wt) F := HP.out.keep hD (by simp [World.setCell]) (fun m hm => by
            have hne : gb ≠ m := fun e => hnb (e ▸ hm)
            show (wr.heap.modify gb _)[m]? = _
            rw [Array.getElem?_modify]
            simp [hne])
          have hfl3 := hfl.set (b' := fun m => (wt ++ [(k, Dv.f_ (Dv.oct 50 j))]).any fun x => x.1 == m) k hk8 (fun m => by
            rw [List.any_append]
            simp only [List.any_cons, List.any_nil, Bool.or_false]
            rw [Bool.or_comm]
            congr 1
            rw [Bool.eq_iff_iff, beq_iff_eq, decide_eq_true_eq]
            exact eq_comm)
          have hb3 := set_below (k := k) (v := .bool true) hbr hgb0
          have hgs : gb < (wr.setCell ⟨gb, k, none⟩ (.bool true)).heap.size := hfl3.lt
          have HD3 := Lib.hid hD3
          have HFL3 := Lib.hid hfl3
          have HB3 := Lib.hid hb3
          have HGS := Lib.hid hgs
          clear hD hfl hbr hD3 hfl3 hb3 hgs
          go_upto_region 17 with fail
          generalize wr.setCell ⟨gb, k, none⟩ (.bool true) = w7 at *
          clear fc ff ha m1 m2 m3 m4 m5
          have cF : Calls Try.prog 9 #[.int .u8 ((50 : Int) + j)] w7 fun e w' => e = .returned (.slice (some ⟨w7.heap.size, 0, none⟩) 64 64) ∧ Blk w' w7.heap.size (filled (Dv.oct 50 j)) ∧ Below w7.heap.size w7 w' := by
            have := filled_w (Dv.oct 50 j) w7
            rwa [oct_int 50 j (by omega)] at this
          go_wp2_with fail
          refine cF.mono ?_
          rintro e w8 ⟨rfl, hB8, hb8⟩
          clear cF
          obtain ⟨hbs, hD8, hb88⟩ := one_out HP.out (Dv.oct 50 j) HD3.out hB8 hb8
          have hbw := bt5 HB3.out hb88
          have hfl8 := HFL3.out.keep (hb88.block gb HGS.out)
          have hgs8 := Nat.lt_of_lt_of_le HGS.out hb88.size
          have cW := HP.out.write g (Dv.anew wt) F k _ _ _ hD8 ⟨by show 9 + wt.length ≤ _; omega, by show wt.length ≤ _; omega, Dv.anew_safe wt, Nat.zero_le _⟩ hbs (by simp) (by omega) (HE.out _ (bt5 HB0.out hbw))
          rw [Dv.anew_write wt k hk8 _ (Dv.f_len _)] at cW
          have HBW := Lib.hid hbw
          have HFL8 := Lib.hid hfl8
          have HG8 := Lib.hid hgs8
          clear hbs hD8 hB8 hb8 hb88 hbw hfl8 hgs8 HD3 HFL3 HB3 HGS
          go_wp2_with fail
          refine cW.mono ?_
          rintro e w9 ⟨F9, rfl, hD9, ht9, hm9⟩
          clear cW
          have hF9 := hm9.up hF HBW.out.size
          have hb9 := ht9.below hF HBW.out HBW.out.size
          have hfl9 := HFL8.out.keep (ht9.block gb HG8.out hnb)
          have hnb9 : ¬ F9 gb := fun h => by
            rcases hm9 gb h with h | h
            · exact hnb h
            · have := HG8.out; omega
          clear ht9 hm9 hF HBW HFL8 HG8 hnb
          go_wp2_with fail
          go_roundw
          case rel => exact ⟨j + 1, F9, _, by omega, by go_num, by rw [List.length_append]; simp; omega, hD9, hb9, hF9, hnb9, hfl9⟩
          case measure => simp [intOf]; omega
        · have hji : ¬ (j : Int) < 4 := by omega
          have hbw := bt5 HB0.out hbr
          obtain ⟨q0, q1, q2⟩ := HQ.out wr hbr
          have hKI : KIn F wr (.slice ka N kc) keep := KIn.later HK.out hbw (fun k hk => Nat.le_trans HB0.out.size (hF k hk))
          have cK := HP.out.crash g (Dv.anew wt) F _ keep torn p wr hD ⟨by show 9 + wt.length ≤ _; omega, by show wt.length ≤ _; omega, Dv.anew_safe wt, Nat.zero_le _⟩ hKI ht hp (HE.out _ hbw)
          unfold mkCrash at cK
          have hgs := hfl.lt
          clear hKI hD hbw hlt
          go_wp2_with fail
          refine cK.mono ?_
          rintro e w7 ⟨F7, x7, rfl, hD7, ht7, hm7⟩
          clear cK q0 q1 q2
          have hF7 := hm7.up hF hbr.size
          have hb7 := ht7.below hF hbr hbr.size
          have hfl7 := hfl.keep (ht7.block gb hgs hnb)
          have hnb7 : ¬ F7 gb := fun h => by
            rcases hm7 gb h with h | h
            · exact hnb h
            · omega
          clear ht7 hm7 hF hfl hnb hgs hbr
          have cR := HP.out.read g (Dv.crash (Dv.anew wt) keep torn p) F7 0 8 w7 hD7 ⟨Nat.zero_le _, Nat.zero_le _, by show (Dv.left_ _ _ _ _ _ _).length ≤ _; rw [Dv.left_length]; exact Dv.anew_safe wt, Nat.zero_le _⟩ (by decide) (by decide) (HE.out _ (bt5 HB0.out hb7))
          rw [Dv.crash_read] at cR
          clear hD7
          go_wp2_with fail
          refine cR.mono ?_
          rintro e w8 ⟨F8, v8, rfl, hD8, ht8, hm8, hR8⟩
          clear cR
          have hb8 := ht8.below hF7 hb7 hb7.size
          have hfl8 := hfl7.keep (ht8.block gb hfl7.lt hnb7)
          have hI8 := hR8.in_
          clear ht8 hm8 hF7 hfl7 hnb7 hb7 hR8
          have HI8 := Lib.hid hI8
          obtain ⟨av, cv, rfl, hcv, hcv9, hgv⟩ := hI8
          rw [Dv.seen_length] at hcv HI8 ⊢
          have HGV := Lib.hid (hgv.resolve_left (fun x => by
            have := congrArg List.length x
            rw [Dv.seen_length] at this; cases this))
          obtain ⟨bv, ov, rfl, hbv, hcell⟩ := HGV.out
          have HCELL := Lib.hid hcell
          have HFL8 := Lib.hid hfl8
          have HB8 := Lib.hid hb8
          have HD8 := Lib.hid hD8
          clear hgv hcell hfl8 hb8 hD8 HGV
          go_upto_region 23 with fail
          go_loopw [15] (fun i wr => ∃ k : Nat, k ≤ 8 ∧ i = .int .i64 k ∧ Below w8.heap.size w8 wr) (fun i _ => 8 - (intOf i).toNat)
          case atStart => exact ⟨0, Nat.zero_le _, rfl, Below.refl _ _⟩
          case round =>
            obtain ⟨k, hk, rfl, hbr⟩ := hrel
            by_cases hlt : k < 8
            · have hki : (k : Int) < 8 := by omega
              obtain ⟨u0, f0, i0, n0⟩ := HCELL.out k (by rw [Dv.seen_length]; exact hlt)
              have fl := ((HFL8.out.keep (hbr.block gb HFL8.out.lt)).cell k hlt).1
              have HBR := Lib.hid hbr
              have HF0 := Lib.hid (cell_later hbr f0)
              have HFLG := Lib.hid fl
              clear f0 fl
              cases hbk : wt.any fun x => x.1 == k with
              | true =>
                rw [hbk] at HFLG
                clear i0 n0 hbr
                go_upto_region 25 with fail
                refine Rel.region_of (by kernel_rfl) [some 84, some 85, some 86, some 87, some 88, some 89, some 90, some 91, some 92, some 93, some 94, some 95, some 96, some 97, some 98, some 99, some 100] (by kernel_rfl) (by kernel_rfl) [.eq (.int .i64 (k : Int)), .eq (.pointer (some ⟨gb, k, none⟩)), .eq (.bool true), .eq (.bool false), .eq (.bool false), .any, .any, .any, .any, .any, .any, .any, .any, .any, .any, .any, .eq (.bool false)] ⟨?_, ?_, ?_, ?_, ?_, ?_, ?_, ?_, ?_, ?_, ?_, ?_, ?_, ?_, ?_, ?_, ?_, trivial⟩ ?_
                · intro u w9 hb9 hd9
                  clear hd9
                  refine ⟨?_⟩
                  simp only [Rel.canD, List.take_zero]
                  go_wp2_with fail
                  exact ⟨rfl, rfl, Below.refl _ _, rfl⟩
                · intro u w9 hb9 hd9
                  have e0 : u 0 = .int .i64 (k : Int) := hd9 0 (by kernel_rfl)
                  clear hd9
                  refine ⟨?_⟩
                  simp only [Rel.canD, List.take_succ_cons, List.take_zero, Nat.reduceAdd]
                  go_wp2_with fail
                  exact ⟨rfl, rfl, Below.refl _ _, rfl⟩
                · intro u w9 hb9 hd9
                  have e1 : u 1 = .pointer (some ⟨gb, k, none⟩) := hd9 1 (by kernel_rfl)
                  clear hd9
                  have f9 := cell_later hb9 HFLG.out
                  refine ⟨?_⟩
                  simp only [Rel.canD, List.take_succ_cons, List.take_zero, Nat.reduceAdd]
                  go_wp2_with fail
                  exact ⟨rfl, rfl, Below.refl _ _, rfl⟩
                · intro u w9 hb9 hd9
                  have e2 : u 2 = .bool true := hd9 2 (by kernel_rfl)
                  clear hd9
                  refine ⟨?_⟩
                  simp only [Rel.canD, List.take_succ_cons, List.take_zero, Nat.reduceAdd]
                  go_wp2_with fail
                  exact ⟨rfl, rfl, Below.refl _ _, rfl⟩
                · intro u w9 hb9 hd9
                  have e3 : u 3 = .bool false := hd9 3 (by kernel_rfl)
                  clear hd9
                  refine ⟨?_⟩
                  simp only [Rel.canD, List.take_succ_cons, List.take_zero, Nat.reduceAdd]
                  go_wp2_with fail
                  exact ⟨rfl, rfl, Below.refl _ _, rfl⟩
                · intro u w9 hb9 hd9
                  have e4 : u 4 = .bool false := hd9 4 (by kernel_rfl)
                  clear hd9
                  refine ⟨?_⟩
                  simp only [Rel.canD, List.take_succ_cons, List.take_zero, Nat.reduceAdd]
                  go_wp2_with fail
                  exact ⟨rfl, rfl, Below.refl _ _, trivial⟩
                · intro u w9 hb9 hd9
                  have e4 : u 4 = .bool false := hd9 4 (by kernel_rfl)
                  clear hd9
                  refine ⟨?_⟩
                  simp only [Rel.canD, List.take_succ_cons, List.take_zero, Nat.reduceAdd]
                  go_wp2_with fail
                  exact ⟨rfl, rfl, Below.refl _ _, trivial⟩
                · intro u w9 hb9 hd9
                  have e4 : u 4 = .bool false := hd9 4 (by kernel_rfl)
                  clear hd9
                  refine ⟨?_⟩
                  simp only [Rel.canD, List.take_succ_cons, List.take_zero, Nat.reduceAdd]
                  go_wp2_with fail
                  exact ⟨rfl, rfl, Below.refl _ _, trivial⟩
                · intro u w9 hb9 hd9
                  have e4 : u 4 = .bool false := hd9 4 (by kernel_rfl)
                  clear hd9
                  refine ⟨?_⟩
                  simp only [Rel.canD, List.take_succ_cons, List.take_zero, Nat.reduceAdd]
                  go_wp2_with fail
                  exact ⟨rfl, rfl, Below.refl _ _, trivial⟩
                · intro u w9 hb9 hd9
                  have e4 : u 4 = .bool false := hd9 4 (by kernel_rfl)
                  clear hd9
                  refine ⟨?_⟩
                  simp only [Rel.canD, List.take_succ_cons, List.take_zero, Nat.reduceAdd]
                  go_wp2_with fail
                  exact ⟨rfl, rfl, Below.refl _ _, trivial⟩
                · intro u w9 hb9 hd9
                  have e4 : u 4 = .bool false := hd9 4 (by kernel_rfl)
                  clear hd9
                  refine ⟨?_⟩
                  simp only [Rel.canD, List.take_succ_cons, List.take_zero, Nat.reduceAdd]
                  go_wp2_with fail
                  exact ⟨rfl, rfl, Below.refl _ _, trivial⟩
                · intro u w9 hb9 hd9
                  have e4 : u 4 = .bool false := hd9 4 (by kernel_rfl)
                  clear hd9
                  refine ⟨?_⟩
                  simp only [Rel.canD, List.take_succ_cons, List.take_zero, Nat.reduceAdd]
                  go_wp2_with fail
                  exact ⟨rfl, rfl, Below.refl _ _, trivial⟩
                · intro u w9 hb9 hd9
                  have e4 : u 4 = .bool false := hd9 4 (by kernel_rfl)
                  clear hd9
                  refine ⟨?_⟩
                  simp only [Rel.canD, List.take_succ_cons, List.take_zero, Nat.reduceAdd]
                  go_wp2_with fail
                  exact ⟨rfl, rfl, Below.refl _ _, trivial⟩
                · intro u w9 hb9 hd9
                  have e4 : u 4 = .bool false := hd9 4 (by kernel_rfl)
                  clear hd9
                  refine ⟨?_⟩
                  simp only [Rel.canD, List.take_succ_cons, List.take_zero, Nat.reduceAdd]
                  go_wp2_with fail
                  exact ⟨rfl, rfl, Below.refl _ _, trivial⟩
                · intro u w9 hb9 hd9
                  have e4 : u 4 = .bool false := hd9 4 (by kernel_rfl)
                  clear hd9
                  refine ⟨?_⟩
                  simp only [Rel.canD, List.take_succ_cons, List.take_zero, Nat.reduceAdd]
                  go_wp2_with fail
                  exact ⟨rfl, rfl, Below.refl _ _, trivial⟩
                · intro u w9 hb9 hd9
                  have e4 : u 4 = .bool false := hd9 4 (by kernel_rfl)
                  clear hd9
                  refine ⟨?_⟩
                  simp only [Rel.canD, List.take_succ_cons, List.take_zero, Nat.reduceAdd]
                  go_wp2_with fail
                  exact ⟨rfl, rfl, Below.refl _ _, trivial⟩
                · intro u w9 hb9 hd9
                  have e4 : u 4 = .bool false := hd9 4 (by kernel_rfl)
                  clear hd9
                  refine ⟨?_⟩
                  simp only [Rel.canD, List.take_succ_cons, List.take_zero, Nat.reduceAdd]
                  go_wp2_with fail
                  exact ⟨rfl, rfl, Below.refl _ _, rfl⟩
                intro u w9 hb9 hR9
                have h16 : u 16 = .bool false := hR9 16 (by decide)
                simp only [Rel.canD, Nat.reduceAdd, h16]
                clear hR9
                have hbE := bt5 HBR.out hb9
                go_simp
                go_wp2_with fail
                go_roundw
                case rel => exact ⟨k + 1, by omega, by go_num, hbE⟩
                case measure => simp [intOf]; omega
              | false =>
                rw [hbk] at HFLG
                have hse := Dv.seen_old wt keep torn p k hlt hbk
                rw [hse] at i0
                have I0 := Lib.hid (i0.later hbr)
                have N0 := Lib.hid n0
                obtain ⟨x, hx⟩ : ∃ x, x = Dv.f_ (Dv.oct 10 k) := ⟨_, rfl⟩
                have HX := Lib.hid hx
                rw [← hx] at I0
                obtain ⟨au, cu, rfl, _, _, _⟩ := I0.out
                clear hbr hse i0 n0 hx
                go_upto_region 25 with fail
                refine Rel.region_of (by kernel_rfl) [some 84, some 85, some 86, some 87, some 88, some 89, some 90, some 91, some 92, some 93, some 94, some 95, some 96, some 97, some 98, some 99, some 100] (by kernel_rfl) (by kernel_rfl) [.eq (.int .i64 (k : Int)), .eq (.pointer (some ⟨gb, k, none⟩)), .eq (.bool false), .eq (.bool true), .eq (.bool true), .eq (.slice (some ⟨bv, ov, none⟩) 8 cv), .eq (.int .i64 (k : Int)), .eq (.pointer (some ⟨bv, ov + k, none⟩)), .eq (.slice au x.length cu), .eq (.string (str x)), .eq (.int .i64 (k : Int)), .eq (.int .i64 ((10 : Int) + k)), .eq (.int .u8 ((10 : Int) + k)), ⟨fun v w => BIn w v (x) ∧ NilOk v, fun _ _ _ h hb => ⟨h.1.later hb, h.2⟩⟩, .eq (.string (str x)), .eq (.bool false), .eq (.bool false)] ⟨?_, ?_, ?_, ?_, ?_, ?_, ?_, ?_, ?_, ?_, ?_, ?_, ?_, ?_, ?_, ?_, ?_, trivial⟩ ?_
                · intro u w9 hb9 hd9
                  clear hd9
                  refine ⟨?_⟩
                  simp only [Rel.canD, List.take_zero]
                  go_wp2_with fail
                  exact ⟨rfl, rfl, Below.refl _ _, rfl⟩
                · intro u w9 hb9 hd9
                  have e0 : u 0 = .int .i64 (k : Int) := hd9 0 (by kernel_rfl)
                  clear hd9
                  refine ⟨?_⟩
                  simp only [Rel.canD, List.take_succ_cons, List.take_zero, Nat.reduceAdd]
                  go_wp2_with fail
                  exact ⟨rfl, rfl, Below.refl _ _, rfl⟩
                · intro u w9 hb9 hd9
                  have e1 : u 1 = .pointer (some ⟨gb, k, none⟩) := hd9 1 (by kernel_rfl)
                  clear hd9
                  have f9 := cell_later hb9 HFLG.out
                  refine ⟨?_⟩
                  simp only [Rel.canD, List.take_succ_cons, List.take_zero, Nat.reduceAdd]
                  go_wp2_with fail
                  exact ⟨rfl, rfl, Below.refl _ _, rfl⟩
                · intro u w9 hb9 hd9
                  have e2 : u 2 = .bool false := hd9 2 (by kernel_rfl)
                  clear hd9
                  refine ⟨?_⟩
                  simp only [Rel.canD, List.take_succ_cons, List.take_zero, Nat.reduceAdd]
                  go_wp2_with fail
                  exact ⟨rfl, rfl, Below.refl _ _, rfl⟩
                · intro u w9 hb9 hd9
                  have e3 : u 3 = .bool true := hd9 3 (by kernel_rfl)
                  clear hd9
                  refine ⟨?_⟩
                  simp only [Rel.canD, List.take_succ_cons, List.take_zero, Nat.reduceAdd]
                  go_wp2_with fail
                  exact ⟨rfl, rfl, Below.refl _ _, rfl⟩
                · intro u w9 hb9 hd9
                  have e4 : u 4 = .bool true := hd9 4 (by kernel_rfl)
                  clear hd9
                  refine ⟨?_⟩
                  simp only [Rel.canD, List.take_succ_cons, List.take_zero, Nat.reduceAdd]
                  go_wp2_with fail
                  exact ⟨rfl, rfl, Below.refl _ _, rfl⟩
                · intro u w9 hb9 hd9
                  have e4 : u 4 = .bool true := hd9 4 (by kernel_rfl)
                  clear hd9
                  refine ⟨?_⟩
                  simp only [Rel.canD, List.take_succ_cons, List.take_zero, Nat.reduceAdd]
                  go_wp2_with fail
                  exact ⟨rfl, rfl, Below.refl _ _, rfl⟩
                · intro u w9 hb9 hd9
                  have e4 : u 4 = .bool true := hd9 4 (by kernel_rfl)
                  have e5 : u 5 = .slice (some ⟨bv, ov, none⟩) 8 cv := hd9 5 (by kernel_rfl)
                  have e6 : u 6 = .int .i64 (k : Int) := hd9 6 (by kernel_rfl)
                  clear hd9
                  refine ⟨?_⟩
                  simp only [Rel.canD, List.take_succ_cons, List.take_zero, Nat.reduceAdd]
                  go_wp2_with fail
                  exact ⟨rfl, rfl, Below.refl _ _, rfl⟩
                · intro u w9 hb9 hd9
                  have e4 : u 4 = .bool true := hd9 4 (by kernel_rfl)
                  have e7 : u 7 = .pointer (some ⟨bv, ov + k, none⟩) := hd9 7 (by kernel_rfl)
                  clear hd9
                  have f9 := cell_later hb9 HF0.out
                  refine ⟨?_⟩
                  simp only [Rel.canD, List.take_succ_cons, List.take_zero, Nat.reduceAdd]
                  go_wp2_with fail
                  exact ⟨rfl, rfl, Below.refl _ _, rfl⟩
                · intro u w9 hb9 hd9
                  have e4 : u 4 = .bool true := hd9 4 (by kernel_rfl)
                  have e8 : u 8 = .slice au x.length cu := hd9 8 (by kernel_rfl)
                  clear hd9
                  have s9 := (I0.out.later hb9).all N0.out
                  refine ⟨?_⟩
                  simp only [Rel.canD, List.take_succ_cons, List.take_zero, Nat.reduceAdd]
                  go_wp2_with fail
                  exact ⟨rfl, rfl, Below.refl _ _, rfl⟩
                · intro u w9 hb9 hd9
                  have e4 : u 4 = .bool true := hd9 4 (by kernel_rfl)
                  clear hd9
                  refine ⟨?_⟩
                  simp only [Rel.canD, List.take_succ_cons, List.take_zero, Nat.reduceAdd]
                  go_wp2_with fail
                  exact ⟨rfl, rfl, Below.refl _ _, rfl⟩
                · intro u w9 hb9 hd9
                  have e4 : u 4 = .bool true := hd9 4 (by kernel_rfl)
                  have e10 : u 10 = .int .i64 (k : Int) := hd9 10 (by kernel_rfl)
                  clear hd9
                  refine ⟨?_⟩
                  simp only [Rel.canD, List.take_succ_cons, List.take_zero, Nat.reduceAdd]
                  go_wp2_with fail
                  exact ⟨rfl, rfl, Below.refl _ _, rfl⟩
                · intro u w9 hb9 hd9
                  have e4 : u 4 = .bool true := hd9 4 (by kernel_rfl)
                  have e11 : u 11 = .int .i64 ((10 : Int) + k) := hd9 11 (by kernel_rfl)
                  clear hd9
                  refine ⟨?_⟩
                  simp only [Rel.canD, List.take_succ_cons, List.take_zero, Nat.reduceAdd]
                  go_wp2_with fail
                  exact ⟨rfl, rfl, Below.refl _ _, rfl⟩
                · intro u w9 hb9 hd9
                  have e4 : u 4 = .bool true := hd9 4 (by kernel_rfl)
                  have e12 : u 12 = .int .u8 ((10 : Int) + k) := hd9 12 (by kernel_rfl)
                  clear hd9
                  have cF := filled_w (Dv.oct 10 k) w9
                  rw [oct_int 10 k (by omega)] at cF
                  have cF : Calls Try.prog 9 #[.int .u8 ((10 : Int) + k)] w9 fun e w' => e = .returned (.slice (some ⟨w9.heap.size, 0, none⟩) 64 64) ∧ Blk w' w9.heap.size (filled (Dv.oct 10 k)) ∧ Below w9.heap.size w9 w' := cF
                  refine ⟨?_⟩
                  simp only [Rel.canD, List.take_succ_cons, List.take_zero, Nat.reduceAdd]
                  go_wp2_with fail
                  refine cF.mono ?_
                  rintro e w10 ⟨rfl, hB10, hb10⟩
                  go_wp2_with fail
                  exact ⟨rfl, rfl, hb10, by rw [HX.out]; exact ⟨hB10.in_ rfl (Nat.le_refl _) (by decide), some_ok _ _ _⟩⟩
                · intro u w9 hb9 hd9
                  have e4 : u 4 = .bool true := hd9 4 (by kernel_rfl)
                  have e13 : BIn w9 (u 13) (x) ∧ NilOk (u 13) := hd9 13 (by kernel_rfl)
                  clear hd9
                  have s9 := e13.1.all e13.2
                  refine ⟨?_⟩
                  simp only [Rel.canD, List.take_succ_cons, List.take_zero, Nat.reduceAdd]
                  go_wp2_with fail
                  exact ⟨rfl, rfl, Below.refl _ _, rfl⟩
                · intro u w9 hb9 hd9
                  have e4 : u 4 = .bool true := hd9 4 (by kernel_rfl)
                  have e9 : u 9 = .string (str x) := hd9 9 (by kernel_rfl)
                  have e14 : u 14 = .string (str x) := hd9 14 (by kernel_rfl)
                  clear hd9
                  refine ⟨?_⟩
                  simp only [Rel.canD, List.take_succ_cons, List.take_zero, Nat.reduceAdd]
                  go_wp2_with fail
                  exact ⟨rfl, rfl, Below.refl _ _, rfl⟩
                · intro u w9 hb9 hd9
                  have e4 : u 4 = .bool true := hd9 4 (by kernel_rfl)
                  have e15 : u 15 = .bool false := hd9 15 (by kernel_rfl)
                  clear hd9
                  refine ⟨?_⟩
                  simp only [Rel.canD, List.take_succ_cons, List.take_zero, Nat.reduceAdd]
                  go_wp2_with fail
                  exact ⟨rfl, rfl, Below.refl _ _, rfl⟩
                intro u w9 hb9 hR9
                have h16 : u 16 = .bool false := hR9 16 (by decide)
                simp only [Rel.canD, Nat.reduceAdd, h16]
                clear hR9
                have hbE := bt5 HBR.out hb9
                go_simp
                go_wp2_with fail
                go_roundw
                case rel => exact ⟨k + 1, by omega, by go_num, hbE⟩
                case measure => simp [intOf]; omega
            · have hki : ¬ (k : Int) < 8 := by omega
              have cX := HP.out.waiting g _ F8 wr (HP.out.later HD8.out hbr) ⟨Nat.le_of_ble_eq_true rfl, Nat.zero_le _, by show (Dv.left_ _ _ _ _ _ _).length ≤ _; rw [Dv.left_length]; exact Dv.anew_safe wt, Nat.zero_le _⟩ (HE.out _ (bt5 HB0.out (bt5 HB8.out hbr)))
              have cX : Calls Try.prog 13 #[.pointer (some ⟨g, 0, none⟩)] wr fun e w' => e = .returned (.int .i64 0) ∧ Below wr.heap.size wr w' := cX
              go_wp2_with fail
              refine cX.mono ?_
              rintro e w9 ⟨rfl, hb9⟩
              clear cX
              go_wp2_with fail
              go_ret
              exact ⟨rfl, bt5 HB0.out (bt5 HB8.out (bt5 hbr hb9))⟩
end Go.Proofs.Ytaagfgkoglhfaaa
