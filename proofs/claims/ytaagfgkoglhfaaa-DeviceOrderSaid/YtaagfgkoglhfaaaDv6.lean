/- The law DeviceOrder. -/
import Derived.Test.YtaagfgkoglhfaaaDv4
namespace Go.Proofs.Ytaagfgkoglhfaaa
open Go.RowKit

/-- Eight octets in a block of the call's own. -/
def Wants (w : World) (g : Nat) (b : Nat → UInt8) : Prop := ∃ C, w.heap[g]? = some (.cells C 46 (0, 0)) ∧ C.size = 8 ∧ ∀ m, m < 8 → C[m]? = some (.int .u8 ((b m).toNat : Int))
theorem Wants.cell {w : World} {g : Nat} {b : Nat → UInt8} (h : Wants w g b) (m : Nat) (hm : m < 8) : w.cell? ⟨g, m, none⟩ = some (.int .u8 ((b m).toNat : Int)) ∧ w.frozen? ⟨g, m, none⟩ = false := by
  obtain ⟨C, h1, h2, h3⟩ := h
  constructor
  · simp only [World.cell?, h1]; simpa using h3 m hm
  · simp only [World.frozen?, h1]; simp
theorem Wants.set {w : World} {g : Nat} {b b' : Nat → UInt8} (h : Wants w g b) (m : Nat) (hm : m < 8) (c : UInt8) (n : Int) (hn : n = c.toNat) (hb : ∀ i, b' i = if m = i then c else b i) : Wants (w.setCell ⟨g, m, none⟩ (.int .u8 n)) g b' := by
  subst hn
  obtain ⟨C, h1, h2, h3⟩ := h
  have hlt := lt_of_block h1
  refine ⟨C.setIfInBounds m (.int .u8 c.toNat), ?_, by simp [h2], fun i hi => ?_⟩
  · show (w.heap.modify g _)[g]? = _
    have h' : w.heap[g] = .cells C 46 (0, 0) := by simpa [Array.getElem?_eq_getElem hlt] using h1
    rw [Array.getElem?_eq_getElem (by simpa using hlt), Array.getElem_modify_self, h']
    rfl
  · rw [Array.getElem?_setIfInBounds, hb]
    by_cases e : m = i
    · subst e; simp [h2, hm]
    · rw [if_neg e, if_neg e]; exact h3 i hi
theorem Wants.keep {w w' : World} {g : Nat} {b : Nat → UInt8} (h : Wants w g b) (hk : w'.heap[g]? = w.heap[g]?) : Wants w' g b := by
  obtain ⟨C, h1, h2, h3⟩ := h
  exact ⟨C, by rw [hk]; exact h1, h2, h3⟩
theorem Wants.lt {w : World} {g : Nat} {b : Nat → UInt8} (h : Wants w g b) : g < w.heap.size := by obtain ⟨C, h1, _⟩ := h; exact lt_of_block h1
theorem fair_ord {d : Dv.S} {b : Nat → UInt8} (h : Dv.Ord d b) (hn : d.n ≤ 1000) (hw : d.wait.length ≤ 1000) : Fair d := ⟨by omega, by omega, by rw [h.len]; decide, by rw [h.calm.1]; exact Nat.zero_le _⟩
/-- More, and not g. -/
theorem More.not {F F' : Nat → Prop} {w : World} {g : Nat} (h : More F F' w) (hn : ¬ F g) (hg : g < w.heap.size) : ¬ F' g := fun hf => by
  rcases h g hf with x | x
  · exact hn x
  · omega

set_option maxHeartbeats 6400000 in
set_option maxRecDepth 100000 in
theorem dorder_w {Env : World → Prop} {Dev : World → Nat → Dv.S → (Nat → Prop) → Prop} (P : Prog13 Env Dev) (v : Value) (l : List UInt8) (fl : Int) (w : World) (h : BIn w v l) (_hn : NilOk v) (hE : Env w) :
    Calls Try.prog 5 #[v, .int .i64 fl] w fun e w' => e = .returned (.bool true) ∧ Below w.heap.size w w' := by
  have HE := Lib.hid (fun (W : World) (hb : Below w.heap.size w W) => P.env hE hb)
  have HP := Lib.hid P
  have cA := Lib.hid (fun (W : World) (hb : Below w.heap.size w W) => dawake_w P W (P.env hE hb))
  obtain ⟨ao, cap, rfl, hlc, hc9, hg⟩ := h
  obtain ⟨N, hN⟩ : ∃ N, N = l.length := ⟨_, rfl⟩
  have HN := Lib.hid hN
  have HG := Lib.hid hg
  rw [← hN] at hlc ⊢
  have hww : Below w.heap.size w w := Below.refl _ _
  clear hE P hN hg
  go_enter Try.func5, Try.ntmps5
  by_cases h6 : (60 : Int) < N
  · go_wp2_with fail
    refine (cA.out w hww).mono ?_
    rintro e w1 ⟨rfl, hb1⟩
    go_wp2_with fail
    refine (cA.out w1 hb1).mono ?_
    rintro e w2 ⟨rfl, hb2⟩
    go_wp2_with fail
    go_ret
    exact ⟨rfl, bt5 hb1 hb2⟩
  have hN6 : N ≤ 60 := by omega
  go_wp2_with fail
  refine (cA.out w hww).mono ?_
  rintro e w1 ⟨rfl, hb⟩
  have c0 := HP.out.new 8 w1 (by decide) (by decide) (HE.out _ hb)
  clear hww
  go_wp2_with fail
  refine c0.mono ?_
  rintro e w2 ⟨g, F2, rfl, hD, hx, hF⟩
  clear c0
  replace hF : ∀ k, F2 k → w.heap.size ≤ k := fun k hk => Nat.le_trans hb.size (hF k hk)
  replace hb := bt5 hb hx
  clear hx
  go_upto_region 7 with fail
  obtain ⟨gb, hgb⟩ : ∃ gb, gb = w2.heap.size := ⟨_, rfl⟩
  have hfl : Wants (w2.alloc (.cells #[.int .u8 0, .int .u8 0, .int .u8 0, .int .u8 0, .int .u8 0, .int .u8 0, .int .u8 0, .int .u8 0] 46)) gb (fun _ => 0) :=
    ⟨_, by rw [hgb]; exact heap_alloc_new w2 _, rfl, fun m hm => by
      match m, hm with
      | 0, _ => rfl
      | 1, _ => rfl
      | 2, _ => rfl
      | 3, _ => rfl
      | 4, _ => rfl
      | 5, _ => rfl
      | 6, _ => rfl
      | 7, _ => rfl⟩
  have hD6 := HP.out.later hD ((Below.refl _ _).alloc (Nat.le_refl _) (.cells #[.int .u8 0, .int .u8 0, .int .u8 0, .int .u8 0, .int .u8 0, .int .u8 0, .int .u8 0, .int .u8 0] 46))
  have hb6 := hb.alloc hb.size (.cells #[.int .u8 0, .int .u8 0, .int .u8 0, .int .u8 0, .int .u8 0, .int .u8 0, .int .u8 0, .int .u8 0] 46)
  have hnb : ¬ F2 gb := not_new (HP.out.lt hD) _ (by rw [hgb]; exact Nat.le_refl _)
  have hgb0 : w.heap.size ≤ gb := by rw [hgb]; exact hb.size
  generalize w2.alloc _ = w6 at hfl hD6 hb6 ⊢
  rw [← hgb]
  clear hD hb hgb
  go_upto_region 8 with fail
  go_loopw [8] (fun i wr => ∃ (j : Nat) (F : Nat → Prop) (d : Dv.S) (b : Nat → UInt8), j ≤ N ∧ i = .int .i64 j ∧ Dev wr g d F ∧ Dv.Ord d b ∧ d.n ≤ 2 * j ∧ d.wait.length ≤ j ∧ Below w.heap.size w wr ∧ (∀ x, F x → w.heap.size ≤ x) ∧ ¬ F gb ∧ Wants wr gb b) (fun i _ => N - (intOf i).toNat)
  case atStart => exact ⟨0, F2, _, _, Nat.zero_le _, rfl, hD6, Dv.ord_init, Nat.le_refl _, Nat.le_refl _, hb6, hF, hnb, hfl⟩
  case round =>
    clear hD6 hb6 hF hnb hfl
    obtain ⟨j, F, d, b, hj, rfl, hD, hO, hn2, hw2, hb, hF, hnb, hfl⟩ := hrel
    by_cases hlt : j < N
    · have hji : (j : Int) < N := by omega
      obtain ⟨bk, o, hx, hl0, hc⟩ := HG.out.resolve_left (fun x => by have := HN.out; rw [x] at this; simp at this; omega)
      subst hx
      have fa := cell_later hb (hc j (by rw [← HN.out]; exact hlt))
      clear hc
      generalize l[j]'(by rw [← HN.out]; exact hlt) = c at fa
      have hcl := c.toNat_lt
      generalize c.toNat = cn at fa hcl
      obtain ⟨k, hk⟩ : ∃ k, cn % 8 = k := ⟨_, rfl⟩
      have hk8 : k < 8 := by omega
      have hki : (cn : Int) % 8 = (k : Int) := by omega
      have hk8i : (k : Int) < 8 := by omega
      obtain ⟨x, hxx⟩ : ∃ x, x = UInt8.ofNat (j + 1) := ⟨_, rfl⟩
      have hxn : (x.toNat : Int) = (j : Int) + 1 := by rw [hxx, UInt8.toNat_ofNat', Nat.mod_eq_of_lt (by omega)]; omega
      have cF : Calls Try.prog 9 #[.int .u8 ((j : Int) + 1)] wr fun e w' => e = .returned (.slice (some ⟨wr.heap.size, 0, none⟩) 64 64) ∧ Blk w' wr.heap.size (filled x) ∧ Below wr.heap.size wr w' := by
        have := filled_w x wr
        rwa [hxn] at this
      obtain ⟨d2, hw, hO2, hn3, hw3, hbad⟩ := Dv.ord_write (b' := fun i => if k = i then x else b i) hO k hk8 x (fun i => rfl)
      have hfair := fair_ord hO (by omega) (by omega)
      have hgs := hfl.lt
      have HXN := Lib.hid hxn
      clear hk hxx hxn
      go_wp2_with fail
      refine cF.mono ?_
      rintro e w3 ⟨rfl, hB, hx⟩
      clear cF
      obtain ⟨hbs, hD3, hx3⟩ := one_out HP.out x hD hB hx
      have hbw := bt5 hb hx3
      have hfl3 := hfl.keep (hx3.block gb hgs)
      have hgs3 := Nat.lt_of_lt_of_le hgs hx3.size
      have cW := HP.out.write g d F k _ _ _ hD3 hfair hbs (by simp) (by omega) (HE.out _ hbw)
      rw [hw] at cW
      have HBW := Lib.hid hbw
      have HFL := Lib.hid hfl3
      have HGS := Lib.hid hgs3
      clear hbs hD hD3 hB hx hx3 hbw hb hfl hfl3 hgs hgs3 hw fa
      go_wp2_with fail
      refine cW.mono ?_
      rintro e w4 ⟨F4, rfl, hD4, ht, hm⟩
      clear cW
      have hb4 := ht.below hF HBW.out HBW.out.size
      have hF4 := hm.up hF HBW.out.size
      have hnb4 := hm.not hnb HGS.out
      have hfl4 := HFL.out.keep (ht.block gb HGS.out hnb)
      clear ht hm HBW HFL HGS hF hnb
      obtain ⟨fc, ff⟩ := hfl4.cell k hk8
      have hD5 : Dev (w4.setCell ⟨gb, k, none⟩ (.int .u8 ((j : Int) + 1))) g d2 F4 := HP.out.keep hD4 (by simp [World.setCell]) (fun m hm => by
        have hne : gb ≠ m := fun e => hnb4 (e ▸ hm)
        show (w4.heap.modify gb _)[m]? = _
        rw [Array.getElem?_modify]
        simp [hne])
      have hfl5 := hfl4.set (b' := fun i => if k = i then x else b i) k hk8 x ((j : Int) + 1) HXN.out.symm (fun i => rfl)
      have hb5 := set_below (k := k) (v := .int .u8 ((j : Int) + 1)) hb4 hgb0
      have HD5 := Lib.hid hD5
      have HFL5 := Lib.hid hfl5
      have HB5 := Lib.hid hb5
      clear hD4 hb4 hfl4 hD5 hfl5 hb5
      generalize hbb : (fun i => if k = i then x else b i) = b2 at *
      clear hbb
      go_upto_region 14 with fail
      generalize w4.setCell ⟨gb, k, none⟩ (.int .u8 ((j : Int) + 1)) = w5 at *
      clear fc ff
      by_cases hjf : (j : Int) = fl
      · subst hjf
        obtain ⟨d3, hw4, hO3, hn4, hw5⟩ := Dv.ord_flush hO2
        have cL := HP.out.flush g d2 F4 w5 HD5.out (fair_ord hO2 (by omega) (by omega)) (HE.out _ HB5.out)
        rw [hw4] at cL
        go_wp2_with fail
        refine cL.mono ?_
        rintro e w7 ⟨F7, rfl, hD7, ht, hm⟩
        clear cL
        have hb7 := ht.below hF4 HB5.out HB5.out.size
        have hF7 := hm.up hF4 HB5.out.size
        have hnb7 := hm.not hnb4 HFL5.out.lt
        have hfl7 := HFL5.out.keep (ht.block gb HFL5.out.lt hnb4)
        clear ht hm
        go_wp2_with fail
        go_roundw
        case rel => exact ⟨j + 1, F7, d3, b2, by omega, by go_num, hD7, hO3, by omega, by rw [hw5]; exact Nat.zero_le _, hb7, hF7, hnb7, hfl7⟩
        case measure => simp [intOf]; omega
      · have hjb : ((j : Int) == fl) = false := beq_eq_false_iff_ne.2 hjf
        go_wp2_with fail
        go_roundw
        case rel => exact ⟨j + 1, F4, d2, b2, by omega, by go_num, HD5.out, hO2, by omega, by omega, HB5.out, hF4, hnb4, HFL5.out⟩
        case measure => simp [intOf]; omega
    · have hji : ¬ (j : Int) < N := by omega
      clear hlt
      go_upto_region 17 with fail
      go_loopw [10] (fun i wr => ∃ (m : Nat) (F : Nat → Prop) (d : Dv.S), m ≤ 2 ∧ i = .int .i64 m ∧ Dev wr g d F ∧ Dv.Ord d b ∧ d.n ≤ 200 + 2 * m ∧ d.wait.length ≤ 100 ∧ Below w.heap.size w wr ∧ (∀ x, F x → w.heap.size ≤ x) ∧ ¬ F gb ∧ Wants wr gb b) (fun i _ => 2 - (intOf i).toNat)
      case atStart => exact ⟨0, F, d, Nat.zero_le _, rfl, hD, hO, by omega, by omega, hb, hF, hnb, hfl⟩
      case round =>
        clear hD hO hn2 hw2 hb hF hnb hfl hji hj
        obtain ⟨m, F, d, hm2, rfl, hD, hO, hn2, hw2, hb, hF, hnb, hfl⟩ := hrel
        by_cases hlt : m < 2
        · have hmi : (m : Int) < 2 := by omega
          obtain ⟨d2, ls, hw, hO2, hn3, hw3, hll, hls⟩ := Dv.ord_read hO
          have cR := HP.out.read g d F 0 8 wr hD (fair_ord hO (by omega) (by omega)) (by decide) (by decide) (HE.out _ hb)
          rw [hw] at cR
          clear hD
          go_wp2_with fail
          refine cR.mono ?_
          rintro e w8 ⟨F8, v8, rfl, hD8, ht, hm, hR8⟩
          clear cR
          have hb8 := ht.below hF hb hb.size
          have hF8 := hm.up hF hb.size
          have hnb8 := hm.not hnb hfl.lt
          have hfl8 := hfl.keep (ht.block gb hfl.lt hnb)
          have hI8 := hR8.in_
          clear ht hm hF hb hnb hfl hR8 hw
          obtain ⟨av, cv, rfl, hcv, hcv9, hgv⟩ := hI8
          have hgv2 := hgv.resolve_left (fun x => by rw [x] at hll; cases hll)
          obtain ⟨bv, ov, rfl, hbv, hcell⟩ := hgv2
          have HCELL := Lib.hid hcell
          have HLS := Lib.hid hls
          have HLL := Lib.hid hll
          rw [hll] at hcv ⊢
          have HFL8 := Lib.hid hfl8
          have HB8 := Lib.hid hb8
          have HD8 := Lib.hid hD8
          have HO2 := Lib.hid hO2
          clear hgv hcell hls hll hfl8 hb8 hD8 hO2
          go_upto_region 23 with fail
          go_loopw [13] (fun i wr => ∃ k : Nat, k ≤ 8 ∧ i = .int .i64 k ∧ Below w8.heap.size w8 wr) (fun i _ => 8 - (intOf i).toNat)
          case atStart => exact ⟨0, Nat.zero_le _, rfl, Below.refl _ _⟩
          case round =>
            obtain ⟨k, hk, rfl, hbr⟩ := hrel
            by_cases hlt : k < 8
            · have hki : (k : Int) < 8 := by omega
              obtain ⟨u0, f0, i0, n0⟩ := HCELL.out k (by rw [HLL.out]; exact hlt)
              rw [HLS.out k (by rw [HLL.out]; exact hlt)] at i0
              have HF0 := Lib.hid (cell_later hbr f0)
              have HFLG := Lib.hid ((HFL8.out.keep (hbr.block gb HFL8.out.lt)).cell k hlt).1
              have I0 := Lib.hid (i0.later hbr)
              have N0 := Lib.hid n0
              have HBR := Lib.hid hbr
              obtain ⟨x, hx⟩ : ∃ x, x = Dv.f_ (b k) := ⟨_, rfl⟩
              have HX := Lib.hid hx
              rw [← hx] at I0
              obtain ⟨c, hc⟩ : ∃ c, c = b k := ⟨_, rfl⟩
              have HCK := Lib.hid hc
              rw [← hc] at HFLG
              obtain ⟨au, cu, rfl, _, _, _⟩ := I0.out
              clear f0 i0 n0 hbr hx hc
              go_upto_region 25 with fail
              refine Rel.region_of (by kernel_rfl) [some 79, some 80, some 81, some 82, some 83, some 84, some 85, some 86, some 87, some 88, some 89] (by kernel_rfl) (by kernel_rfl) [.eq (.slice (some ⟨bv, ov, none⟩) 8 cv), .eq (.int .i64 (k : Int)), .eq (.pointer (some ⟨bv, ov + k, none⟩)), .eq (.slice au x.length cu), .eq (.string (str x)), .eq (.int .i64 (k : Int)), .eq (.pointer (some ⟨gb, k, none⟩)), .eq (.int .u8 (c.toNat : Int)), ⟨fun v w => BIn w v (x) ∧ NilOk v, fun _ _ _ h hb => ⟨h.1.later hb, h.2⟩⟩, .eq (.string (str x)), .eq (.bool false)] ⟨?_, ?_, ?_, ?_, ?_, ?_, ?_, ?_, ?_, ?_, ?_, trivial⟩ ?_
              · intro u w9 hb9 hd9
                clear hd9
                refine ⟨?_⟩
                simp only [Rel.canD, List.take_zero]
                go_wp2_with fail
                exact ⟨rfl, rfl, Below.refl _ _, rfl⟩
              · intro u w9 hb9 hd9
                clear hd9
                refine ⟨?_⟩
                simp only [Rel.canD, List.take_succ_cons, List.take_zero, Nat.reduceAdd]
                go_wp2_with fail
                exact ⟨rfl, rfl, Below.refl _ _, rfl⟩
              · intro u w9 hb9 hd9
                have e0 : u 0 = .slice (some ⟨bv, ov, none⟩) 8 cv := hd9 0 (by kernel_rfl)
                have e1 : u 1 = .int .i64 (k : Int) := hd9 1 (by kernel_rfl)
                clear hd9
                refine ⟨?_⟩
                simp only [Rel.canD, List.take_succ_cons, List.take_zero, Nat.reduceAdd]
                go_wp2_with fail
                exact ⟨rfl, rfl, Below.refl _ _, rfl⟩
              · intro u w9 hb9 hd9
                have e2 : u 2 = .pointer (some ⟨bv, ov + k, none⟩) := hd9 2 (by kernel_rfl)
                clear hd9
                have f9 := cell_later hb9 HF0.out
                refine ⟨?_⟩
                simp only [Rel.canD, List.take_succ_cons, List.take_zero, Nat.reduceAdd]
                go_wp2_with fail
                exact ⟨rfl, rfl, Below.refl _ _, rfl⟩
              · intro u w9 hb9 hd9
                have e3 : u 3 = .slice au x.length cu := hd9 3 (by kernel_rfl)
                clear hd9
                have s9 := (I0.out.later hb9).all N0.out
                refine ⟨?_⟩
                simp only [Rel.canD, List.take_succ_cons, List.take_zero, Nat.reduceAdd]
                go_wp2_with fail
                exact ⟨rfl, rfl, Below.refl _ _, rfl⟩
              · intro u w9 hb9 hd9
                clear hd9
                refine ⟨?_⟩
                simp only [Rel.canD, List.take_succ_cons, List.take_zero, Nat.reduceAdd]
                go_wp2_with fail
                exact ⟨rfl, rfl, Below.refl _ _, rfl⟩
              · intro u w9 hb9 hd9
                have e5 : u 5 = .int .i64 (k : Int) := hd9 5 (by kernel_rfl)
                clear hd9
                refine ⟨?_⟩
                simp only [Rel.canD, List.take_succ_cons, List.take_zero, Nat.reduceAdd]
                go_wp2_with fail
                exact ⟨rfl, rfl, Below.refl _ _, rfl⟩
              · intro u w9 hb9 hd9
                have e6 : u 6 = .pointer (some ⟨gb, k, none⟩) := hd9 6 (by kernel_rfl)
                clear hd9
                have f9 := cell_later hb9 HFLG.out
                refine ⟨?_⟩
                simp only [Rel.canD, List.take_succ_cons, List.take_zero, Nat.reduceAdd]
                go_wp2_with fail
                exact ⟨rfl, rfl, Below.refl _ _, rfl⟩
              · intro u w9 hb9 hd9
                have e7 : u 7 = .int .u8 (c.toNat : Int) := hd9 7 (by kernel_rfl)
                clear hd9
                have cF := filled_w c w9
                refine ⟨?_⟩
                simp only [Rel.canD, List.take_succ_cons, List.take_zero, Nat.reduceAdd]
                go_wp2_with fail
                refine cF.mono ?_
                rintro e w10 ⟨rfl, hB10, hb10⟩
                go_wp2_with fail
                exact ⟨rfl, rfl, hb10, by rw [HX.out, ← HCK.out]; exact ⟨hB10.in_ rfl (Nat.le_refl _) (by decide), some_ok _ _ _⟩⟩
              · intro u w9 hb9 hd9
                have e8 : BIn w9 (u 8) (x) ∧ NilOk (u 8) := hd9 8 (by kernel_rfl)
                clear hd9
                have s9 := e8.1.all e8.2
                refine ⟨?_⟩
                simp only [Rel.canD, List.take_succ_cons, List.take_zero, Nat.reduceAdd]
                go_wp2_with fail
                exact ⟨rfl, rfl, Below.refl _ _, rfl⟩
              · intro u w9 hb9 hd9
                have e4 : u 4 = .string (str x) := hd9 4 (by kernel_rfl)
                have e9 : u 9 = .string (str x) := hd9 9 (by kernel_rfl)
                clear hd9
                refine ⟨?_⟩
                simp only [Rel.canD, List.take_succ_cons, List.take_zero, Nat.reduceAdd]
                go_wp2_with fail
                exact ⟨rfl, rfl, Below.refl _ _, rfl⟩
              intro u w9 hb9 hR9
              have h10 : u 10 = .bool false := hR9 10 (by decide)
              simp only [Rel.canD, Nat.reduceAdd, h10]
              clear hR9
              have hbE := bt5 HBR.out hb9
              go_simp
              go_wp2_with fail
              go_roundw
              case rel => exact ⟨k + 1, by omega, by go_num, hbE⟩
              case measure => simp [intOf]; omega
            · have hki : ¬ (k : Int) < 8 := by omega
              obtain ⟨d3, hw4, hO3, hn4, hw5⟩ := Dv.ord_flush HO2.out
              have hbE := bt5 HB8.out hbr
              have cL := HP.out.flush g d2 F8 wr (HP.out.later HD8.out hbr) (fair_ord HO2.out (by omega) (by rw [hw3]; omega)) (HE.out _ hbE)
              rw [hw4] at cL
              have hflr := HFL8.out.keep (hbr.block gb HFL8.out.lt)
              have HFLR := Lib.hid hflr
              clear hflr hbr
              go_wp2_with fail
              refine cL.mono ?_
              rintro e w9 ⟨F9, rfl, hD9, ht, hm⟩
              clear cL
              have hb9 := ht.below hF8 hbE hbE.size
              have hF9 := hm.up hF8 hbE.size
              have hnb9 := hm.not hnb8 HFLR.out.lt
              have hfl9 := HFLR.out.keep (ht.block gb HFLR.out.lt hnb8)
              clear ht hm
              have cX := HP.out.waiting g d3 F9 w9 hD9 (fair_ord hO3 (by omega) (by rw [hw5]; exact Nat.zero_le _)) (HE.out _ hb9)
              rw [hw5] at cX
              have cX : Calls Try.prog 13 #[.pointer (some ⟨g, 0, none⟩)] w9 fun e w' => e = .returned (.int .i64 0) ∧ Below w9.heap.size w9 w' := cX
              go_wp2_with fail
              refine cX.mono ?_
              rintro e wa ⟨rfl, hba⟩
              clear cX
              have hDa := HP.out.later hD9 hba
              have hbA := bt5 hb9 hba
              have hfla := hfl9.keep (hba.block gb hfl9.lt)
              go_wp2_with fail
              go_roundw
              case rel => exact ⟨m + 1, F9, d3, by omega, by go_num, hDa, hO3, by omega, by rw [hw5]; exact Nat.zero_le _, hbA, hF9, hnb9, hfla⟩
              case measure => simp [intOf]; omega
        · have hmi : ¬ (m : Int) < 2 := by omega
          go_wp2_with fail
          go_ret
          exact ⟨rfl, hb⟩
end Go.Proofs.Ytaagfgkoglhfaaa
