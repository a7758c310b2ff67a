/- The document's own answers: Sum, Frame; the laws' joined and awake. -/
import Derived.Test.YtkmefpeplpllhaaDoorCrP2
namespace Go.Proofs.YtkmefpeplpllhaaDoor
open Go.RowKit

theorem shs_succ (n r : Nat) : Cr.shs (n + 1) r = Cr.sh (Cr.shs n r) := by rw [Cr.shs_add]; rfl
set_option maxHeartbeats 1600000 in
set_option maxRecDepth 100000 in
theorem rSum_w (v : Value) (l : List UInt8) (w : World) (h : BIn w v l) :
    Calls Tryd.prog 10 #[v] w fun e w' => e = .returned (.int .u32 ((Cr.sum l : Nat) : Int)) ∧ w = w' := by
  obtain ⟨ao, cap, rfl, hlc, hc9, hg⟩ := h
  obtain ⟨L, hL⟩ : ∃ L, L = l.length := ⟨_, rfl⟩
  have HL := Lib.hid hL
  have HG := Lib.hid hg
  rw [← hL] at hlc ⊢
  clear hL hg
  go_enter Tryd.func10, Tryd.ntmps10
  go_wp2_with fail
  go_loop [3, 4] (fun r i => ∃ k R : Nat, k ≤ L ∧ i = .int .i64 k ∧ r = .int .u32 (R : Int) ∧ R < 4294967296 ∧ Hid (R = Cr.run Cr.ones (l.take k))) (fun _ i => L - (intOf i).toNat)
  case atStart => exact ⟨0, Cr.ones, Nat.zero_le _, rfl, rfl, by decide, Lib.hid rfl⟩
  case round =>
    obtain ⟨k, R, hk, rfl, rfl, hRl, HR⟩ := hrel
    by_cases hlt : k < L
    · have hki : (k : Int) < L := by omega
      obtain ⟨b, o, hao, hbl, hcell⟩ := HG.out.resolve_left (fun x => by have := HL.out; rw [x] at this; simp at this; omega)
      subst hao
      have k0 : k < l.length := by rw [← HL.out]; exact hlt
      have hc := hcell k k0
      have HS := Lib.hid (tk_snoc l k k0)
      clear hcell
      generalize l[k] = c at *
      have hcl : c.toNat < 256 := c.toNat_lt
      obtain ⟨n, hn⟩ : ∃ n, c.toNat = n := ⟨_, rfl⟩
      have HN := Lib.hid hn
      rw [hn] at hc hcl
      obtain ⟨X0, hX0⟩ : ∃ X0, R ^^^ n = X0 := ⟨_, rfl⟩
      have hx0 := xr R n hRl (by omega) X0 hX0
      have hX0l : X0 < 4294967296 := by rw [← hX0]; exact Cr.xor_lt hRl (by omega)
      have HX0 := Lib.hid hX0
      clear hn hX0
      go_wp2_with fail
      go_loop [3, 5] (fun r i => ∃ j X : Nat, j ≤ 8 ∧ i = .int .i64 j ∧ r = .int .u32 (X : Int) ∧ X < 4294967296 ∧ Hid (X = Cr.shs j X0)) (fun _ i => 8 - (intOf i).toNat)
      case atStart => exact ⟨0, X0, Nat.zero_le _, rfl, rfl, hX0l, Lib.hid rfl⟩
      case round =>
        obtain ⟨j, X, hj, rfl, rfl, hXl, HX⟩ := hrel
        by_cases hjl : j < 8
        · have hji : (j : Int) < 8 := by omega
          obtain ⟨q, hq⟩ : ∃ q, X / 2 = q := ⟨_, rfl⟩
          have hs1 : (X : Int) / 2 = (q : Int) := by omega
          have hql : q < 4294967296 := by omega
          have HST : Hid (Cr.shs (j + 1) X0 = if X % 2 = 1 then q ^^^ Cr.poly else q) := Lib.hid (by rw [shs_succ, ← HX.out, ← hq]; rfl)
          by_cases hm : X % 2 = 1
          · have hmi : (X : Int) % 2 = 1 := by omega
            obtain ⟨Y, hY⟩ : ∃ Y, q ^^^ Cr.poly = Y := ⟨_, rfl⟩
            have hx1 : bits .xor .u32 (q : Int) 3988292384 = (Y : Int) := xr q Cr.poly hql (by decide) Y hY
            have hYl : Y < 4294967296 := by rw [← hY]; exact Cr.xor_lt hql (by decide)
            have HY : Hid (Y = Cr.shs (j + 1) X0) := Lib.hid (by rw [HST.out, if_pos hm, hY])
            clear hY hq
            go_wp2_with fail
            go_round
            case rel => exact ⟨j + 1, Y, by omega, by go_num, rfl, hYl, HY⟩
            case measure => simp [intOf]; omega
          · have hmi : (X : Int) % 2 = 0 := by omega
            have HY : Hid (q = Cr.shs (j + 1) X0) := Lib.hid (by rw [HST.out, if_neg hm])
            clear hq hm
            go_wp2_with fail
            go_round
            case rel => exact ⟨j + 1, q, by omega, by go_num, rfl, hql, HY⟩
            case measure => simp [intOf]; omega
        · have hji : ¬ (j : Int) < 8 := by omega
          have HE : Hid (X = Cr.run Cr.ones (l.take (k + 1))) := Lib.hid (by
            rw [HX.out, HS.out, Cr.run_append, ← HR.out, show j = 8 by omega, ← HX0.out, ← HN.out]; rfl)
          clear hj hjl
          go_wp2_with fail
          go_round
          case rel => exact ⟨k + 1, X, by omega, by go_num, rfl, hXl, HE⟩
          case measure => simp [intOf]; omega
    · have hki : ¬ (k : Int) < L := by omega
      have HE : Hid (R ^^^ Cr.ones = Cr.sum l) := Lib.hid (by
        rw [HR.out, show k = l.length by rw [← HL.out]; omega, List.take_length]; rfl)
      obtain ⟨z, hz⟩ : ∃ z, R ^^^ Cr.ones = z := ⟨_, rfl⟩
      have hmz : bits .xor .u32 (R : Int) 4294967295 = (z : Int) := xr R Cr.ones hRl (by decide) z hz
      rw [hz] at HE
      clear hz hlt hk
      go_wp2_with fail
      go_ret
      exact ⟨by rw [← HE.out]; rfl, rfl⟩

set_option maxHeartbeats 3200000 in
set_option maxRecDepth 100000 in
theorem rFrame_w (v : Value) (l : List UInt8) (w : World) (h : BIn w v l) (hn : NilOk v) (ht : l.length ≤ 100000000) :
    Calls Tryd.prog 15 #[v] w fun e w' => ∃ u, e = .returned u ∧ Buf w w' u (Cr.frame l) := by
  have cS := rSum_w v l w h
  have hn4 := Cr.sum_lt l
  have HF : Hid (Cr.frame l = l ++ Cr.le4 (Cr.sum l)) := Lib.hid rfl
  generalize Cr.sum l = n at *
  have hlen1 : ([] : List UInt8).length + l.length ≤ 1000000000 := by simp; omega
  have HB := Lib.hid h
  clear h
  go_enter Tryd.func15, Tryd.ntmps15
  go_wp2_with fail
  refine cS.mono ?_
  rintro e w1 ⟨rfl, rfl⟩
  clear cS
  go_upto_region 3 with fail
  go_upto_region 4 with (at_builtin; refine appBs (Buf.nil w) HB.out hn hlen1 rfl _ _ rfl rfl rfl ?_; intro v2 w2 hB _)
  rw [List.nil_append] at hB
  have h4 := le4_in w2 n hn4
  have hlen : l.length + (Cr.le4 n).length ≤ 1000000000 := by rw [Cr.le4_length]; omega
  have hB2 := hB.alloc (.cells #[.int .u8 ((n : Int) % 256), .int .u8 ((n : Int) / 256 % 256), .int .u8 ((n : Int) / 65536 % 256), .int .u8 ((n : Int) / 16777216)] 5)
  go_wp2_with (at_builtin; refine appBs hB2 h4 (nil_ok _ _ _) hlen rfl _ _ rfl rfl rfl ?_; intro v' w3 hB3 _)
  go_ret
  exact ⟨_, rfl, by rw [HF.out]; exact hB3⟩
end Go.Proofs.YtkmefpeplpllhaaDoor
