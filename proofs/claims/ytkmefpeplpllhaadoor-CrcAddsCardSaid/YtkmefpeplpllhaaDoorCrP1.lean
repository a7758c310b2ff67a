/- Package crc, the program: More, Sum. -/
import Derived.Test.YtkmefpeplpllhaaDoorCrB
import Derived.Test.YtkmefpeplpllhaaDoorCrMath
import Derived.Laws.BitsAllLaws
namespace Go.Proofs.YtkmefpeplpllhaaDoor
open Go.RowKit

/-- The package's table. -/
def CTab (w : World) : Prop := ∀ j, j < 16 → w.cell? ⟨0, j, none⟩ = some (.int .u32 ((Cr.tab.getD j 0 : Nat) : Int))
theorem cell_later {w w' : World} {b o : Nat} {v : Value} (hb : Below w.heap.size w w') (h : w.cell? ⟨b, o, none⟩ = some v) : w'.cell? ⟨b, o, none⟩ = some v := by
  have := World.block_lt_of_cell? w _ h
  rw [hb.cell (p := ⟨b, o, none⟩) this]; exact h
theorem CTab.later {w w' : World} (h : CTab w) (hb : Below w.heap.size w w') : CTab w' := fun j hj => cell_later hb (h j hj)

theorem tk_snoc (l : List UInt8) (k : Nat) (hk : k < l.length) : l.take (k + 1) = l.take k ++ [l[k]] := by
  rw [List.take_add_one, List.getElem?_eq_getElem hk]; rfl
theorem fl_snoc (ls : List (List UInt8)) (k : Nat) (hk : k < ls.length) : (ls.take (k + 1)).flatten = (ls.take k).flatten ++ ls[k] := by
  rw [List.take_add_one, List.getElem?_eq_getElem hk, List.flatten_append]; simp
theorem xr (a b : Nat) (ha : a < 4294967296) (hb : b < 4294967296) (c : Nat) (h : a ^^^ b = c) : bits .xor .u32 (a : Int) (b : Int) = (c : Int) := by
  rw [u32_xor_nat a b ha hb, h]
theorem an15 (a : Nat) (ha : a < 4294967296) (c : Nat) (h : a % 16 = c) : bits .and .u32 (a : Int) 15 = (c : Int) := by
  have := u32_and_nat a 15 ha (by decide)
  rw [nat_mask4, h] at this
  exact this
theorem mx (a : Nat) (ha : a < 4294967296) (c : Nat) (h : a ^^^ Cr.ones = c) : bits .xor .u32 IntKind.u32.max (a : Int) = (c : Int) := by
  have := u32_xor_nat Cr.ones a (by decide) ha
  rw [Nat.xor_comm, h] at this
  exact this

set_option maxHeartbeats 1600000 in
set_option maxRecDepth 100000 in
theorem More_w (s : Nat) (v : Value) (ls : List (List UInt8)) (w : World) (hs : s < 4294967296) (h : BsIn w v ls) (hT : CTab w) :
    Calls Tryd.prog 12 #[.int .u32 s, v] w fun e w' => e = .returned (.int .u32 ((Cr.more s ls.flatten : Nat) : Int)) ∧ w = w' := by
  obtain ⟨ao, cap, rfl, hlc, hc9, hg⟩ := h
  obtain ⟨L, hL⟩ : ∃ L, L = ls.length := ⟨_, rfl⟩
  have HL := Lib.hid hL
  have HG := Lib.hid hg
  have HT := Lib.hid hT
  rw [← hL] at hlc ⊢
  obtain ⟨r0, hr0⟩ : ∃ r0, s ^^^ Cr.ones = r0 := ⟨_, rfl⟩
  have hm0 := mx s hs r0 hr0
  have HR0 := Lib.hid hr0
  have hr0l : r0 < 4294967296 := by rw [← hr0]; exact Cr.xor_lt hs (by decide)
  clear hL hg hT hr0
  have hsg : IntKind.u32.signed = false := rfl
  go_enter Tryd.func12, Tryd.ntmps12
  go_wp2_with fail
  go_loop [5, 14] (fun r i => ∃ k R : Nat, k ≤ L ∧ i = .int .i64 k ∧ r = .int .u32 (R : Int) ∧ R < 4294967296 ∧ Hid (R = Cr.run r0 (ls.take k).flatten)) (fun _ i => L - (intOf i).toNat)
  case atStart => exact ⟨0, r0, Nat.zero_le _, rfl, rfl, hr0l, Lib.hid rfl⟩
  case round =>
    obtain ⟨k, R, hk, rfl, rfl, hRl, HR⟩ := hrel
    by_cases hlt : k < L
    · have hki : (k : Int) < L := by omega
      obtain ⟨b, o, hao, hbl, hcell⟩ := HG.out.resolve_left (fun x => by have := HL.out; rw [x] at this; simp at this; omega)
      subst hao
      have k0 : k < ls.length := by rw [← HL.out]; exact hlt
      obtain ⟨u, hu, hbin, hnil⟩ := hcell k k0
      have HS := Lib.hid (fl_snoc ls k k0)
      clear hcell hnil
      generalize ls[k] = p at *
      obtain ⟨a2, c2, rfl, hpc, hp9, hpg⟩ := hbin
      obtain ⟨pl, hpl⟩ : ∃ pl, pl = p.length := ⟨_, rfl⟩
      have HPL := Lib.hid hpl
      have HPG := Lib.hid hpg
      rw [← hpl] at hu hpc
      clear hpg hpl
      go_wp2_with fail
      go_loop [5, 20] (fun r i => ∃ j X : Nat, j ≤ pl ∧ i = .int .i64 j ∧ r = .int .u32 (X : Int) ∧ X < 4294967296 ∧ Hid (X = Cr.run R (p.take j))) (fun _ i => pl - (intOf i).toNat)
      case atStart => exact ⟨0, R, Nat.zero_le _, rfl, rfl, hRl, Lib.hid rfl⟩
      case round =>
        obtain ⟨j, X, hj, rfl, rfl, hXl, HX⟩ := hrel
        by_cases hjl : j < pl
        · have hji : (j : Int) < pl := by omega
          obtain ⟨b2, o2, hao2, hbl2, hcell2⟩ := HPG.out.resolve_left (fun x => by have := HPL.out; rw [x] at this; simp at this; omega)
          subst hao2
          have j0 : j < p.length := by rw [← HPL.out]; exact hjl
          have hc := hcell2 j j0
          have HS2 := Lib.hid (tk_snoc p j j0)
          clear hcell2
          generalize p[j] = c at *
          have hcl : c.toNat < 256 := c.toNat_lt
          obtain ⟨n, hn⟩ : ∃ n, c.toNat = n := ⟨_, rfl⟩
          have HST := Lib.hid (Cr.st_tab X c.toNat)
          rw [hn] at hc hcl HST
          have HN := Lib.hid hn
          clear hn
          obtain ⟨X1, hX1⟩ : ∃ X1, X ^^^ n = X1 := ⟨_, rfl⟩
          have hx1 := xr X n hXl (by omega) X1 hX1
          have hX1l : X1 < 4294967296 := by rw [← hX1]; exact Cr.xor_lt hXl (by omega)
          rw [hX1] at HST
          obtain ⟨d1, hd1⟩ : ∃ d1, X1 % 16 = d1 := ⟨_, rfl⟩
          have ha1 := an15 X1 hX1l d1 hd1
          have hd1l : d1 < 16 := by rw [← hd1]; exact Nat.mod_lt _ (by decide)
          have ht1 := HT.out d1 hd1l
          have ht1l := Cr.tab_lt d1 hd1l
          rw [hd1] at HST
          generalize Cr.tab.getD d1 0 = T1 at *
          obtain ⟨q1, hq1⟩ : ∃ q1, X1 / 16 = q1 := ⟨_, rfl⟩
          have hs1 : (X1 : Int) / 16 = (q1 : Int) := by omega
          have hq1l : q1 < 4294967296 := by omega
          rw [hq1] at HST
          obtain ⟨X2, hX2⟩ : ∃ X2, q1 ^^^ T1 = X2 := ⟨_, rfl⟩
          have hx2 := xr q1 T1 hq1l ht1l X2 hX2
          have hX2l : X2 < 4294967296 := by rw [← hX2]; exact Cr.xor_lt hq1l ht1l
          rw [hX2] at HST
          obtain ⟨d2, hd2⟩ : ∃ d2, X2 % 16 = d2 := ⟨_, rfl⟩
          have ha2 := an15 X2 hX2l d2 hd2
          have hd2l : d2 < 16 := by rw [← hd2]; exact Nat.mod_lt _ (by decide)
          have ht2 := HT.out d2 hd2l
          have ht2l := Cr.tab_lt d2 hd2l
          rw [hd2] at HST
          generalize Cr.tab.getD d2 0 = T2 at *
          obtain ⟨q2, hq2⟩ : ∃ q2, X2 / 16 = q2 := ⟨_, rfl⟩
          have hs2 : (X2 : Int) / 16 = (q2 : Int) := by omega
          have hq2l : q2 < 4294967296 := by omega
          rw [hq2] at HST
          obtain ⟨X3, hX3⟩ : ∃ X3, q2 ^^^ T2 = X3 := ⟨_, rfl⟩
          have hx3 := xr q2 T2 hq2l ht2l X3 hX3
          have hX3l : X3 < 4294967296 := by rw [← hX3]; exact Cr.xor_lt hq2l ht2l
          rw [hX3] at HST
          have HX3 : Hid (X3 = Cr.run R (p.take (j + 1))) := Lib.hid (by rw [HS2.out, Cr.run_append, ← HX.out, ← HST.out, ← HN.out]; rfl)
          clear hX1 hd1 hq1 hX2 hd2 hq2 hX3
          go_wp2_with fail
          go_round
          case rel => exact ⟨j + 1, X3, by omega, by go_num, rfl, hX3l, HX3⟩
          case measure => simp [intOf]; omega
        · have hji : ¬ (j : Int) < pl := by omega
          have hje : j = pl := by omega
          have HE : Hid (X = Cr.run r0 (ls.take (k + 1)).flatten) := Lib.hid (by
            rw [HX.out, HS.out, Cr.run_append, ← HR.out, hje, HPL.out, List.take_length])
          clear hj hjl hje
          go_wp2_with fail
          go_round
          case rel => exact ⟨k + 1, X, by omega, by go_num, rfl, hXl, HE⟩
          case measure => simp [intOf]; omega
    · have hki : ¬ (k : Int) < L := by omega
      have HE : Hid (R ^^^ Cr.ones = Cr.more s ls.flatten) := Lib.hid (by
        rw [HR.out, show k = ls.length by rw [← HL.out]; omega, List.take_length]
        unfold Cr.more
        rw [HR0.out])
      obtain ⟨z, hz⟩ : ∃ z, R ^^^ Cr.ones = z := ⟨_, rfl⟩
      have hmz := mx R hRl z hz
      rw [hz] at HE
      clear hz hlt hk
      go_wp2_with fail
      go_ret
      exact ⟨by rw [← HE.out]; rfl, rfl⟩

set_option maxHeartbeats 1600000 in
theorem Sum_w (v : Value) (ls : List (List UInt8)) (w : World) (h : BsIn w v ls) (hT : CTab w) :
    Calls Tryd.prog 11 #[v] w fun e w' => e = .returned (.int .u32 ((Cr.sum ls.flatten : Nat) : Int)) ∧ w = w' := by
  have c := More_w 0 v ls w (by decide) h hT
  rw [Cr.more_zero] at c
  generalize Cr.sum ls.flatten = z at *
  go_enter Tryd.func11, Tryd.ntmps11
  go_wp2_with fail
  refine c.mono ?_
  rintro e w1 ⟨rfl, rfl⟩
  go_wp2_with fail
  go_ret
  exact ⟨rfl, rfl⟩
end Go.Proofs.YtkmefpeplpllhaaDoor
