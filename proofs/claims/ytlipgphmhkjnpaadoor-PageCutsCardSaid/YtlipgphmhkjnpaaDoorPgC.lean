/- The law PageCuts. -/
import Derived.Test.YtlipgphmhkjnpaaDoorPgP
import Derived.Test.YtlipgphmhkjnpaaDoorRel
import Derived.Test.YtlipgphmhkjnpaaDoorDv1
namespace Go.Proofs.YtlipgphmhkjnpaaDoor
open Go.RowKit
section
variable {Env : World → Prop} {Dev : World → Nat → Dv.S → (Nat → Prop) → Prop}

set_option maxHeartbeats 3200000 in
set_option maxRecDepth 100000 in
theorem cuts14 (P : Prog14 Env Dev) (vb : Value) (b : List UInt8) (w : World) (hb : BIn w vb b) (hnb : NilOk vb) (hE : Env w) :
    Calls Tryd.prog 5 #[vb] w fun e w' => e = .returned (.bool true) ∧ Below w.heap.size w w' := by
  have HB := Lib.hid hb
  have HNB := Lib.hid hnb
  have HE := Lib.hid hE
  have HA := Lib.hid (fun (W : World) (hb : Below w.heap.size w W) => awake14 P W (P.env hE hb))
  have hww : Below w.heap.size w w := Below.refl _ _
  obtain ⟨xb, cb, rfl, hlb, hcb, _⟩ := hb
  obtain ⟨lb, hlb9⟩ : ∃ lb, lb = b.length := ⟨_, rfl⟩
  have HLB := Lib.hid hlb9
  rw [← hlb9] at hlb HB HNB ⊢
  clear hnb hE hlb9
  go_enter Tryd.func5, Tryd.ntmps5
  by_cases h3 : (3000 : Int) < lb
  · go_wp2_with fail
    refine (HA.out w hww).mono ?_
    rintro e w1 ⟨rfl, hb1⟩
    go_wp2_with fail
    refine (HA.out w1 hb1).mono ?_
    rintro e w2 ⟨rfl, hb2⟩
    go_wp2_with fail
    go_ret
    exact ⟨rfl, bt5 hb1 hb2⟩
  have hlb3 : lb ≤ 3000 := by omega
  go_wp2_with fail
  refine (HA.out w hww).mono ?_
  rintro e w1 ⟨rfl, hb1⟩
  have HB1 := Lib.hid hb1
  have hbuf := Buf.none_ w1 w1 (Below.refl _ w1)
  have hba : Below w1.heap.size w1 (w1.alloc (.cells #[] 5)) := (Below.refl _ w1).alloc (Nat.le_refl _) _
  have HIN := Lib.hid (HB.out.later (bt5 HB1.out hba))
  have hlen : ([] : List UInt8).length + b.length ≤ 1000000000 := by rw [List.length_nil, ← HLB.out]; omega
  clear hb1 hba hww
  go_wp2_with (at_builtin; refine appBs hbuf HIN.out HNB.out hlen rfl _ _ rfl rfl rfl ?_; intro v7 w7 hB7 hN7; rw [List.nil_append] at hB7)
  have HB7 := Lib.hid (bt5 HB1.out hB7.below)
  have cS := P.sectors v7 b w7 hB7.in_.1 hB7.in_.2 (by rw [← HLB.out]; omega) (P.env HE.out HB7.out)
  obtain ⟨S, hS⟩ : ∃ S, S = Pg.sectors b := ⟨_, rfl⟩
  have HS := Lib.hid hS
  rw [← hS] at cS
  clear hbuf hlen HIN hB7 hN7 hS
  go_wp2_with fail
  refine cS.mono ?_
  rintro e w8 ⟨vl, rfl, hb8, hL⟩
  clear cS
  have HB8 := Lib.hid (bt5 HB7.out hb8)
  have hfl : S.flatten = b ++ List.replicate (64 * S.length - b.length) 0 := by rw [HS.out, Pg.sectors_length]; exact Pg.sectors_flat b
  have hSl : S.length = (lb + 63) / 64 := by rw [HS.out, Pg.sectors_length, HLB.out]
  have hfn : S.flatten.length = 64 * S.length := Pg.flat_64 (by rw [HS.out]; exact Pg.sectors_64 b)
  have cJ := P.join vl S w8 hL (by omega) (by omega) (P.env HE.out HB8.out)
  have HL := Lib.hid hL
  obtain ⟨T, hT⟩ : ∃ T, T = S.flatten := ⟨_, rfl⟩
  rw [← hT] at cJ hfl hfn
  have HFL := Lib.hid hfl
  obtain ⟨al, cl, rfl, hll, hcl, _⟩ := hL
  obtain ⟨nl, hnl⟩ : ∃ nl, nl = S.length := ⟨_, rfl⟩
  have HNL := Lib.hid hnl
  rw [← hnl] at hll HL cJ hfn hSl ⊢
  have HFN := Lib.hid hfn
  have HSL := Lib.hid hSl
  clear hb8 hT hfl hfn hSl hnl
  go_wp2_with fail
  refine cJ.mono ?_
  rintro e w9 ⟨va, rfl, hb9, hT, hNT⟩
  clear cJ
  have HB9 := Lib.hid (bt5 HB8.out hb9)
  have HL9 := Lib.hid (HL.out.later hb9)
  have HT := Lib.hid hT
  obtain ⟨aA, cA, rfl, hTl, hcA, hgT⟩ := hT
  obtain ⟨N, hN⟩ : ∃ N, N = T.length := ⟨_, rfl⟩
  have HN := Lib.hid hN
  rw [← hN] at hTl HT hNT ⊢
  have hN64 : N = 64 * nl := by rw [hN]; exact HFN.out
  have hNi : (64 : Int) * nl = N := by omega
  have hlN : lb ≤ N := by have := HSL.out; omega
  have hNT2 := hNT
  have HNONE : Hid (aA = none → N = 0 ∧ lb = 0 ∧ cA = 0) := Lib.hid (fun e => by
    subst e
    rcases hgT with h9 | ⟨b9, o9, h9, _⟩
    · have h0 : N = 0 := by rw [hN, h9]; rfl
      subst h0
      exact ⟨rfl, by omega, hNT2 cA rfl⟩
    · cases h9)
  have HGT := Lib.hid hgT
  have hcut := HT.out.cut lb (by rw [← HN.out]; exact hlN)
  have etk : T.take lb = b := by rw [HFL.out, HLB.out, List.take_left]
  rw [etk] at hcut
  have HCUT := Lib.hid (And.intro hcut (show NilOk (.slice aA lb cA) from fun c e => by
    injection e with e1 e2 e3
    subst e1 e3
    obtain ⟨h1, _, h3⟩ := HNONE.out rfl
    exact h3))
  have HBW := Lib.hid (HB.out.later HB9.out)
  clear hb9 hN hgT hNT hNT2 hcut etk HL HB hN64
  have hNlt : ¬ (N : Int) < lb := by omega
  have hlbcA : (lb : Int) ≤ cA := by omega
  have HSR : Hid (∀ W, Below w9.heap.size w9 W → Calls Tryd.prog 16 #[.slice xb lb cb] W fun e w' => ∃ u, e = .returned u ∧ Below W.heap.size W w' ∧ BsIn w' u S) := Lib.hid (fun W hW => (rSectors_w _ b W (HBW.out.later hW) (by rw [← HLB.out]; omega)).mono (by
    rintro e w' ⟨u, h1, h2⟩
    rw [← HS.out] at h2
    exact ⟨u, h1, h2.below, h2.out.in_⟩))
  go_upto_region 5 with fail
  refine Rel.region_of (by kernel_rfl) [some 20, some 21, some 22, some 23, some 24, some 25, some 26, some 27, some 28, some 29, some 30, some 31, some 32, some 33, some 34, some 35, some 36, some 37, some 38, some 39, some 40, some 41, some 42, some 43, some 44, some 45, some 46, some 47, some 48, some 49] (by kernel_rfl) (by kernel_rfl) [.eq (.slice al nl cl), .eq (.slice xb lb cb), ⟨fun v w => BsIn w v S, fun _ _ _ h hb => h.later hb⟩, .eq (.bool true), .eq (.bool false), .eq (.bool false), .eq (.slice aA N cA), .eq (.int .i64 (N : Int)), .eq (.slice al nl cl), .eq (.int .i64 (nl : Int)), .eq (.int .i64 (N : Int)), .eq (.bool false), .eq (.bool false), .eq (.bool false), .eq (.slice aA N cA), .eq (.int .i64 (N : Int)), .eq (.slice xb lb cb), .eq (.int .i64 (lb : Int)), .eq (.bool false), .eq (.bool false), .eq (.bool false), .eq (.slice aA N cA), .eq (.slice xb lb cb), .eq (.int .i64 (lb : Int)), .eq (.slice aA lb cA), .eq (.string (str b)), .eq (.slice xb lb cb), .eq (.string (str b)), .eq (.bool false), .eq (.bool false)] ⟨?_, ?_, ?_, ?_, ?_, ?_, ?_, ?_, ?_, ?_, ?_, ?_, ?_, ?_, ?_, ?_, ?_, ?_, ?_, ?_, ?_, ?_, ?_, ?_, ?_, ?_, ?_, ?_, ?_, ?_, trivial⟩ ?_
  · intro u wx hb9 hd9
    clear hd9
    refine ⟨?_⟩
    simp only [Rel.canD, List.take_zero]
    go_wp2_with fail
    exact ⟨rfl, rfl, Below.refl _ _, rfl⟩
  · intro u wx hb9 hd9
    clear hd9
    refine ⟨?_⟩
    simp only [Rel.canD, List.take_succ_cons, List.take_zero, Nat.reduceAdd]
    go_wp2_with fail
    exact ⟨rfl, rfl, Below.refl _ _, rfl⟩
  · intro u wx hb9 hd9
    have e1 : u 1 = .slice xb lb cb := hd9 1 (by kernel_rfl)
    clear hd9
    refine ⟨?_⟩
    simp only [Rel.canD, List.take_succ_cons, List.take_zero, Nat.reduceAdd]
    go_wp2_with fail
    refine (HSR.out wx hb9).mono ?_
    rintro e w8 ⟨u9, rfl, h8, h9⟩
    go_wp2_with fail
    exact ⟨rfl, rfl, h8, h9⟩
  · intro u wx hb9 hd9
    have e0 : u 0 = .slice al nl cl := hd9 0 (by kernel_rfl)
    have e2 := hd9 2 (by kernel_rfl)
    clear hd9
    have c9 := Same_w _ _ _ _ _ (HL9.out.later hb9) e2
    rw [decide_eq_true rfl] at c9
    refine ⟨?_⟩
    simp only [Rel.canD, List.take_succ_cons, List.take_zero, Nat.reduceAdd]
    go_wp2_with fail
    refine c9.mono ?_
    rintro e w8 ⟨rfl, h8⟩
    go_wp2_with fail
    exact ⟨rfl, rfl, h8, rfl⟩
  · intro u wx hb9 hd9
    have e3 : u 3 = .bool true := hd9 3 (by kernel_rfl)
    clear hd9
    refine ⟨?_⟩
    simp only [Rel.canD, List.take_succ_cons, List.take_zero, Nat.reduceAdd]
    go_wp2_with fail
    exact ⟨rfl, rfl, Below.refl _ _, rfl⟩
  · intro u wx hb9 hd9
    have e4 : u 4 = .bool false := hd9 4 (by kernel_rfl)
    clear hd9
    refine ⟨?_⟩
    simp only [Rel.canD, List.take_succ_cons, List.take_zero, Nat.reduceAdd]
    go_wp2_with fail
    exact ⟨rfl, rfl, Below.refl _ _, rfl⟩
  · intro u wx hb9 hd9
    have e5 : u 5 = .bool false := hd9 5 (by kernel_rfl)
    clear hd9
    refine ⟨?_⟩
    simp only [Rel.canD, List.take_succ_cons, List.take_zero, Nat.reduceAdd]
    go_wp2_with fail
    exact ⟨rfl, rfl, Below.refl _ _, rfl⟩
  · intro u wx hb9 hd9
    have e5 : u 5 = .bool false := hd9 5 (by kernel_rfl)
    have e6 : u 6 = .slice aA N cA := hd9 6 (by kernel_rfl)
    clear hd9
    refine ⟨?_⟩
    simp only [Rel.canD, List.take_succ_cons, List.take_zero, Nat.reduceAdd]
    go_wp2_with fail
    exact ⟨rfl, rfl, Below.refl _ _, rfl⟩
  · intro u wx hb9 hd9
    have e5 : u 5 = .bool false := hd9 5 (by kernel_rfl)
    clear hd9
    refine ⟨?_⟩
    simp only [Rel.canD, List.take_succ_cons, List.take_zero, Nat.reduceAdd]
    go_wp2_with fail
    exact ⟨rfl, rfl, Below.refl _ _, rfl⟩
  · intro u wx hb9 hd9
    have e5 : u 5 = .bool false := hd9 5 (by kernel_rfl)
    have e8 : u 8 = .slice al nl cl := hd9 8 (by kernel_rfl)
    clear hd9
    refine ⟨?_⟩
    simp only [Rel.canD, List.take_succ_cons, List.take_zero, Nat.reduceAdd]
    go_wp2_with fail
    exact ⟨rfl, rfl, Below.refl _ _, rfl⟩
  · intro u wx hb9 hd9
    have e5 : u 5 = .bool false := hd9 5 (by kernel_rfl)
    have e9 : u 9 = .int .i64 (nl : Int) := hd9 9 (by kernel_rfl)
    clear hd9
    refine ⟨?_⟩
    simp only [Rel.canD, List.take_succ_cons, List.take_zero, Nat.reduceAdd]
    go_wp2_with fail
    exact ⟨rfl, rfl, Below.refl _ _, rfl⟩
  · intro u wx hb9 hd9
    have e5 : u 5 = .bool false := hd9 5 (by kernel_rfl)
    have e7 : u 7 = .int .i64 (N : Int) := hd9 7 (by kernel_rfl)
    have e10 : u 10 = .int .i64 (N : Int) := hd9 10 (by kernel_rfl)
    clear hd9
    refine ⟨?_⟩
    simp only [Rel.canD, List.take_succ_cons, List.take_zero, Nat.reduceAdd]
    go_wp2_with fail
    exact ⟨rfl, rfl, Below.refl _ _, rfl⟩
  · intro u wx hb9 hd9
    have e5 : u 5 = .bool false := hd9 5 (by kernel_rfl)
    have e11 : u 11 = .bool false := hd9 11 (by kernel_rfl)
    clear hd9
    refine ⟨?_⟩
    simp only [Rel.canD, List.take_succ_cons, List.take_zero, Nat.reduceAdd]
    go_wp2_with fail
    exact ⟨rfl, rfl, Below.refl _ _, rfl⟩
  · intro u wx hb9 hd9
    have e12 : u 12 = .bool false := hd9 12 (by kernel_rfl)
    clear hd9
    refine ⟨?_⟩
    simp only [Rel.canD, List.take_succ_cons, List.take_zero, Nat.reduceAdd]
    go_wp2_with fail
    exact ⟨rfl, rfl, Below.refl _ _, rfl⟩
  · intro u wx hb9 hd9
    have e13 : u 13 = .bool false := hd9 13 (by kernel_rfl)
    clear hd9
    refine ⟨?_⟩
    simp only [Rel.canD, List.take_succ_cons, List.take_zero, Nat.reduceAdd]
    go_wp2_with fail
    exact ⟨rfl, rfl, Below.refl _ _, rfl⟩
  · intro u wx hb9 hd9
    have e13 : u 13 = .bool false := hd9 13 (by kernel_rfl)
    have e14 : u 14 = .slice aA N cA := hd9 14 (by kernel_rfl)
    clear hd9
    refine ⟨?_⟩
    simp only [Rel.canD, List.take_succ_cons, List.take_zero, Nat.reduceAdd]
    go_wp2_with fail
    exact ⟨rfl, rfl, Below.refl _ _, rfl⟩
  · intro u wx hb9 hd9
    have e13 : u 13 = .bool false := hd9 13 (by kernel_rfl)
    clear hd9
    refine ⟨?_⟩
    simp only [Rel.canD, List.take_succ_cons, List.take_zero, Nat.reduceAdd]
    go_wp2_with fail
    exact ⟨rfl, rfl, Below.refl _ _, rfl⟩
  · intro u wx hb9 hd9
    have e13 : u 13 = .bool false := hd9 13 (by kernel_rfl)
    have e16 : u 16 = .slice xb lb cb := hd9 16 (by kernel_rfl)
    clear hd9
    refine ⟨?_⟩
    simp only [Rel.canD, List.take_succ_cons, List.take_zero, Nat.reduceAdd]
    go_wp2_with fail
    exact ⟨rfl, rfl, Below.refl _ _, rfl⟩
  · intro u wx hb9 hd9
    have e13 : u 13 = .bool false := hd9 13 (by kernel_rfl)
    have e15 : u 15 = .int .i64 (N : Int) := hd9 15 (by kernel_rfl)
    have e17 : u 17 = .int .i64 (lb : Int) := hd9 17 (by kernel_rfl)
    clear hd9
    refine ⟨?_⟩
    simp only [Rel.canD, List.take_succ_cons, List.take_zero, Nat.reduceAdd]
    go_wp2_with fail
    exact ⟨rfl, rfl, Below.refl _ _, by show Value.bool (decide (N < lb)) = _; rw [decide_eq_false (Nat.not_lt.2 hlN)]⟩
  · intro u wx hb9 hd9
    have e13 : u 13 = .bool false := hd9 13 (by kernel_rfl)
    have e18 : u 18 = .bool false := hd9 18 (by kernel_rfl)
    clear hd9
    refine ⟨?_⟩
    simp only [Rel.canD, List.take_succ_cons, List.take_zero, Nat.reduceAdd]
    go_wp2_with fail
    exact ⟨rfl, rfl, Below.refl _ _, rfl⟩
  · intro u wx hb9 hd9
    have e19 : u 19 = .bool false := hd9 19 (by kernel_rfl)
    clear hd9
    refine ⟨?_⟩
    simp only [Rel.canD, List.take_succ_cons, List.take_zero, Nat.reduceAdd]
    go_wp2_with fail
    exact ⟨rfl, rfl, Below.refl _ _, rfl⟩
  · intro u wx hb9 hd9
    have e20 : u 20 = .bool false := hd9 20 (by kernel_rfl)
    clear hd9
    refine ⟨?_⟩
    simp only [Rel.canD, List.take_succ_cons, List.take_zero, Nat.reduceAdd]
    go_wp2_with fail
    exact ⟨rfl, rfl, Below.refl _ _, rfl⟩
  · intro u wx hb9 hd9
    have e20 : u 20 = .bool false := hd9 20 (by kernel_rfl)
    clear hd9
    refine ⟨?_⟩
    simp only [Rel.canD, List.take_succ_cons, List.take_zero, Nat.reduceAdd]
    go_wp2_with fail
    exact ⟨rfl, rfl, Below.refl _ _, rfl⟩
  · intro u wx hb9 hd9
    have e20 : u 20 = .bool false := hd9 20 (by kernel_rfl)
    have e22 : u 22 = .slice xb lb cb := hd9 22 (by kernel_rfl)
    clear hd9
    refine ⟨?_⟩
    simp only [Rel.canD, List.take_succ_cons, List.take_zero, Nat.reduceAdd]
    go_wp2_with fail
    exact ⟨rfl, rfl, Below.refl _ _, rfl⟩
  · intro u wx hb9 hd9
    have e20 : u 20 = .bool false := hd9 20 (by kernel_rfl)
    have e21 : u 21 = .slice aA N cA := hd9 21 (by kernel_rfl)
    have e23 : u 23 = .int .i64 (lb : Int) := hd9 23 (by kernel_rfl)
    clear hd9
    cases aA with
    | none =>
      obtain ⟨n1, n2, n3⟩ := HNONE.out rfl
      subst n1 n2 n3
      refine ⟨?_⟩
      simp only [Rel.canD, List.take_succ_cons, List.take_zero, Nat.reduceAdd]
      go_wp2_with fail
      exact ⟨rfl, rfl, Below.refl _ _, rfl⟩
    | some ad =>
      refine ⟨?_⟩
      simp only [Rel.canD, List.take_succ_cons, List.take_zero, Nat.reduceAdd]
      go_wp2_with fail
      exact ⟨rfl, rfl, Below.refl _ _, rfl⟩
  · intro u wx hb9 hd9
    have e20 : u 20 = .bool false := hd9 20 (by kernel_rfl)
    have e24 : u 24 = .slice aA lb cA := hd9 24 (by kernel_rfl)
    clear hd9
    have q9 := (HCUT.out.1.later hb9).all HCUT.out.2
    refine ⟨?_⟩
    simp only [Rel.canD, List.take_succ_cons, List.take_zero, Nat.reduceAdd]
    go_wp2_with fail
    exact ⟨rfl, rfl, Below.refl _ _, rfl⟩
  · intro u wx hb9 hd9
    have e20 : u 20 = .bool false := hd9 20 (by kernel_rfl)
    clear hd9
    refine ⟨?_⟩
    simp only [Rel.canD, List.take_succ_cons, List.take_zero, Nat.reduceAdd]
    go_wp2_with fail
    exact ⟨rfl, rfl, Below.refl _ _, rfl⟩
  · intro u wx hb9 hd9
    have e20 : u 20 = .bool false := hd9 20 (by kernel_rfl)
    have e26 : u 26 = .slice xb lb cb := hd9 26 (by kernel_rfl)
    clear hd9
    have q9 := (HBW.out.later hb9).all HNB.out
    refine ⟨?_⟩
    simp only [Rel.canD, List.take_succ_cons, List.take_zero, Nat.reduceAdd]
    go_wp2_with fail
    exact ⟨rfl, rfl, Below.refl _ _, rfl⟩
  · intro u wx hb9 hd9
    have e20 : u 20 = .bool false := hd9 20 (by kernel_rfl)
    have e25 : u 25 = .string (str b) := hd9 25 (by kernel_rfl)
    have e27 : u 27 = .string (str b) := hd9 27 (by kernel_rfl)
    clear hd9
    refine ⟨?_⟩
    simp only [Rel.canD, List.take_succ_cons, List.take_zero, Nat.reduceAdd]
    go_wp2_with fail
    exact ⟨rfl, rfl, Below.refl _ _, rfl⟩
  · intro u wx hb9 hd9
    have e20 : u 20 = .bool false := hd9 20 (by kernel_rfl)
    have e28 : u 28 = .bool false := hd9 28 (by kernel_rfl)
    clear hd9
    refine ⟨?_⟩
    simp only [Rel.canD, List.take_succ_cons, List.take_zero, Nat.reduceAdd]
    go_wp2_with fail
    exact ⟨rfl, rfl, Below.refl _ _, rfl⟩
  intro u wx hb9 hR9
  have h49 : u 29 = .bool false := hR9 29 (by decide)
  simp only [Rel.canD, Nat.reduceAdd, h49]
  clear hR9
  go_simp
  have HB10 := Lib.hid (bt5 HB9.out hb9)
  have HWX := Lib.hid hb9
  clear hb9 h49
  have HZ : Hid (∀ i, lb ≤ i → i < N → ∃ b9 o9, aA = some ⟨b9, o9, none⟩ ∧ wx.cell? ⟨b9, o9 + i, none⟩ = some (.int .u8 0)) := Lib.hid (fun i h1 h2 => by
    have hiT : i < T.length := by rw [← HN.out]; exact h2
    rcases HGT.out with h9 | ⟨b9, o9, e9, _, hc⟩
    · rw [h9] at hiT; cases hiT
    · refine ⟨b9, o9, e9, ?_⟩
      have h8 := cell_later HWX.out (hc i hiT)
      have h7 : T[i]? = some 0 := by
        rw [HFL.out, List.getElem?_append_right (by rw [← HLB.out]; exact h1), List.getElem?_replicate, if_pos (by rw [HFN.out] at hiT; rw [← HLB.out, ← HNL.out]; omega)]
      rw [List.getElem?_eq_getElem hiT] at h7
      injection h7 with h7
      rw [h8, h7]; rfl)
  go_wp2_with fail
  go_loopw [5] (fun i wr => ∃ j : Nat, lb ≤ j ∧ j ≤ N ∧ i = .int .i64 j ∧ wx = wr) (fun i _ => N - (intOf i).toNat)
  case atStart => exact ⟨lb, Nat.le_refl _, hlN, rfl, rfl⟩
  case round =>
    obtain ⟨j, hj1, hj2, rfl, rfl⟩ := hrel
    by_cases hlt : j < N
    · have hji : (j : Int) < N := by omega
      obtain ⟨b9, o9, e9, q9⟩ := HZ.out j hj1 hlt
      subst e9
      go_wp2_with fail
      go_roundw
      case rel => exact ⟨j + 1, by omega, by omega, by go_num, trivial⟩
      case measure => simp [intOf]; omega
    · have hji : ¬ (j : Int) < N := by omega
      go_wp2_with fail
      go_ret
      exact ⟨rfl, HB10.out⟩
end
end Go.Proofs.YtlipgphmhkjnpaaDoor
