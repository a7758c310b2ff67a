/- The statements of layer 7: what the program's Decode and Encode are to answer, in one pack; the document's example; ChunkDecodes. -/
import Derived.Test.YtgnopcghobaoiaaDoorCk5
namespace Go.Proofs.YtgnopcghobaoiaaDoor
open Go.RowKit

/-- What the program's Decode and Encode answer, where the world is as Env says. -/
structure Prog7 (Env : World → Prop) : Prop where
  later : ∀ {w w' : World}, Env w → Below w.heap.size w w' → Env w'
  decode : ∀ (v : Value) (l : List UInt8) (w : World), l.length ≤ 2000000 → BIn w v l → Env w →
    Calls Tryd.prog 9 #[v] w fun e w' => (∃ u, e = .returned (.tuple #[u, .int .i64 (Ck.decode l).2.1, .int .i64 (Ck.decode l).2.2]) ∧ BIn w' u (Ck.decode l).1 ∧ NilOk u) ∧ Below w.heap.size w w'
  encode : ∀ (v : Value) (ls : List (List UInt8)) (w : World), (Ck.encode ls).length ≤ 2000000 → BsIn w v ls → Env w →
    Calls Tryd.prog 14 #[v] w fun e w' => (∃ u, e = .returned u ∧ BIn w' u (Ck.encode ls) ∧ NilOk u) ∧ Below w.heap.size w w'

/-- A literal row of lists of octets. -/
theorem bs_lit (w : World) (C : Array Value) (ls : List (List UInt8)) (n : Nat) (hn : ls.length = n) (hl : n ≤ 1000000) (h : ∀ j (hj : j < ls.length), ∃ u, C[j]? = some u ∧ BIn w u ls[j] ∧ NilOk u) : BsIn (w.alloc (.cells C 22)) (.slice (some ⟨w.heap.size, 0, none⟩) n n) ls := by
  refine ⟨_, n, by rw [hn], by rw [hn]; exact Nat.le_refl _, by omega, .inr ⟨w.heap.size, 0, rfl, by simp, fun j hj => ?_⟩⟩
  obtain ⟨u, hu, hb, hnil⟩ := h j hj
  refine ⟨u, ?_, hb.later ((Below.refl _ w).alloc (Nat.le_refl _) _), hnil⟩
  rw [Nat.zero_add, World.cell?_alloc_at _ _ _ _ rfl]; exact hu
theorem ex_enc : Ck.encode [[97, 98], [], [99]] = [50, 13, 10, 97, 98, 13, 10, 49, 13, 10, 99, 13, 10, 48, 13, 10, 13, 10] := by decide +kernel

set_option maxHeartbeats 3200000 in
set_option maxRecDepth 100000 in
theorem kawake_w {Env : World → Prop} (P : Prog7 Env) (w : World) (hE : Env w) :
    Calls Tryd.prog 8 #[] w fun e w' => e = .returned (.bool true) ∧ Below w.heap.size w w' := by
  obtain ⟨W1, hcv, hO, hb1⟩ := octets_block w #[.int .u8 97, .int .u8 98] [97, 98] rfl (by decide)
  obtain ⟨W2, hcv2, hO2, hb2⟩ := octets_block W1 #[.int .u8 99] [99] rfl (by decide)
  have hb12 := bt5 hb1 hb2
  have hcv' : (convert 22 22 (.slice (some ⟨w.heap.size, 0, none⟩) 2 2)).run Tryd.prog (w.alloc (.cells #[.int .u8 97, .int .u8 98] 5)) = .ok (.slice (some ⟨w.heap.size, 0, none⟩) 2 2) W1 := hcv
  have hcv2' : (convert 22 22 (.slice (some ⟨W1.heap.size, 0, none⟩) 1 1)).run Tryd.prog (W1.alloc (.cells #[.int .u8 99] 5)) = .ok (.slice (some ⟨W1.heap.size, 0, none⟩) 1 1) W2 := hcv2
  have hbs := bs_lit W2 #[.slice (some ⟨w.heap.size, 0, none⟩) 2 2, .slice none 0 0, .slice (some ⟨W1.heap.size, 0, none⟩) 1 1] [[97, 98], [], [99]] 3 rfl (by decide) (fun j hj => by
    match j, hj with
    | 0, _ => exact ⟨_, rfl, hO.later hb2, nil_ok _ _ _⟩
    | 1, _ => exact ⟨_, rfl, (bin_nil W2).1, (bin_nil W2).2⟩
    | 2, _ => exact ⟨_, rfl, hO2, nil_ok _ _ _⟩)
  have hb3 := hb12.alloc hb12.size (.cells #[.slice (some ⟨w.heap.size, 0, none⟩) 2 2, .slice none 0 0, .slice (some ⟨W1.heap.size, 0, none⟩) 1 1] 22)
  have cE := P.encode _ _ _ (by rw [ex_enc]; decide) hbs (P.later hE hb3)
  rw [ex_enc] at cE
  have HB3 := Lib.hid hb3
  clear hcv hcv2 hO hO2 hbs hb1 hb2 hb12 hb3 hE P
  go_enter Tryd.func8, Tryd.ntmps8
  go_wp2_with fail
  refine cE.mono ?_
  rintro e W4 ⟨⟨u, rfl, hbin, hnil⟩, hb4⟩
  have hcv5 := hbin.all hnil
  have e5 : str [50, 13, 10, 97, 98, 13, 10, 49, 13, 10, 99, 13, 10, 48, 13, 10, 13, 10] = ⟨#[50, 13, 10, 97, 98, 13, 10, 49, 13, 10, 99, 13, 10, 48, 13, 10, 13, 10]⟩ := rfl
  rw [e5] at hcv5
  have hB := bt5 HB3.out hb4
  clear hcv' hcv2' cE hbin hnil HB3 hb4 e5
  go_wp2_with fail
  go_ret
  exact ⟨rfl, hB⟩

set_option maxHeartbeats 6400000 in
set_option maxRecDepth 100000 in
theorem kdecodes_w {Env : World → Prop} (P : Prog7 Env) (v : Value) (l : List UInt8) (w : World) (h : BIn w v l) (hnil : NilOk v) (hE : Env w) :
    Calls Tryd.prog 3 #[v] w fun e w' => e = .returned (.bool true) ∧ Below w.heap.size w w' := by
  have HV := Lib.hid h
  have HNIL := Lib.hid hnil
  have HE := Lib.hid hE
  have HP := Lib.hid P
  have cA := fun (W : World) (hb : Below w.heap.size w W) => kawake_w P W (P.later hE hb)
  have hwb : Below w.heap.size w w := Below.refl _ _
  obtain ⟨ao, c, rfl, hlc, hc9, _⟩ := h
  obtain ⟨L, hL⟩ : ∃ L, L = l.length := ⟨_, rfl⟩
  rw [← hL] at hlc HV HNIL ⊢
  clear hnil hE P
  by_cases h9 : (8000 : Int) < L
  · clear hL
    go_enter Tryd.func3, Tryd.ntmps3
    go_wp2_with fail
    refine (cA w hwb).mono ?_
    rintro e w1 ⟨rfl, hb1⟩
    go_wp2_with fail
    refine (cA w1 hb1).mono ?_
    rintro e w2 ⟨rfl, hb2⟩
    go_wp2_with fail
    go_ret
    exact ⟨rfl, hb1.trans (hb2.mono hb1.size)⟩
  have hL8 : l.length ≤ 8000 := by omega
  have hlen : ([] : List UInt8).length + l.length ≤ 1000000000 := by simp; omega
  have cD := fun (u : Value) (W : World) (hu : BIn W u l) (hb : Below w.heap.size w W) => HP.out.decode u l W (by omega) hu (HP.out.later HE.out hb)
  have cT := fun (W : World) (hb : Below w.heap.size w W) => rTold_w (.slice ao L c) l W (by omega) (HV.out.later hb)
  have hdec : Ck.decode l = if (Ck.told l).2.2.2 ≠ 0 then ([], 0, (Ck.told l).2.2.2) else if (Ck.told l).2.2.1 = true then ((Ck.told l).1, (Ck.told l).2.1, 0) else ([], 0, 11) := rfl
  obtain ⟨⟨y, m, d, f⟩, hq⟩ : ∃ x, Ck.told l = x := ⟨_, rfl⟩
  rw [hq] at cT hdec
  simp only [] at cT hdec
  clear hL hq HP HE
  by_cases f0 : f = 0
  · subst f0
    cases d with
    | false =>
      have hd : Ck.decode l = ([], 0, 11) := hdec
      rw [hd] at cD
      clear hd hdec
      go_enter Tryd.func3, Tryd.ntmps3
      go_wp2_with fail
      refine (cA w hwb).mono ?_
      rintro e1 w1 ⟨rfl, hb1⟩
      clear cA hwb
      go_wp2_with (at_builtin; refine appBs (Buf.none_ w w1 hb1) (HV.out.later (hb1.alloc hb1.size _)) HNIL.out hlen rfl (.tmp 19) (.tmp 20) rfl rfl rfl ?_; intro v2 w2 hB2 hne)
      have hin2 := hB2.in_
      have cD2 := cD v2 w2 hin2.1 hB2.2
      have hb2 := hB2.2
      clear cD hB2 hin2 hb1
      go_wp2_with fail
      refine cD2.mono ?_
      rintro e3 w3 ⟨⟨x, rfl, hx, hxn⟩, hb3⟩
      have hb23 := hb2.trans (hb3.mono hb2.size)
      obtain ⟨xa, xc, rfl, hxc, hxc9, hxg⟩ := hx
      have hx : BIn w3 (.slice xa _ xc) _ := ⟨xa, xc, rfl, hxc, hxc9, hxg⟩
      clear hxg cD2 hb3 hb2
      go_wp2_with fail
      refine (cT w3 hb23).mono ?_
      rintro e4 w4 ⟨⟨y4, rfl, hyb⟩, hb4⟩
      obtain ⟨hy, hyn⟩ := hyb.in_
      have hB4 := hb23.trans (hb4.mono hb23.size)
      go_wp2_with fail
      go_ret
      exact ⟨rfl, hB4⟩
    | true =>
      have hd : Ck.decode l = (y, m, 0) := hdec
      rw [hd] at cD
      simp only [] at cD
      clear hd hdec
      go_enter Tryd.func3, Tryd.ntmps3
      go_wp2_with fail
      refine (cA w hwb).mono ?_
      rintro e1 w1 ⟨rfl, hb1⟩
      clear cA hwb
      go_wp2_with (at_builtin; refine appBs (Buf.none_ w w1 hb1) (HV.out.later (hb1.alloc hb1.size _)) HNIL.out hlen rfl (.tmp 19) (.tmp 20) rfl rfl rfl ?_; intro v2 w2 hB2 hne)
      have hin2 := hB2.in_
      have cD2 := cD v2 w2 hin2.1 hB2.2
      have hb2 := hB2.2
      clear cD hB2 hin2 hb1
      go_wp2_with fail
      refine cD2.mono ?_
      rintro e3 w3 ⟨⟨x, rfl, hx, hxn⟩, hb3⟩
      have hb23 := hb2.trans (hb3.mono hb2.size)
      obtain ⟨xa, xc, rfl, hxc, hxc9, hxg⟩ := hx
      have hx : BIn w3 (.slice xa _ xc) _ := ⟨xa, xc, rfl, hxc, hxc9, hxg⟩
      clear hxg cD2 hb3 hb2
      go_wp2_with fail
      refine (cT w3 hb23).mono ?_
      rintro e4 w4 ⟨⟨y4, rfl, hyb⟩, hb4⟩
      obtain ⟨hy, hyn⟩ := hyb.in_
      have hB4 := hb23.trans (hb4.mono hb23.size)
      have hxs := (hx.later hb4).all hxn
      have hys := hy.all hyn
      generalize str y = Y at *
      clear hx hy hb23 hb4
      go_wp2_with fail
      go_ret
      exact ⟨rfl, hB4⟩
  · have hd : Ck.decode l = ([], 0, f) := hdec.trans (if_pos f0)
    rw [hd] at cD
    have bf : (f != 0) = true := by rw [bne, beq_eq_false_iff_ne.2 f0]; rfl
    simp only [] at cD
    clear hd hdec
    go_enter Tryd.func3, Tryd.ntmps3
    go_wp2_with fail
    refine (cA w hwb).mono ?_
    rintro e1 w1 ⟨rfl, hb1⟩
    clear cA hwb
    go_wp2_with (at_builtin; refine appBs (Buf.none_ w w1 hb1) (HV.out.later (hb1.alloc hb1.size _)) HNIL.out hlen rfl (.tmp 19) (.tmp 20) rfl rfl rfl ?_; intro v2 w2 hB2 hne)
    have hin2 := hB2.in_
    have cD2 := cD v2 w2 hin2.1 hB2.2
    have hb2 := hB2.2
    clear cD hB2 hin2 hb1
    go_wp2_with fail
    refine cD2.mono ?_
    rintro e3 w3 ⟨⟨x, rfl, hx, hxn⟩, hb3⟩
    have hb23 := hb2.trans (hb3.mono hb2.size)
    obtain ⟨xa, xc, rfl, hxc, hxc9, hxg⟩ := hx
    have hx : BIn w3 (.slice xa _ xc) _ := ⟨xa, xc, rfl, hxc, hxc9, hxg⟩
    clear hxg cD2 hb3 hb2
    go_wp2_with fail
    refine (cT w3 hb23).mono ?_
    rintro e4 w4 ⟨⟨y4, rfl, hyb⟩, hb4⟩
    obtain ⟨hy, hyn⟩ := hyb.in_
    have hB4 := hb23.trans (hb4.mono hb23.size)
    go_wp2_with fail
    go_ret
    exact ⟨rfl, hB4⟩
end Go.Proofs.YtgnopcghobaoiaaDoor
