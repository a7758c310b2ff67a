/- Package chunk: lists of octets in memory; the document's own Encode. -/
import Derived.Test.YtgnopcghobaoiaaDoorCk4
import Derived.Test.YtgnopcghobaoiaaDoorCkMathC
namespace Go.Proofs.YtgnopcghobaoiaaDoor
open Go.RowKit

/-- v reads as a list of octets' lists. -/
def BsIn (w : World) (v : Value) (ls : List (List UInt8)) : Prop := ∃ ao cap, v = .slice ao ls.length cap ∧ ls.length ≤ cap ∧ cap ≤ 9223372036854775807 ∧
  (ls = [] ∨ ∃ b o, ao = some ⟨b, o, none⟩ ∧ b < w.heap.size ∧ ∀ j (hj : j < ls.length), ∃ u, w.cell? ⟨b, o + j, none⟩ = some u ∧ BIn w u ls[j] ∧ NilOk u)
theorem BsIn.later {w w' : World} {v : Value} {ls : List (List UInt8)} (h : BsIn w v ls) (hb : Below w.heap.size w w') : BsIn w' v ls := by
  obtain ⟨ao, cap, hv, h1, h2, h⟩ := h
  refine ⟨ao, cap, hv, h1, h2, ?_⟩
  rcases h with h | ⟨b, o, h1, h2, h3⟩
  · exact .inl h
  · refine .inr ⟨b, o, h1, Nat.lt_of_lt_of_le h2 hb.size, fun j hj => ?_⟩
    obtain ⟨u, hu, hbin, hnil⟩ := h3 j hj
    exact ⟨u, by rw [hb.cell (p := ⟨b, o + j, none⟩) h2]; exact hu, hbin.later hb, hnil⟩
/-- A literal row of octets. -/
theorem bin_lit (w : World) (C : Array Value) (l : List UInt8) (n : Nat) (hn : l.length = n) (hC : C.toList = Lib.byteCells l) (hl : n ≤ 1000000) : BIn (w.alloc (.cells C 5)) (.slice (some ⟨w.heap.size, 0, none⟩) n n) l := by
  refine ⟨_, n, by rw [hn], by rw [hn]; exact Nat.le_refl _, by omega, .inr ⟨w.heap.size, 0, rfl, by simp, fun j hj => ?_⟩⟩
  rw [Nat.zero_add, World.cell?_alloc_at _ _ _ _ rfl, ← Array.getElem?_toList, hC]
  simp [Lib.byteCells, hj]
theorem pre_len (ls : List (List UInt8)) (k : Nat) : ((ls.take k).flatMap Ck.chunkOf).length ≤ (Ck.encode ls).length := by
  unfold Ck.encode
  have : ls.flatMap Ck.chunkOf = (ls.take k).flatMap Ck.chunkOf ++ (ls.drop k).flatMap Ck.chunkOf := by
    conv => lhs; rw [← List.take_append_drop k ls, List.flatMap_append]
  rw [List.length_append, this, List.length_append]; omega
theorem pre_snoc (ls : List (List UInt8)) (k : Nat) (hk : k < ls.length) : (ls.take (k + 1)).flatMap Ck.chunkOf = (ls.take k).flatMap Ck.chunkOf ++ Ck.chunkOf ls[k] := by
  rw [List.take_add_one, List.getElem?_eq_getElem hk, List.flatMap_append]
  simp
theorem chunk_len (p : List UInt8) (h : p ≠ []) : (Ck.chunkOf p).length = (Oct.print p.length 16).length + 2 + p.length + 2 := by
  unfold Ck.chunkOf; rw [if_neg h]; simp; omega

set_option maxHeartbeats 3200000 in
set_option maxRecDepth 100000 in
theorem rEncode_b (v : Value) (ls : List (List UInt8)) (w : World) (hE : (Ck.encode ls).length ≤ 10000000) (h : BsIn w v ls) :
    Calls Tryd.prog 13 #[v] w fun e w' => (∃ u, e = .returned u ∧ Buf w w' u (Ck.encode ls)) ∧ Below w.heap.size w w' := by
  obtain ⟨ao, cap, rfl, hlc, hc9, hg⟩ := h
  obtain ⟨L, hL⟩ : ∃ L, L = ls.length := ⟨_, rfl⟩
  have HL := Lib.hid hL
  have HG := Lib.hid hg
  rw [← hL] at hlc ⊢
  have HPL := Lib.hid (pre_len ls)
  clear hL hg
  go_enter Tryd.func13, Tryd.ntmps13
  go_wp2_with fail
  go_loopw [3, 4] (fun x3 x4 wr => ∃ k : Nat, k ≤ L ∧ x4 = .int .i64 k ∧ Buf w wr x3 ((ls.take k).flatMap Ck.chunkOf)) (fun _ x4 _ => L - (intOf x4).toNat)
  case atStart => exact ⟨0, Nat.zero_le _, rfl, Buf.nil w⟩
  case round =>
    obtain ⟨k, hk, rfl, hB⟩ := hrel
    have hk0 : (0 : Int) ≤ k := by omega
    by_cases hlt : k < L
    · have hki : (k : Int) < L := by omega
      obtain ⟨b, o, hao, hbl, hcell⟩ := HG.out.resolve_left (fun x => by have := HL.out; rw [x] at this; simp at this; omega)
      subst hao
      have k0 : k < ls.length := by rw [← HL.out]; exact hlt
      obtain ⟨u, hu, hbin, hnil⟩ := hcell k k0
      have HS := Lib.hid (pre_snoc ls k k0)
      have hP := HPL.out (k + 1)
      rw [HS.out] at hP
      have hCL := chunk_len ls[k]
      clear hcell
      generalize ls[k] = p at *
      have hbin0 := hbin
      obtain ⟨a2, c2, rfl, _, _, _⟩ := hbin
      have c0 := (hB.2.cell (p := ⟨b, o + k, none⟩) hbl).trans hu
      obtain ⟨pl, hpl⟩ : ∃ pl, pl = p.length := ⟨_, rfl⟩
      have HPLE := Lib.hid hpl
      rw [← hpl] at hnil c0 hu
      by_cases hp : p = []
      · have hpl0 : pl = 0 := by rw [hpl, hp]; rfl
        have HS2 : Hid ((ls.take (k + 1)).flatMap Ck.chunkOf = (ls.take k).flatMap Ck.chunkOf) := Lib.hid (by rw [HS.out, hp]; simp [Ck.chunkOf])
        subst hpl0
        clear hP hCL hnil hu HPLE hpl
        go_wp2_with fail
        go_round
        case rel => exact ⟨k + 1, by omega, by go_num, by rw [HS2.out]; exact hB⟩
        case measure => simp [intOf]; omega
      · have hp0 : 0 < pl := by rw [hpl]; exact List.length_pos_iff.2 hp
        have hpb : ((pl : Int) == 0) = false := beq_eq_false_iff_ne.2 (by omega)
        have hbinW := Lib.hid (fun (W : World) (hb : Below w.heap.size w W) => (show BIn w (.slice a2 pl c2) p by rw [hpl]; exact hbin0).later hb)
        rw [List.length_append, hCL hp, ← hpl] at hP
        have cP := fun (W : World) => rPrint_is (pl : Int) 16 _ W (by omega) rfl
        have hDl : (str (Oct.print (pl : Int) 16)).size = (Oct.print (pl : Int) 16).length := str_size _
        have hDd : (str (Oct.print (pl : Int) 16)).data.toList = Oct.print (pl : Int) 16 := str_list _
        have HS2 : Hid ((ls.take (k + 1)).flatMap Ck.chunkOf = (ls.take k).flatMap Ck.chunkOf ++ (str (Oct.print (pl : Int) 16)).data.toList ++ [13, 10] ++ p ++ [13, 10]) := Lib.hid (by
          rw [HS.out, hDd, hpl]; unfold Ck.chunkOf; rw [if_neg hp]; simp only [List.append_assoc])
        generalize (ls.take k).flatMap Ck.chunkOf = pre at *
        generalize hDD : str (Oct.print (pl : Int) 16) = D at *
        have hl1 : pre.length + D.size ≤ 100000000000 := by omega
        have hl2 : (pre ++ D.data.toList).length + ([13, 10] : List UInt8).length ≤ 1000000000 := by rw [hDd]; simp; omega
        have hl3 : (pre ++ D.data.toList ++ [13, 10]).length + p.length ≤ 1000000000 := by rw [hDd, ← hpl]; simp; omega
        have hl4 : (pre ++ D.data.toList ++ [13, 10] ++ p).length + ([13, 10] : List UInt8).length ≤ 1000000000 := by rw [hDd]; simp; omega
        clear hP hCL HS hDl hDd hDD HPLE hpl
        go_upto_region 7 with (first
          | (go_at_call 20; refine (cP _).mono ?_; rintro e W1 ⟨rfl, hb1⟩; have hB1 := hB.after hb1)
          | (at_builtin; refine appStr hB1 D hl1 rfl (.tmp 17) (.tmp 23) rfl rfl rfl ?_; intro v2 W2 hB2))
        clear c0 hB hB1 hb1 cP
        go_upto_region 8 with (at_builtin; refine appBs (hB2.alloc _) (bin_lit W2 #[.int .u8 13, .int .u8 10] [13, 10] 2 rfl rfl (by decide)) (nil_ok _ _ _) hl2 rfl (.tmp 25) (.tmp 26) rfl rfl rfl ?_; intro v3 W3 hB3 _)
        have c3 := (hB3.2.cell (p := ⟨b, o + k, none⟩) hbl).trans hu
        go_upto_region 9 with (at_builtin; refine appBs hB3 (hbinW.out W3 hB3.2) hnil hl3 rfl (.tmp 28) (.tmp 32) rfl rfl rfl ?_; intro v4 W4 hB4 _)
        clear c3 hB2 hB3
        go_wp2_with (at_builtin; refine appBs (hB4.alloc _) (bin_lit W4 #[.int .u8 13, .int .u8 10] [13, 10] 2 rfl rfl (by decide)) (nil_ok _ _ _) hl4 rfl (.tmp 34) (.tmp 35) rfl rfl rfl ?_; intro v5 W5 hB5 _)
        go_round
        case rel => exact ⟨k + 1, by omega, by go_num, by rw [HS2.out]; exact hB5⟩
        case measure => simp [intOf]; omega
    · have hki : ¬ (k : Int) < L := by omega
      have hkL : ls.take k = ls := List.take_of_length_le (by rw [← HL.out]; omega)
      rw [hkL] at hB
      have hlE : (ls.flatMap Ck.chunkOf).length + ([48, 13, 10, 13, 10] : List UInt8).length ≤ 1000000000 := by
        have : (Ck.encode ls).length = (ls.flatMap Ck.chunkOf).length + 5 := by unfold Ck.encode; rw [List.length_append]; rfl
        show _ + 5 ≤ _; omega
      clear hkL
      go_wp2_with (at_builtin; refine appBs (hB.alloc _) (bin_lit wr #[.int .u8 48, .int .u8 13, .int .u8 10, .int .u8 13, .int .u8 10] [48, 13, 10, 13, 10] 5 rfl rfl (by decide)) (nil_ok _ _ _) hlE rfl (.tmp 37) (.tmp 38) rfl rfl rfl ?_; intro v5 W5 hB5 _)
      go_ret
      exact ⟨⟨_, rfl, hB5⟩, hB5.2⟩
theorem rEncode_w (v : Value) (ls : List (List UInt8)) (w : World) (hE : (Ck.encode ls).length ≤ 10000000) (h : BsIn w v ls) :
    Calls Tryd.prog 13 #[v] w fun e w' => (∃ u, e = .returned u ∧ BIn w' u (Ck.encode ls) ∧ NilOk u) ∧ Below w.heap.size w w' :=
  (rEncode_b v ls w hE h).mono fun _ _ ⟨⟨u, he, hu⟩, hb⟩ => ⟨⟨u, he, hu.in_⟩, hb⟩
end Go.Proofs.YtgnopcghobaoiaaDoor
