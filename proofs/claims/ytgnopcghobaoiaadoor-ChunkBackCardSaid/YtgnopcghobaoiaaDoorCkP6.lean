/- Package chunk, the program: a new decoder; Decode; Encode. -/
import Derived.Test.YtgnopcghobaoiaaDoorCkP5
import Derived.Test.YtgnopcghobaoiaaDoorCk11
namespace Go.Proofs.YtgnopcghobaoiaaDoor
open Go.RowKit

set_option maxHeartbeats 6400000 in
set_option maxRecDepth 100000 in
theorem new_w (w : World) :
    Calls Tryd.prog 11 #[] w fun e w' => e = .returned (.pointer (some ⟨w.heap.size, 0, none⟩)) ∧ w.heap.size < w'.heap.size ∧ Dst w' w.heap.size (.size 0) 0 ∧ Below w.heap.size w w' := by
  go_enter Tryd.func11, Tryd.ntmps11
  go_wp2_with fail
  go_ret
  exact ⟨rfl, by simp, ⟨Nat.zero_le _, heap_alloc_new w _⟩, (Below.refl _ w).alloc (Nat.le_refl _) _⟩
theorem maxOk_lt {w : World} (h : MaxOk w) : 0 < w.heap.size := by
  obtain ⟨m, h⟩ := h
  exact World.block_lt_of_cell? w _ h
theorem fed_told (l : List UInt8) : Ck.fed (.size 0) l = Ck.told l := rfl
theorem NewAt.mono {B B' : Nat} {u : Value} (h : NewAt B' u) (hb : B ≤ B') : NewAt B u := fun ad n c e => Nat.le_trans hb (h ad n c e)
set_option maxHeartbeats 6400000 in
set_option maxRecDepth 100000 in
/-- Octets are decoded; the answer is new memory. -/
theorem decode_w (v : Value) (l : List UInt8) (w : World) (hl : l.length ≤ 2000000) (h : BIn w v l) (hm : MaxOk w) :
    Calls Tryd.prog 9 #[v] w fun e w' => (∃ u, e = .returned (.tuple #[u, .int .i64 (Ck.decode l).2.1, .int .i64 (Ck.decode l).2.2]) ∧ BIn w' u (Ck.decode l).1 ∧ NilOk u ∧ NewAt w.heap.size u) ∧ Below w.heap.size w w' := by
  have hg0 := maxOk_lt hm
  have hdec : Ck.decode l = if (Ck.told l).2.2.2 ≠ 0 then ([], 0, (Ck.told l).2.2.2) else if (Ck.told l).2.2.1 = true then ((Ck.told l).1, (Ck.told l).2.1, 0) else ([], 0, 11) := rfl
  obtain ⟨⟨y, m, d, f⟩, hq⟩ : ∃ x, Ck.told l = x := ⟨_, rfl⟩
  have CF : Hid (∀ W, Below w.heap.size w W → Dst W w.heap.size (.size 0) 0 → Calls Tryd.prog 12 #[.pointer (some ⟨w.heap.size, 0, none⟩), v] W fun x w' => (∃ u, x = .returned (.tuple #[u, .int .i64 m, .bool d, .int .i64 f]) ∧ w'.ownsRow W.heap.size 5 1 u y.length (Lib.byteCells y)) ∧ But w.heap.size W w') := Lib.hid (fun W hb hd => by
    have := feed_w w.heap.size (.size 0) v l W (by omega) (h.later hb) hd (hm.later hb) (by omega)
    unfold Says at this
    rw [fed_told, hq] at this
    exact this.mono fun x w' ⟨h1, h2, _⟩ => ⟨h1, h2⟩)
  rw [hq] at hdec
  simp only [] at hdec
  have HNIL : Hid (∀ W, (BIn W (.slice none 0 0) [] ∧ NilOk (.slice none 0 0) ∧ NewAt w.heap.size (.slice none 0 0))) := Lib.hid (fun W => ⟨(bin_nil W).1, (bin_nil W).2, fun ad n c e => by cases e⟩)
  clear hq hg0 hm h hl
  by_cases f0 : f = 0
  · subst f0
    cases d with
    | false =>
      have HDEC : Hid (Ck.decode l = ([], 0, 11)) := Lib.hid hdec
      clear hdec
      go_enter Tryd.func9, Tryd.ntmps9
      go_wp2_with fail
      refine (new_w w).mono ?_
      rintro e1 w1 ⟨rfl, hlt, hd1, hb1⟩
      have cF := CF.out w1 hb1 hd1
      clear hd1
      go_wp2_with fail
      refine cF.mono ?_
      rintro e2 w2 ⟨⟨u, rfl, hrow⟩, hbut⟩
      have hb2 := hbut.below hb1 (Nat.le_refl _) hb1.size
      clear hrow hbut
      go_wp2_with fail
      go_ret3
      rw [HDEC.out]
      exact ⟨⟨_, rfl, HNIL.out _⟩, hb2⟩
    | true =>
      have HDEC : Hid (Ck.decode l = (y, m, 0)) := Lib.hid hdec
      clear hdec
      go_enter Tryd.func9, Tryd.ntmps9
      go_wp2_with fail
      refine (new_w w).mono ?_
      rintro e1 w1 ⟨rfl, hlt, hd1, hb1⟩
      have cF := CF.out w1 hb1 hd1
      clear hd1
      go_wp2_with fail
      refine cF.mono ?_
      rintro e2 w2 ⟨⟨u, rfl, hrow⟩, hbut⟩
      have hb2 := hbut.below hb1 (Nat.le_refl _) hb1.size
      clear hbut
      have HROW := Lib.hid hrow
      clear hrow
      go_wp2_with fail
      go_ret3
      rw [HDEC.out]
      exact ⟨⟨_, rfl, (own_in HROW.out).1, (own_in HROW.out).2, (row_new HROW.out).mono hb1.size⟩, hb2⟩
  · have HDEC : Hid (Ck.decode l = ([], 0, f)) := Lib.hid (by rw [hdec, if_pos f0])
    have fb : (f != 0) = true := by simpa using f0
    clear hdec
    go_enter Tryd.func9, Tryd.ntmps9
    go_wp2_with fail
    refine (new_w w).mono ?_
    rintro e1 w1 ⟨rfl, hlt, hd1, hb1⟩
    have cF := CF.out w1 hb1 hd1
    clear hd1
    go_wp2_with fail
    refine cF.mono ?_
    rintro e2 w2 ⟨⟨u, rfl, hrow⟩, hbut⟩
    have hb2 := hbut.below hb1 (Nat.le_refl _) hb1.size
    clear hrow hbut
    go_wp2_with fail
    go_ret3
    rw [HDEC.out]
    exact ⟨⟨_, rfl, HNIL.out _⟩, hb2⟩

set_option maxHeartbeats 3200000 in
set_option maxRecDepth 100000 in
theorem encode_b (v : Value) (ls : List (List UInt8)) (w : World) (hE : (Ck.encode ls).length ≤ 10000000) (h : BsIn w v ls) (hT : Tabs w) :
    Calls Tryd.prog 14 #[v] w fun e w' => (∃ u, e = .returned u ∧ Buf w w' u (Ck.encode ls)) ∧ Below w.heap.size w w' := by
  obtain ⟨ao, cap, rfl, hlc, hc9, hg⟩ := h
  obtain ⟨L, hL⟩ : ∃ L, L = ls.length := ⟨_, rfl⟩
  have HL := Lib.hid hL
  have HG := Lib.hid hg
  rw [← hL] at hlc ⊢
  have HT := Lib.hid (fun (W : World) (hb : Below w.heap.size w W) => hT.later hb)
  have HPL := Lib.hid (pre_len ls)
  clear hL hg hT
  go_enter Tryd.func14, Tryd.ntmps14
  go_wp2_with fail
  go_loopw [3, 8] (fun x3 x8 wr => ∃ k : Nat, k ≤ L ∧ x8 = .int .i64 k ∧ Buf w wr x3 ((ls.take k).flatMap Ck.chunkOf)) (fun _ x8 _ => L - (intOf x8).toNat)
  case atStart => exact ⟨0, Nat.zero_le _, rfl, Buf.nil w⟩
  case round =>
    obtain ⟨k, hk, rfl, hB⟩ := hrel
    have hk0 : (0 : Int) ≤ k := by omega
    by_cases hlt : k < L
    · have hki : (k : Int) < L := by omega
      obtain ⟨b, o, hao, hbl, hcell⟩ := HG.out.resolve_left (fun x => by have := HL.out; rw [x] at this; simp at this; omega)
      subst hao
      have k0 : k < ls.length := by rw [← HL.out]; exact hlt
      obtain ⟨u, hu, hbin, hnil⟩ := hcell k k0
      have HS := Lib.hid (pre_snoc ls k k0)
      have hP := HPL.out (k + 1)
      rw [HS.out] at hP
      have hCL := chunk_len ls[k]
      clear hcell
      generalize ls[k] = p at *
      have hbin0 := hbin
      obtain ⟨a2, c2, rfl, _, _, _⟩ := hbin
      have c0 := (hB.2.cell (p := ⟨b, o + k, none⟩) hbl).trans hu
      obtain ⟨pl, hpl⟩ : ∃ pl, pl = p.length := ⟨_, rfl⟩
      have HPLE := Lib.hid hpl
      rw [← hpl] at hnil c0 hu
      by_cases hp : p = []
      · have hpl0 : pl = 0 := by rw [hpl, hp]; rfl
        have HS2 : Hid ((ls.take (k + 1)).flatMap Ck.chunkOf = (ls.take k).flatMap Ck.chunkOf) := Lib.hid (by rw [HS.out, hp]; simp [Ck.chunkOf])
        subst hpl0
        clear hP hCL hnil hu HPLE hpl
        go_wp2_with fail
        go_round
        case rel => exact ⟨k + 1, by omega, by go_num, by rw [HS2.out]; exact hB⟩
        case measure => simp [intOf]; omega
      · have hp0 : 0 < pl := by rw [hpl]; exact List.length_pos_iff.2 hp
        have hpb : ((pl : Int) == 0) = false := beq_eq_false_iff_ne.2 (by omega)
        have hbinW := Lib.hid (fun (W : World) (hb : Below w.heap.size w W) => (show BIn w (.slice a2 pl c2) p by rw [hpl]; exact hbin0).later hb)
        rw [List.length_append, hCL hp, ← hpl] at hP
        have cP := fun (W : World) (hb : Below w.heap.size w W) => Print_is (pl : Int) 16 _ W (by omega) (HT.out W hb) rfl
        have hDl : (str (Oct.print (pl : Int) 16)).size = (Oct.print (pl : Int) 16).length := str_size _
        have hDd : (str (Oct.print (pl : Int) 16)).data.toList = Oct.print (pl : Int) 16 := str_list _
        have HS2 : Hid ((ls.take (k + 1)).flatMap Ck.chunkOf = (ls.take k).flatMap Ck.chunkOf ++ (str (Oct.print (pl : Int) 16)).data.toList ++ [13, 10] ++ p ++ [13, 10]) := Lib.hid (by
          rw [HS.out, hDd, hpl]; unfold Ck.chunkOf; rw [if_neg hp]; simp only [List.append_assoc])
        generalize (ls.take k).flatMap Ck.chunkOf = pre at *
        generalize hDD : str (Oct.print (pl : Int) 16) = D at *
        have hDc : (D ++ ⟨#[13, 10]⟩ : ByteArray).data.toList = D.data.toList ++ [13, 10] := app_two _ _
        have hDs : (D ++ ⟨#[13, 10]⟩ : ByteArray).size = D.size + 2 := by rw [← Oct.length_size, hDc, List.length_append, Oct.length_size]; rfl
        have hl1 : pre.length + (D ++ ⟨#[13, 10]⟩ : ByteArray).size ≤ 100000000000 := by omega
        have hl3 : (pre ++ (D ++ ⟨#[13, 10]⟩ : ByteArray).data.toList).length + p.length ≤ 1000000000 := by rw [hDc, hDd, ← hpl]; simp; omega
        have hl4 : (pre ++ (D ++ ⟨#[13, 10]⟩ : ByteArray).data.toList ++ p).length + (⟨#[13, 10]⟩ : ByteArray).size ≤ 100000000000 := by rw [hDc, hDd]; show _ + 2 ≤ _; simp; omega
        have hDz : (D.size : Int) ≤ 10000000 := by omega
        have HS3 : Hid ((ls.take (k + 1)).flatMap Ck.chunkOf = pre ++ (D ++ ⟨#[13, 10]⟩ : ByteArray).data.toList ++ p ++ (⟨#[13, 10]⟩ : ByteArray).data.toList) := Lib.hid (by
          rw [HS2.out, hDc]; simp only [List.append_assoc])
        clear hP hCL HS hDl hDd hDD HPLE hpl hDc hDs HS2
        have cP2 := cP wr hB.2
        clear cP
        go_upto_region 7 with (first
          | (go_at_call 21; refine cP2.mono ?_; rintro e W1 ⟨rfl, hb1⟩; have hB1 := hB.after hb1)
          | (at_builtin; refine appStr hB1 (D ++ ⟨#[13, 10]⟩ : ByteArray) hl1 rfl (.tmp 15) (.tmp 19) rfl rfl rfl ?_; intro v2 W2 hB2))
        clear c0 hB hB1 hb1 cP2
        go_upto_region 8 with (at_builtin; refine appBs hB2 (hbinW.out W2 hB2.2) hnil hl3 rfl (.tmp 21) (.tmp 22) rfl rfl rfl ?_; intro v4 W4 hB4 _)
        clear hB2
        go_wp2_with (at_builtin; refine appStr hB4 ⟨#[13, 10]⟩ hl4 rfl (.tmp 24) (.const (.string ⟨#[13, 10]⟩)) rfl rfl rfl ?_; intro v5 W5 hB5)
        go_round
        case rel => exact ⟨k + 1, by omega, by go_num, by rw [HS3.out]; exact hB5⟩
        case measure => simp [intOf]; omega
    · have hki : ¬ (k : Int) < L := by omega
      have hkL : ls.take k = ls := List.take_of_length_le (by rw [← HL.out]; omega)
      rw [hkL] at hB
      have hlE : (ls.flatMap Ck.chunkOf).length + (⟨#[48, 13, 10, 13, 10]⟩ : ByteArray).size ≤ 100000000000 := by
        have : (Ck.encode ls).length = (ls.flatMap Ck.chunkOf).length + 5 := by unfold Ck.encode; rw [List.length_append]; rfl
        show _ + 5 ≤ _; omega
      clear hkL
      go_wp2_with (at_builtin; refine appStr hB ⟨#[48, 13, 10, 13, 10]⟩ hlE rfl (.tmp 27) (.const (.string ⟨#[48, 13, 10, 13, 10]⟩)) rfl rfl rfl ?_; intro v5 W5 hB5)
      go_ret
      exact ⟨⟨_, rfl, hB5⟩, hB5.2⟩
end Go.Proofs.YtgnopcghobaoiaaDoor
