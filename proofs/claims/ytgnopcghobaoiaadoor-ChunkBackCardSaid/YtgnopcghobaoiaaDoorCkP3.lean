/- Package chunk, the program: a trailer's line; a part, whatever is awaited. -/
import Derived.Test.YtgnopcghobaoiaaDoorCkP2
namespace Go.Proofs.YtgnopcghobaoiaaDoor
open Go.RowKit

set_option maxRecDepth 100000 in
theorem FBuf.len {W w : World} {v : Value} {fs : List Fld.F} (h : FBuf W w v fs) : ∃ ao c, v = .slice ao fs.length c := by
  rcases h.1.2 with ⟨h0, h1⟩ | ⟨g, cap, cur, hv, _⟩
  · exact ⟨none, 0, by rw [h0, h1]⟩
  · exact ⟨_, _, hv⟩
/-- 'append(line, "..")' of a part behind which there is no room: new memory. -/
theorem app_full {ops : Array Oper} {rest : List Oper} {o : Oper} {a : Act} {Q : Exit → Act → World → Prop} {w : World} {b : Addr} {p : List UInt8} (hp : BIn w (.slice (some b) p.length p.length) p) (s : ByteArray) (h0 : 0 < s.size) (hl : p.length + s.size ≤ 1000000)
    (hgd : o.guard = none) (sl x : Operand) (ho : o.op = .call { callee := .builtin .append, args := #[sl, x], argTypes := #[22, 9] })
    (hs : a.eval sl = .slice (some b) p.length p.length) (hx : a.eval x = .string s)
    (hK : ∀ c w', (p ++ s.data.toList).length ≤ c → c ≤ 9223372036854775807 → Oc w' w.heap.size (p ++ s.data.toList) → Below w.heap.size w w' → wpList Tryd.prog ops Q rest (a.put o.dst (.slice (some ⟨w.heap.size, 0, none⟩) (p ++ s.data.toList).length c)) w') : wpList Tryd.prog ops Q (o :: rest) a w := by
  obtain ⟨i0, hi, hz0, hz1, hz2⟩ := info_parts bytes_info
  have hcell : ∀ j u, (Lib.byteCells p)[j]? = some u → w.cell? (b.add j) = some u := by
    intro j u hj
    have hjl : j < p.length := by
      have := (List.getElem?_eq_some_iff.1 hj).1
      rw [Lib.byteCells_length] at this; exact this
    obtain ⟨ao, cap, hv, _, _, hg⟩ := hp
    have hv1 : some b = ao := (Value.slice.inj hv).1
    rcases hg with h | ⟨b', o', h, hb, hc⟩
    · subst h; simp at hjl
    · rw [← hv1] at h
      cases h
      rw [Addr.add_lit, hc j hjl]
      rw [← hj]; simp [Lib.byteCells, hjl]
  have hz : s.data.toList.length = s.size := Oct.length_size s
  have hr := Lib.run_append_grow_string (P := Tryd.prog) w 22 9 o.type 5 i0 (.int .u8 0) Tryd.underlying22 Tryd.underlying9 hi hz0 b p.length p.length (Lib.byteCells p) (by rw [Lib.byteCells_length, hz1, Nat.mul_one]) hcell s (by omega) (by omega) (by rw [hz2]; exact growslice_fits (by omega) (by omega))
  have hge := grownCap_ge w (p.length + s.size) p.length 5
  have hle := grownCap_le_maxLen w (p.length + s.size) p.length 5 (by unfold maxLen; omega)
  have hb1 : Below w.heap.size w (w.drew.alloc (.cells ((Lib.byteCells p).toArray ++ (Lib.strCells s).toArray ++ Builtin.zeroCells (Value.int .u8 0).cells (grownCap w (p.length + s.size) p.length 5 - (p.length + s.size))) 5)) := (Below.refl _ w).drew.alloc (Nat.le_refl _) _
  have hlen : (p ++ s.data.toList).length = p.length + s.size := by rw [List.length_append, hz]
  have hO : Oc (w.drew.alloc (.cells ((Lib.byteCells p).toArray ++ (Lib.strCells s).toArray ++ Builtin.zeroCells (Value.int .u8 0).cells (grownCap w (p.length + s.size) p.length 5 - (p.length + s.size))) 5)) w.heap.size (p ++ s.data.toList) := by
    refine ⟨by simp, fun j hj => ?_⟩
    have hj0 := hj
    rw [hlen] at hj
    have e : Lib.byteCells (p ++ s.data.toList) = Lib.byteCells p ++ Lib.strCells s := by simp [Lib.byteCells, Lib.strCells]
    rw [show w.heap.size = w.drew.heap.size from rfl, World.cell?_alloc_at _ _ _ _ rfl]
    rw [show (Lib.byteCells p).toArray ++ (Lib.strCells s).toArray = (Lib.byteCells (p ++ s.data.toList)).toArray by rw [e]; simp]
    rw [Array.getElem?_append_left (by simp [Lib.byteCells, hz]; omega)]
    unfold Lib.byteCells
    rw [List.getElem?_toArray, List.getElem?_map, List.getElem?_eq_getElem hj0]; rfl
  refine wpList_plain hgd fun K hK2 => ?_
  have := hK _ _ (by rw [hlen]; exact hge) (by unfold maxLen at hle; exact hle) hO hb1
  rw [hlen] at this
  unfold Oper.wp execOp
  simp only [ho, resolve, invoke, builtin, Sem.run_bind, Sem.run_pure, Result.andThen_ok, List.map_toArray, List.map_cons, List.map_nil, hs, hx, hr]
  exact hK2 _ _ this

set_option maxHeartbeats 6400000 in
set_option maxRecDepth 100000 in
/-- A trailer's line is taken. -/
theorem trail_w (g k : Nat) (t : Int) (u : Value) (p : List UInt8) (w : World) (hp0 : p ≠ []) (hp : p.length ≤ 1000) (hk : k ≤ 128) (hd : DAt w g 3 0 t k 0) (hu : Part w u p) (hm : MaxOk w) :
    Calls Tryd.prog 28 #[.pointer (some ⟨g, 0, none⟩), u] w fun x w' => x = .returned (.int .i64 (Ck.tkTrail k p).2) ∧ But g w w' ∧ Dst w' g (Ck.tkTrail k p).1 0 := by
  have HA : Hid (∀ W : World, Below w.heap.size w W → DAt W g 3 0 t k 0) := Lib.hid (fun W hb => hd.later hb)
  have HD : Hid (∀ W : World, Below w.heap.size w W → Dst W g (.trail k) 0) := Lib.hid (fun W hb => ⟨hk, t, hd.later hb⟩)
  obtain ⟨hb, ao, rfl⟩ := hu
  have hb0 := hb
  obtain ⟨ao', cap, hv, _, _, hg⟩ := hb0
  injection hv with hv1 hv2 hv3
  subst hv1 hv3
  rcases hg with h | ⟨b, o, rfl, hbl, hc⟩
  · exact absurd h hp0
  have cP := fun (c : Nat) (W : World) (hlc : (p ++ [13, 10]).length ≤ c) (hc9 : c ≤ 9223372036854775807) (hO : Oc W w.heap.size (p ++ [13, 10])) (hbW : Below w.heap.size w W) => Parse_w w.heap.size c (p ++ [13, 10]) W (by rw [List.length_append]; simp; omega) hlc hc9 hO (hm.later hbW)
  have hlen2 : p.length + (⟨#[13, 10]⟩ : ByteArray).size ≤ 1000000 := by show p.length + 2 ≤ _; omega
  obtain ⟨⟨fs, n, e⟩, hq⟩ : ∃ x, Fld.parse (p ++ [13, 10]) = x := ⟨_, rfl⟩
  rw [hq] at cP
  simp only [] at cP
  obtain ⟨P, hP⟩ : ∃ P, P = p ++ [13, 10] := ⟨_, rfl⟩
  have hPs : p ++ (⟨#[13, 10]⟩ : ByteArray).data.toList = P := hP.symm
  rw [← hP] at cP
  by_cases he : e = 0
  case neg =>
    have HT := Lib.hid (Ck.tkTrail_err (n := k) he hq)
    have heb : (e != 0) = true := by simpa using he
    clear hq hP hv2 hbl hc hd hm hp hp0 hk he
    go_enter Tryd.func28, Tryd.ntmps28
    go_wp2_with (at_builtin; refine app_full hb ⟨#[13, 10]⟩ (by decide) hlen2 rfl (.tmp 9) (.const (.string ⟨#[13, 10]⟩)) rfl rfl rfl ?_; rw [hPs]; intro c W1 hlc hc9 hO1 hb1)
    refine (cP c W1 hlc hc9 hO1 hb1).mono ?_
    rintro e' W2 ⟨v2, rfl, hF⟩
    have hb2 := bt5 hb1 hF.2
    have hF1 := hF.1
    clear hF hO1
    go_wp2_with fail
    go_ret
    exact ⟨by rw [HT.out]; rfl, But.of hb2, by rw [HT.out]; exact HD.out _ hb2⟩
  subst he
  by_cases hf : fs.length = 0
  · obtain rfl : fs = [] := List.length_eq_zero_iff.1 hf
    have HT := Lib.hid (Ck.tkTrail_end (n := k) hq)
    clear hq hP hv2 hbl hc hd hm hp hp0 hk hf
    go_enter Tryd.func28, Tryd.ntmps28
    go_wp2_with (at_builtin; refine app_full hb ⟨#[13, 10]⟩ (by decide) hlen2 rfl (.tmp 9) (.const (.string ⟨#[13, 10]⟩)) rfl rfl rfl ?_; rw [hPs]; intro c W1 hlc hc9 hO1 hb1)
    refine (cP c W1 hlc hc9 hO1 hb1).mono ?_
    rintro e' W2 ⟨v2, rfl, hF⟩
    have hb2 := bt5 hb1 hF.2
    have hd2 := HA.out W2 hb2
    have hB2 : But g w W2 := But.of hb2
    obtain ⟨c0, c1, c2, c3, c4⟩ := hd2.cells
    obtain ⟨ao2, cp2, rfl⟩ := FBuf.len hF
    clear hF hO1
    have q1 := hd2.free 0
    go_wp2_with fail
    go_ret
    rw [HT.out]
    exact ⟨rfl, hB2.put 0 _, trivial, t, k, hd2.put 0 _ rfl⟩
  · have hT := Ck.tkTrail_ok (n := k) hq hf
    have hfi : ((fs.length : Int) == 0) = false := beq_eq_false_iff_ne.2 (by omega)
    have hfj : ¬ (fs.length : Int) = 0 := by omega
    generalize hFL : fs.length = FL at *
    by_cases hk8 : k = 128
    · rw [if_pos hk8] at hT
      have HT := Lib.hid hT
      have hki : ((k : Int) == 128) = true := by rw [hk8]; rfl
      clear hq hP hv2 hbl hc hd hm hp hp0 hk hf hT hk8
      go_enter Tryd.func28, Tryd.ntmps28
      go_wp2_with (at_builtin; refine app_full hb ⟨#[13, 10]⟩ (by decide) hlen2 rfl (.tmp 9) (.const (.string ⟨#[13, 10]⟩)) rfl rfl rfl ?_; rw [hPs]; intro c W1 hlc hc9 hO1 hb1)
      refine (cP c W1 hlc hc9 hO1 hb1).mono ?_
      rintro e' W2 ⟨v2, rfl, hF⟩
      have hb2 := bt5 hb1 hF.2
      have hd2 := HA.out W2 hb2
      have hB2 : But g w W2 := But.of hb2
      obtain ⟨c0, c1, c2, c3, c4⟩ := hd2.cells
      obtain ⟨ao2, cp2, rfl⟩ := FBuf.len hF
      clear hF hO1
      go_wp2_with fail
      go_ret
      exact ⟨by rw [HT.out]; rfl, hB2, by rw [HT.out]; exact HD.out _ hb2⟩
    · rw [if_neg hk8] at hT
      have HT := Lib.hid hT
      have HK : Hid (k + 1 ≤ 128) := Lib.hid (by omega)
      have hki : ((k : Int) == 128) = false := beq_eq_false_iff_ne.2 (by omega)
      have hkj : ¬ (k : Int) = 128 := by omega
      have hk1 : (k : Int) < 128 := by omega
      clear hq hP hv2 hbl hc hd hm hp hp0 hf hT hk8
      go_enter Tryd.func28, Tryd.ntmps28
      go_wp2_with (at_builtin; refine app_full hb ⟨#[13, 10]⟩ (by decide) hlen2 rfl (.tmp 9) (.const (.string ⟨#[13, 10]⟩)) rfl rfl rfl ?_; rw [hPs]; intro c W1 hlc hc9 hO1 hb1)
      refine (cP c W1 hlc hc9 hO1 hb1).mono ?_
      rintro e' W2 ⟨v2, rfl, hF⟩
      have hb2 := bt5 hb1 hF.2
      have hd2 := HA.out W2 hb2
      have hB2 : But g w W2 := But.of hb2
      obtain ⟨c0, c1, c2, c3, c4⟩ := hd2.cells
      obtain ⟨ao2, cp2, rfl⟩ := FBuf.len hF
      clear hF hO1
      have q1 := hd2.free 3
      go_wp2_with fail
      go_ret
      rw [HT.out]
      refine ⟨rfl, hB2.put 3 _, HK.out, t, ?_⟩
      have := hd2.put (a' := 3) (n' := 0) (t' := t) (k' := (k : Int) + 1) (e' := 0) 3 (.int .i64 ((k : Int) + 1)) rfl
      exact this

end Go.Proofs.YtgnopcghobaoiaaDoor
