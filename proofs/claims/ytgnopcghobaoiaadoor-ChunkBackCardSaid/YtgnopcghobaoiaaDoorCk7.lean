/- The statements of layer 7: lists of octets that are appended to; ChunkSingles. -/
import Derived.Test.YtgnopcghobaoiaaDoorCk6
namespace Go.Proofs.YtgnopcghobaoiaaDoor
open Go.RowKit

theorem slices_info : (Tryd.prog.info? 22).map (fun i => (i.zero, i.size, i.bytes)) = some (some (.slice none 0 0), 1, 24) := by kernel_rfl
/-- v is a list of the call's own (the call began in W), and holds these. -/
def LBuf (W w : World) (v : Value) (vs : List Value) : Prop := w.ownsRow W.heap.size 22 1 v vs.length vs ∧ Below W.heap.size W w
theorem LBuf.nil_of {W w : World} (h : Below W.heap.size W w) : LBuf W w (.slice none 0 0) [] := ⟨World.ownsRow_nil _ _ _ _, h⟩
theorem LBuf.alloc {W w : World} {v : Value} {vs : List Value} (h : LBuf W w v vs) (o : Obj) : LBuf W (w.alloc o) v vs := ⟨h.1.alloc o, h.2.alloc h.2.size o⟩
/-- 'append(l, u)'. -/
theorem appL {ops : Array Oper} {rest : List Oper} {o : Oper} {a : Act} {Q : Exit → Act → World → Prop} {W w : World} {v u : Value} {vs : List Value} (h : LBuf W w v vs) (hlen : vs.length ≤ 100000000) (hu : u.oneCell' = true)
    (hgd : o.guard = none) (s x : Operand) (ho : o.op = .call { callee := .builtin .append, args := #[s, x], argTypes := #[35, 35] })
    (hs : a.eval s = v) (hx : a.eval x = .slice (some ⟨w.heap.size, 0, none⟩) 1 1)
    (hK : ∀ v' w', LBuf W w' v' (vs ++ [u]) → wpList Tryd.prog ops Q rest (a.put o.dst v') w') : wpList Tryd.prog ops Q (o :: rest) a (w.alloc (.cells #[u] 22)) := by
  obtain ⟨i0, hi, hz0, hz1, hz2⟩ := info_parts slices_info
  have hA := h.alloc (.cells #[u] 22)
  refine wpList_append_own _ hgd s x _ ho W.heap.size 22 i0 (.slice none 0 0) 1 24 Tryd.underlying35 hi hz0 hz1 hz2 rfl (by decide) v vs.length vs hs hA.1 ⟨w.heap.size, 0, none⟩ 1 1 [u] hx rfl ?_ ?_ (by unfold maxLen; omega) (by omega) hA.2.size (fun v' w' h1 h2 _ => ?_)
  · intro j z hj
    match j, hj with
    | 0, hj =>
      simp at hj; subst hj
      show (w.alloc (.cells #[u] 22)).cell? ⟨w.heap.size, 0 + 0, none⟩ = _
      rw [World.cell?_alloc_at _ _ _ _ rfl]; rfl
  · intro z hz; simp at hz; subst hz; exact hu
  · refine hK v' w' ⟨?_, hA.2.grown h2 hA.2.size (fun k hk => (hA.1.lt k hk).1)⟩
    simpa using h1
theorem nil_at (a : Addr) (n c : Nat) : NilOk (.slice (some a) n c) := fun _ h => by injection h with h; cases h
/-- Each reads as its octets. -/
def Each (w : World) (vs : List Value) (ls : List (List UInt8)) : Prop := vs.length = ls.length ∧ ∀ (j : Nat) (u : Value) (p : List UInt8), vs[j]? = some u → ls[j]? = some p → BIn w u p ∧ NilOk u
theorem Each.nil (w : World) : Each w [] [] := ⟨rfl, fun j u p h => by simp at h⟩
theorem Each.snoc {w : World} {vs : List Value} {ls : List (List UInt8)} (h : Each w vs ls) {u : Value} {p : List UInt8} (hu : BIn w u p) (hn : NilOk u) : Each w (vs ++ [u]) (ls ++ [p]) := by
  refine ⟨by simp [h.1], fun j x q hx hq => ?_⟩
  by_cases hj : j < vs.length
  · rw [List.getElem?_append_left hj] at hx
    rw [List.getElem?_append_left (by rw [← h.1]; exact hj)] at hq
    exact h.2 j x q hx hq
  · rw [List.getElem?_append_right (by omega)] at hx
    rw [List.getElem?_append_right (by rw [← h.1]; omega)] at hq
    have hj0 : j - vs.length = 0 := by
      have := (List.getElem?_eq_some_iff.1 hx).1
      simp at this; omega
    rw [hj0] at hx
    rw [show j - ls.length = 0 by rw [← h.1]; exact hj0] at hq
    simp at hx hq
    subst hx hq
    exact ⟨hu, hn⟩
theorem LBuf.bs {W w : World} {v : Value} {vs : List Value} {ls : List (List UInt8)} (h : LBuf W w v vs) (hE : Each W vs ls) : BsIn w v ls := by
  rcases h.1.2 with ⟨h0, h1⟩ | ⟨g, cap, cur, hv', hg, hh, h1, h2, h3, h4⟩
  · have hl0 : ls.length = 0 := by
      rw [← hE.1]
      rcases vs with _ | ⟨a, t⟩
      · rfl
      · simp at h1
    have : ls = [] := List.length_eq_zero_iff.1 hl0
    subst this
    exact ⟨none, 0, h0, Nat.le_refl _, by decide, .inl rfl⟩
  · refine ⟨_, cap, by rw [hv', hE.1], by rw [← hE.1]; exact h1, by unfold maxLen at h2; omega, .inr ⟨g, 0, rfl, lt_of_block hh, fun j hj => ?_⟩⟩
    have hjv : j < vs.length := by rw [hE.1]; exact hj
    have h5 : cur.toList[j]? = some vs[j] := by
      have h6 : (cur.toList.take (vs.length * 1))[j]? = vs[j]? := by rw [h4]
      rw [List.getElem?_take_of_lt (by omega)] at h6
      rw [h6, List.getElem?_eq_getElem hjv]
    obtain ⟨hb, hn⟩ := hE.2 j vs[j] ls[j] (List.getElem?_eq_getElem hjv) (List.getElem?_eq_getElem hj)
    refine ⟨vs[j], ?_, hb.later h.2, hn⟩
    rw [Nat.zero_add]
    simp only [World.cell?, hh]
    simpa using h5
theorem encode_one_len (l : List UInt8) (hl : l.length ≤ 1048576) : (Ck.encode [l]).length ≤ l.length + 15 := by
  unfold Ck.encode
  by_cases h : l = []
  · subst h; decide
  · have := Ck.hex_len8 (n := l.length) hl
    have hc := chunk_len l h
    rw [List.length_append]
    simp only [List.flatMap_cons, List.flatMap_nil, List.append_nil, hc]
    show _ + 5 ≤ _
    omega

set_option maxHeartbeats 6400000 in
set_option maxRecDepth 100000 in
theorem ksingles_w {Env : World → Prop} (P : Prog7 Env) (v : Value) (l : List UInt8) (w : World) (h : BIn w v l) (hnil : NilOk v) (hE : Env w) :
    Calls Tryd.prog 7 #[v] w fun e w' => e = .returned (.bool true) ∧ Below w.heap.size w w' := by
  have HV := Lib.hid h
  have HNIL := Lib.hid hnil
  have HE := Lib.hid hE
  have HP := Lib.hid P
  have cA := fun (W : World) (hb : Below w.heap.size w W) => kawake_w P W (P.later hE hb)
  have hwb : Below w.heap.size w w := Below.refl _ _
  obtain ⟨ao, c, rfl, hlc, hc9, hg⟩ := h
  have HG := Lib.hid hg
  obtain ⟨L, hL⟩ : ∃ L, L = l.length := ⟨_, rfl⟩
  have HL := Lib.hid hL
  rw [← hL] at hlc HV HNIL ⊢
  clear hnil hE P hg
  by_cases h9 : (800 : Int) < L
  · clear hL
    go_enter Tryd.func7, Tryd.ntmps7
    go_wp2_with fail
    refine (cA w hwb).mono ?_
    rintro e w1 ⟨rfl, hb1⟩
    go_wp2_with fail
    refine (cA w1 hb1).mono ?_
    rintro e w2 ⟨rfl, hb2⟩
    go_wp2_with fail
    go_ret
    exact ⟨rfl, hb1.trans (hb2.mono hb1.size)⟩
  have hL8 : l.length ≤ 800 := by omega
  have hl1 := encode_one_len l (by omega)
  have hl2 := Ck.encode_singles l
  have hd1 := Ck.decode_encode [l] [] (by simp; omega)
  have hd2 := Ck.decode_encode (Ck.singles l) [] (by rw [Ck.singles_flat]; omega)
  rw [Ck.singles_flat, List.append_nil] at hd2
  rw [List.append_nil] at hd1
  have hf1 : [l].flatten = l := by simp
  rw [hf1] at hd1
  clear hf1
  rw [← hL] at hl2
  have cE1 := fun (u : Value) (W : World) (hu : BsIn W u [l]) (hb : Below w.heap.size w W) => HP.out.encode u [l] W (by omega) hu (HP.out.later HE.out hb)
  have cE2 := fun (u : Value) (W : World) (hu : BsIn W u (Ck.singles l)) (hb : Below w.heap.size w W) => HP.out.encode u (Ck.singles l) W (by omega) hu (HP.out.later HE.out hb)
  have cD1 := fun (u : Value) (W : World) (hu : BIn W u (Ck.encode [l])) (hb : Below w.heap.size w W) => HP.out.decode u (Ck.encode [l]) W (by omega) hu (HP.out.later HE.out hb)
  have cD2 := fun (u : Value) (W : World) (hu : BIn W u (Ck.encode (Ck.singles l))) (hb : Below w.heap.size w W) => HP.out.decode u (Ck.encode (Ck.singles l)) W (by omega) hu (HP.out.later HE.out hb)
  rw [hd1] at cD1
  rw [hd2] at cD2
  simp only [] at cD1 cD2
  obtain ⟨N1, hN1⟩ : ∃ N1, (Ck.encode [l]).length = N1 := ⟨_, rfl⟩
  rw [hN1] at cD1
  rw [hl2] at cD2
  have HL2 := Lib.hid hl2
  have HN1 := Lib.hid hN1
  have HSn := Lib.hid (Ck.singles_snoc l)
  have hm : ((6 * L + 5 : Nat) : Int) = 6 * (L : Int) + 5 := by omega
  rw [hm] at cD2
  clear hd1 hd2 hl1 hl2 hN1 HP HE hL
  go_enter Tryd.func7, Tryd.ntmps7
  go_wp2_with fail
  refine (cA w hwb).mono ?_
  rintro e1 w1 ⟨rfl, hb1⟩
  clear cA hwb
  go_wp2_with fail
  go_loopw [3, 4] (fun x3 x4 wr => ∃ (k : Nat) (vs : List Value), k ≤ L ∧ x4 = .int .i64 k ∧ LBuf w wr x3 vs ∧ Each w vs (Ck.singles (l.take k))) (fun _ x4 _ => L - (intOf x4).toNat)
  case atStart => exact ⟨0, [], Nat.zero_le _, rfl, LBuf.nil_of hb1, Each.nil w⟩
  case round =>
    obtain ⟨k, vs, hk, rfl, hB, hEa⟩ := hrel
    have hk0 : (0 : Int) ≤ k := by omega
    by_cases hlt : k < L
    · have hki : (k : Int) < L := by omega
      obtain ⟨b, o, hao, hbl, hcell⟩ := HG.out.resolve_left (fun x => by have := HL.out; rw [x] at this; simp at this; omega)
      subst hao
      have k0 : k < l.length := by rw [← HL.out]; exact hlt
      have hel : BIn w (.slice (some ⟨b, o + k, none⟩) 1 (c - k)) [l[k]] := ⟨_, c - k, rfl, by simp; omega, by omega, .inr ⟨b, o + k, rfl, hbl, fun j hj => by
        have hj0 : j = 0 := by simpa using hj
        subst hj0
        exact hcell k k0⟩⟩
      have HE2 := Lib.hid (by rw [HSn.out k k0]; exact hEa.snoc hel (nil_at _ _ _) : Each w (vs ++ [.slice (some ⟨b, o + k, none⟩) 1 (c - k)]) (Ck.singles (l.take (k + 1))))
      have hvl : vs.length ≤ 100000000 := by
        have := hEa.1
        unfold Ck.singles at this
        rw [List.length_map, List.length_take] at this
        omega
      have hk1 : (k : Int) + 1 ≤ c := by omega
      have hk2 : (k : Int) ≤ (k : Int) + 1 := by omega
      have hs1 : ((k : Int) + 1 - k).toNat = 1 := by omega
      clear hcell hel hEa
      go_wp2_with (at_builtin; refine appL (u := .slice (some ⟨b, o + k, none⟩) 1 (c - k)) hB hvl rfl rfl (.tmp 27) (.tmp 33) rfl rfl rfl ?_; intro v2 w2 hB2)
      go_round
      case rel => exact ⟨k + 1, _, by omega, by go_num, hB2, HE2.out⟩
      case measure => simp [intOf]; omega
    · have hki : ¬ (k : Int) < L := by omega
      have hkl : l.take k = l := List.take_of_length_le (by rw [← HL.out]; omega)
      rw [hkl] at hEa
      have hbs := hB.bs hEa
      have hbw := hB.2
      clear hkl hB hEa HSn
      go_upto_region 8 with fail
      have hb1r := hbw.alloc hbw.size (.cells #[.slice ao L c] 22)
      have hbs1 := bs_lit wr #[.slice ao L c] [l] 1 rfl (by decide) (fun j hj => by
        have hj0 : j = 0 := by simpa using hj
        subst hj0
        exact ⟨_, rfl, HV.out.later hbw, HNIL.out⟩)
      have hbs2 := hbs.later ((Below.refl _ wr).alloc (Nat.le_refl _) (.cells #[.slice ao L c] 22))
      have c1 := cE1 _ _ hbs1 hb1r
      clear cE1 hbs1 hbs
      go_wp2_with fail
      refine c1.mono ?_
      rintro e3 w3 ⟨⟨x3, rfl, hx3, hn3⟩, hb3⟩
      have hB3 := hb1r.trans (hb3.mono hb1r.size)
      have c2 := cE2 _ _ (hbs2.later hb3) hB3
      clear c1 hbs2 hb3 hb1r cE2
      go_wp2_with fail
      refine c2.mono ?_
      rintro e4 w4 ⟨⟨x4, rfl, hx4, hn4⟩, hb4⟩
      have hB4 := hB3.trans (hb4.mono hB3.size)
      have hx3 := hx3.later hb4
      clear c2 hb4 hB3
      have c3 := cD1 _ _ hx3 hB4
      clear cD1
      obtain ⟨a3, k3, rfl, _, _, _⟩ := hx3
      rw [HN1.out] at c3 ⊢
      go_wp2_with fail
      refine c3.mono ?_
      rintro e5 w5 ⟨⟨x5, rfl, hx5, hn5⟩, hb5⟩
      have hB5 := hB4.trans (hb5.mono hB4.size)
      have c4 := cD2 _ _ (hx4.later hb5) hB5
      have hx4 := hx4.later hb5
      clear c3 hb5 hB4 cD2
      obtain ⟨a4, k4, rfl, _, _, _⟩ := hx4
      rw [HL2.out] at c4 ⊢
      go_wp2_with fail
      refine c4.mono ?_
      rintro e6 w6 ⟨⟨x6, rfl, hx6, hn6⟩, hb6⟩
      have hB6 := hB5.trans (hb6.mono hB5.size)
      have s5 := (hx5.later hb6).all hn5
      have s6 := hx6.all hn6
      have sb := (HV.out.later hB6).all HNIL.out
      generalize str l = B at *
      clear c4 hx5 hx6 hb6 hB5
      go_wp2_with fail
      go_ret
      exact ⟨rfl, hB6⟩
end Go.Proofs.YtgnopcghobaoiaaDoor
