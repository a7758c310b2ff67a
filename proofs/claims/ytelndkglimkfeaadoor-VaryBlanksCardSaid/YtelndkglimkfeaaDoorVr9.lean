/- Layer 9's document: Names. -/
import Derived.Test.YtelndkglimkfeaaDoorVr8
namespace Go.Proofs.YtelndkglimkfeaaDoor
open Go.RowKit

theorem sin_head {w : World} {g c m : Nat} {ls : List (List UInt8)} (h : SIn w (.slice (some ⟨g, 0, none⟩) m c) ls) (hm : m = ls.length) (k c' : Nat) (hk : k ≤ m) : SIn w (.slice (some ⟨g, 0, none⟩) k c') (ls.take k) := by
  obtain ⟨ao, cap, hv, h⟩ := h
  cases hv
  refine ⟨_, c', by rw [List.length_take, Nat.min_eq_left (by omega)], ?_⟩
  rcases h with h | ⟨b, o, hb, h2, h3⟩
  · exact .inl (by rw [h]; simp)
  · cases hb
    exact .inr ⟨g, 0, rfl, h2, fun j hj => by
      rw [List.getElem_take]
      exact h3 j (by rw [List.length_take] at hj; omega)⟩
theorem sin_tail {w : World} {g c m : Nat} {ls : List (List UInt8)} (h : SIn w (.slice (some ⟨g, 0, none⟩) m c) ls) (hm : m = ls.length) (k c' : Nat) (hk : k ≤ m) : SIn w (.slice (some ⟨g, k, none⟩) (m - k) c') (ls.drop k) := by
  obtain ⟨ao, cap, hv, h⟩ := h
  cases hv
  refine ⟨_, c', by rw [List.length_drop, hm], ?_⟩
  rcases h with h | ⟨b, o, hb, h2, h3⟩
  · exact .inl (by rw [h]; simp)
  · cases hb
    exact .inr ⟨g, k, rfl, h2, fun j hj => by
      rw [List.getElem_drop]
      have := h3 (k + j) (by rw [List.length_drop] at hj; omega)
      simpa using this⟩
theorem ins_here {out : List (List UInt8)} {s : List UInt8} {k : Nat} (h : k < out.length) (hp : Vr.place out s = k) (he : out[k] = s) : Vr.ins out s = out := by
  unfold Vr.ins; rw [hp, List.getElem?_eq_getElem h, he, if_pos rfl]
theorem ins_new {out : List (List UInt8)} {s : List UInt8} {k : Nat} (hp : Vr.place out s = k) (hne : ∀ h : k < out.length, out[k] ≠ s) : Vr.ins out s = out.take k ++ [s] ++ out.drop k := by
  unfold Vr.ins; rw [hp]
  rw [if_neg]
  · simp
  · intro e
    obtain ⟨h, e⟩ := List.getElem?_eq_some_iff.1 e
    exact hne h e
theorem before_snoc {out : List (List UInt8)} {s : List UInt8} {k : Nat} (h : k < out.length) (hb : ∀ x ∈ out.take k, x < s) (hx : out[k] < s) : ∀ x ∈ out.take (k + 1), x < s := by
  intro x hm
  rw [List.take_succ_eq_append_getElem h] at hm
  rcases List.mem_append.1 hm with hm | hm
  · exact hb x hm
  · rw [List.mem_singleton.1 hm]; exact hx
theorem place_here {out : List (List UInt8)} {s : List UInt8} {k : Nat} (h : k < out.length) (hb : ∀ x ∈ out.take k, x < s) (hx : ¬ out[k] < s) : Vr.place out s = k :=
  Vr.place_of (Nat.le_of_lt h) hb (fun x e => by rw [List.getElem?_eq_getElem h] at e; cases e; exact hx)
theorem place_end {out : List (List UInt8)} {s : List UInt8} {k : Nat} (h : k = out.length) (hb : ∀ x ∈ out.take k, x < s) : Vr.place out s = k :=
  Vr.place_of (Nat.le_of_eq h) hb (fun x e => by rw [List.getElem?_eq_none (by omega)] at e; cases e)

set_option maxHeartbeats 6400000 in
set_option maxRecDepth 100000 in
theorem rNames_w (va : Value) (ls : List (List UInt8)) (w : World) (hv : SIn w va ls) (hn : ls.length ≤ 1000) (hl : ∀ l ∈ ls, l.length ≤ 1000) :
    Calls Tryd.prog 11 #[va] w fun e w' => ∃ v, e = .returned (.tuple #[v, .bool (Vr.names ls).2]) ∧ SBuf w w' v (Vr.names ls).1 := by
  have cS := rSplit_s va ls w hv hn (fun l h => Nat.le_trans (hl l h) (by decide))
  have hpn : (Oct.splitAll ls).length ≤ 2001000 := by
    have h1 := Vr.splitAll_lens ls 1000 hl
    have h2 := Nat.mul_le_mul_right (2 * 1000 + 1) hn
    omega
  have hpl := Vr.piece_len hl
  obtain ⟨ao, cap, rfl, _⟩ := hv
  obtain ⟨PS, hPS⟩ : ∃ PS, PS = Oct.splitAll ls := ⟨_, rfl⟩
  rw [← hPS] at cS hpn hpl
  have hnb : ∀ k (h : k < PS.length), Vr.good PS[k] = false → Vr.names ls = ([], false) := by subst hPS; exact fun k h hg => Vr.names_bad h hg
  have hna : PS.all Vr.good = true → Vr.names ls = (Vr.insAll (PS.map Oct.lower), true) := by subst hPS; exact Vr.names_all
  have HNB := Lib.hid hnb
  have HNA := Lib.hid hna
  have HPL := Lib.hid hpl
  have hp9 : PS.length ≤ 2001000 := hpn
  obtain ⟨n, hnn⟩ : ∃ n, n = PS.length := ⟨_, rfl⟩
  have HN := Lib.hid hnn
  have HN9 := Lib.hid hp9
  by_cases h0 : PS = []
  · have HE : Hid (Vr.names ls = ([], true)) := Lib.hid (by rw [hna (by rw [h0]; rfl), h0]; rfl)
    have e0 : PS.length = 0 := by rw [h0]; rfl
    clear hPS hnb hna hpl hp9 hnn hpn hl hn
    go_enter Tryd.func11, Tryd.ntmps11
    go_wp2_with fail
    refine cS.mono ?_
    rintro e w1 ⟨v, rfl, hB⟩
    have hb1 := hB.2
    obtain ⟨a1, c1, rfl, _⟩ := hB.sin
    rw [e0]
    clear h0 e0
    go_wp2_with fail
    refine wp_loop_rounds 1 ?_
    rw [rounds_succ]
    go_wp2_with fail
    go_ret2
    exact ⟨_, by rw [HE.out]; rfl, by rw [HE.out]; exact ⟨World.ownsRow_nil _ _ _ _, hb1⟩⟩
  go_enter Tryd.func11, Tryd.ntmps11
  go_wp2_with fail
  refine cS.mono ?_
  rintro e w1 ⟨v, rfl, hB⟩
  have hb1 := hB.2
  obtain ⟨g0, o0, c0, rfl, hc⟩ := hB.sin.at_ h0
  have HC := Lib.hid hc
  rw [← hnn]
  have hn1 : n ≤ 2001000 := by omega
  clear h0 hPS hnb hna hpl hnn hpn hl hn cS hp9 hB hc
  go_wp2_with fail
  go_loopw [5, 6, 7, 8, 9] (fun out i s at_ nx wr => ∃ k : Nat, k ≤ n ∧ i = .int .i64 k ∧ Hid ((PS.take k).all Vr.good = true) ∧ SBuf w1 wr out (Vr.insAll ((PS.take k).map Oct.lower))) (fun _ i _ _ _ _ => n - (intOf i).toNat)
  case atStart => exact ⟨0, by omega, rfl, Lib.hid rfl, SBuf.nil w1⟩
  case round =>
    obtain ⟨k, hk, rfl, HG, hB⟩ := hrel
    by_cases hlt : k < n
    · have ka : k < PS.length := by have := HN.out; omega
      have c1 := HC.out wr hB.2 k ka
      have z := HPL.out _ (List.getElem_mem ka)
      have zs : (str PS[k]).size ≤ 1000000 := by rw [str_size]; omega
      have cT := fun w => rToken_s (str PS[k]) w zs
      have cL := fun w => rLower_s (str PS[k]) w zs
      rw [str_list] at cT cL
      by_cases hst : PS[k] = [42]
      · have HB := Lib.hid (HNB.out k ka (Vr.good_star hst))
        have hx : str PS[k] = ⟨#[42]⟩ := by rw [hst]; rfl
        rw [hx] at c1
        clear hst hx cT cL z zs
        have hbw := hb1.trans (hB.2.mono hb1.size)
        go_wp2_with fail
        go_ret2
        exact ⟨_, by rw [HB.out]; rfl, by rw [HB.out]; exact ⟨World.ownsRow_nil _ _ _ _, hbw⟩⟩
      · have b42 : ((str PS[k]).toList == [42]) = false := by rw [str_toList]; exact beq_eq_false_iff_ne.2 hst
        by_cases ht : Oct.token PS[k] = true
        case neg =>
          have ht' : Oct.token PS[k] = false := by simpa using ht
          have HB := Lib.hid (HNB.out k ka (Vr.good_bad ht'))
          rw [ht'] at cT
          generalize str PS[k] = x at c1 cT cL b42 zs
          clear hst ht ht' z
          have hbw := hb1.trans (hB.2.mono hb1.size)
          go_wp2_with fail
          refine (cT _).mono ?_
          rintro e w2 ⟨rfl, hb2⟩
          go_wp2_with fail
          go_ret2
          exact ⟨_, by rw [HB.out]; rfl, by rw [HB.out]; exact ⟨World.ownsRow_nil _ _ _ _, hbw.trans (hb2.mono hbw.size)⟩⟩
        have HG1 := Lib.hid (Vr.all_snoc ka HG.out (Vr.good_yes hst ht))
        have hmk : k < (PS.map Oct.lower).length := by rw [List.length_map]; exact ka
        have hsn := Vr.insAll_snoc (PS.map Oct.lower) k hmk
        rw [← List.map_take, ← List.map_take, List.getElem_map] at hsn
        have hol := Vr.insAll_length ((PS.take k).map Oct.lower)
        rw [List.length_map, List.length_take] at hol
        have hol2 : (Vr.insAll ((PS.take k).map Oct.lower)).length ≤ 2001000 := by have := HN9.out; omega
        have hoz : ∀ x ∈ Vr.insAll ((PS.take k).map Oct.lower), x.length ≤ 1000 := fun x hx => by
          rw [Vr.mem_insAll] at hx
          obtain ⟨p, hp, rfl⟩ := List.mem_map.1 hx
          rw [Oct.lower_length]; exact HPL.out p (List.mem_of_mem_take hp)
        rw [ht] at cT
        have hyz : (str (Oct.lower PS[k])).size ≤ 1000 := by rw [str_size, Oct.lower_length]; exact z
        obtain ⟨S, hS⟩ : ∃ S, S = Oct.lower PS[k] := ⟨_, rfl⟩
        obtain ⟨OUT, hO⟩ : ∃ OUT, OUT = Vr.insAll ((PS.take k).map Oct.lower) := ⟨_, rfl⟩
        rw [← hS] at cL hsn hyz
        rw [← hO] at hB hsn hol2 hoz
        have HSN := Lib.hid hsn
        have HOZ := Lib.hid hoz
        generalize str PS[k] = x at c1 cT cL b42 zs
        clear hst ht z hsn hol hS hO hoz hmk
        go_wp2_with fail
        refine (cT _).mono ?_
        rintro e w2 ⟨rfl, hb2⟩
        have c2 := (hb2.cell (p := ⟨g0, o0 + k, none⟩) (World.block_lt_of_cell? _ _ c1)).trans c1
        have hB2 := hB.after hb2
        go_wp2_with fail
        refine (cL _).mono ?_
        rintro e w3 ⟨rfl, hb3⟩
        have hB3 := hB2.after hb3
        obtain ⟨m, hm⟩ : ∃ m, m = OUT.length := ⟨_, rfl⟩
        have HM := Lib.hid hm
        rcases id hB3.1.2 with ⟨rfl, e0⟩ | ⟨g, cp, cur, rfl, _, -, hcp, hcm, -⟩
        · have hOe : OUT = [] := List.eq_nil_of_length_eq_zero e0
          have HOE := Lib.hid hOe
          have hE := SBuf.nil w3
          have hU : ∀ w4, SIn w4 (.slice none 0 0) [] := fun _ => ⟨none, 0, rfl, .inl rfl⟩
          have hN0 : NilOk (.slice none 0 0) := fun c h => by injection h with _ _ h; exact h.symm
          have l0 : ([] : List (List UInt8)).length + ([] : List (List UInt8)).length ≤ 1000000000 := by decide
          have hbw := hB3.2
          have hI := Lib.hid (ins_new (out := OUT) (s := S) (k := 0) (place_end (by rw [hOe]; rfl) (by simp)) (fun h => absurd h (by rw [hOe]; simp)))
          have HSS := Lib.hid (rfl : str S = str S)
          clear hB hB2 c1 c2 hm e0 hOe hB3 cT cL
          go_wp2_with fail
          refine wp_loop_rounds 1 ?_
          rw [rounds_succ]
          go_wp2_with (first
            | (at_builtin; refine appSs hE (hU w3) hN0 l0 rfl _ _ rfl rfl rfl ?_; intro v4 w4 hA1; have l1 : ([] ++ [] : List (List UInt8)).length ≤ 100000000000 := by decide)
            | (at_builtin; refine appS hA1 S l1 rfl _ _ rfl (str S) rfl rfl rfl ?_; intro v5 w5 hA2 _; have l2 : ([] ++ [] ++ [S] : List (List UInt8)).length + ([] : List (List UInt8)).length ≤ 1000000000 := by simp)
            | (at_builtin; refine appSs hA2 (hU w5) hN0 l2 rfl _ _ rfl rfl rfl ?_; intro v6 w6 hA3))
          go_roundw
          case rel => exact ⟨k + 1, by omega, by go_num, HG1, by rw [HSN.out, hI.out, HOE.out]; exact hA3.from_ hbw⟩
          case measure => simp [intOf]; omega
        · rw [← hm] at hB3 hcp ⊢
          have hm9 : m ≤ 2001000 := by omega
          have hcp9 : cp ≤ 9223372036854775807 := hcm
          have hSin := hB3.sin
          have HB3 := Lib.hid hB3
          have hbw := hB3.2
          have HCO : Hid (∀ i (hi : i < m), w3.cell? ⟨g, i, none⟩ = some (.string (str (OUT[i]'(HM.out ▸ hi))))) := Lib.hid (fun i hi => (row_cell (by rw [hm]; exact hm ▸ hB3.1) i hi (by omega)).1)
          clear hB hB2 c1 c2 hm hB3 cT cL
          go_wp2_with fail
          go_loopw [8] (fun at_ wx => ∃ j : Nat, j ≤ m ∧ at_ = .int .i64 j ∧ Hid (∀ x ∈ OUT.take j, x < S) ∧ Below w3.heap.size w3 wx) (fun at_ _ => m - (intOf at_).toNat)
          case atStart => exact ⟨0, by omega, rfl, Lib.hid (by simp), Below.refl _ _⟩
          case round =>
            obtain ⟨j, hj, rfl, HB, hbx⟩ := hrel
            by_cases hjm : j < m
            · have jo : j < OUT.length := by have := HM.out; omega
              have c3 := (hbx.cell (p := ⟨g, j, none⟩) (World.block_lt_of_cell? _ _ (HCO.out j hjm))).trans (HCO.out j hjm)
              have cX := fun w => less_w (str OUT[j]) (str S) w (by rw [str_size]; exact Nat.le_trans (HOZ.out _ (List.getElem_mem jo)) (by decide)) (by omega)
              rw [str_list, str_list] at cX
              by_cases hls : OUT[j] < S
              · have HB1 := Lib.hid (before_snoc jo HB.out hls)
                rw [decide_eq_true hls] at cX
                generalize str OUT[j] = y at *
                clear hls
                go_wp2_with fail
                refine (cX _).mono ?_
                rintro e w4 ⟨rfl, hb4⟩
                go_wp2_with fail
                go_roundw
                case rel => exact ⟨j + 1, by omega, by go_num, HB1, hbx.trans (hb4.mono hbx.size)⟩
                case measure => simp [intOf]; omega
              · have HPl := Lib.hid (place_here jo HB.out hls)
                rw [decide_eq_false hls] at cX
                by_cases he : OUT[j] = S
                · have HI := Lib.hid (ins_here jo HPl.out he)
                  rw [he] at cX c3
                  generalize str S = y at *
                  clear hls he
                  go_wp2_with fail
                  refine (cX _).mono ?_
                  rintro e w4 ⟨rfl, hb4⟩
                  have hbx4 := hbx.trans (hb4.mono hbx.size)
                  have c4 := (hb4.cell (p := ⟨g, j, none⟩) (World.block_lt_of_cell? _ _ c3)).trans c3
                  go_wp2_with fail
                  go_roundw
                  case rel => exact ⟨k + 1, by omega, by go_num, HG1, by rw [HSN.out, HI.out]; exact HB3.out.after hbx4⟩
                  case measure => simp [intOf]; omega
                · have hx : ((str OUT[j]).toList == (str S).toList) = false := by rw [str_toList, str_toList]; exact beq_eq_false_iff_ne.2 he
                  have HNE := Lib.hid he
                  generalize hy : str OUT[j] = y at *
                  clear hls he hy
                  go_wp2_with fail
                  refine (cX _).mono ?_
                  rintro e w4 ⟨rfl, hb4⟩
                  have hbx4 := hbx.trans (hb4.mono hbx.size)
                  have c4 := (hb4.cell (p := ⟨g, j, none⟩) (World.block_lt_of_cell? _ _ c3)).trans c3
                  have hcj : ¬ cp = j := by omega
                  clear cX
                  have hE := SBuf.nil w4
                  have hU1 := sin_head (hSin.later hbx4) HM.out j cp (by omega)
                  have hU2 := fun (w5 : World) (hb : Below w4.heap.size w4 w5) => sin_tail ((hSin.later hbx4).later hb) HM.out j (cp - j) (by omega)
                  have hN0 : ∀ k n c, NilOk (.slice (some ⟨g, k, none⟩) n c) := fun _ _ _ c h => by injection h with h; cases h
                  have l0 : ([] : List (List UInt8)).length + (OUT.take j).length ≤ 1000000000 := by rw [List.length_take]; have := HM.out; simp; omega
                  have l1 : ([] ++ OUT.take j : List (List UInt8)).length ≤ 100000000000 := by rw [List.nil_append, List.length_take]; have := HM.out; omega
                  have l2 : ([] ++ OUT.take j ++ [S] : List (List UInt8)).length + (OUT.drop j).length ≤ 1000000000 := by rw [List.nil_append, List.length_append, List.length_take, List.length_drop]; have := HM.out; simp; omega
                  have hI := Lib.hid (ins_new (out := OUT) (s := S) (k := j) HPl.out (fun _ => HNE.out))
                  go_wp2_with (first
                    | (at_builtin; refine appSs hE hU1 (hN0 _ _ _) l0 rfl _ _ rfl rfl rfl ?_; intro v4 w5 hA1)
                    | (at_builtin; refine appS hA1 S l1 rfl _ _ rfl (str S) rfl rfl rfl ?_; intro v5 w6 hA2 _; have hU5 := hU2 w6 hA2.2)
                    | (at_builtin; refine appSs hA2 hU5 (hN0 _ _ _) l2 rfl _ _ rfl rfl rfl ?_; intro v6 w7 hA3))
                  go_roundw
                  case rel => exact ⟨k + 1, by omega, by go_num, HG1, by rw [HSN.out, hI.out]; exact hA3.from_ (hbw.trans (hbx4.mono hbw.size))⟩
                  case measure => simp [intOf]; omega
            · obtain rfl : j = m := by omega
              by_cases hcj : cp = j
              · subst hcj
                have hE := SBuf.nil wr
                have hU1 := sin_head (hSin.later hbx) HM.out cp cp (by omega)
                have hU2 : ∀ w5 : World, Below wr.heap.size wr w5 → SIn w5 (.slice (some ⟨g, 0, none⟩) 0 0) (OUT.drop cp) := fun w5 _ => by
                  have : OUT.drop cp = [] := List.drop_of_length_le (by have := HM.out; omega)
                  rw [this]; exact ⟨_, _, rfl, .inl rfl⟩
                have hN0 : ∀ k n c, NilOk (.slice (some ⟨g, k, none⟩) n c) := fun _ _ _ c h => by injection h with h; cases h
                have l0 : ([] : List (List UInt8)).length + (OUT.take cp).length ≤ 1000000000 := by rw [List.length_take]; have := HM.out; simp; omega
                have l1 : ([] ++ OUT.take cp : List (List UInt8)).length ≤ 100000000000 := by rw [List.nil_append, List.length_take]; have := HM.out; omega
                have l2 : ([] ++ OUT.take cp ++ [S] : List (List UInt8)).length + (OUT.drop cp).length ≤ 1000000000 := by rw [List.nil_append, List.length_append, List.length_take, List.length_drop]; have := HM.out; simp; omega
                have hI := Lib.hid (ins_new (out := OUT) (s := S) (k := cp) (place_end HM.out HB.out) (fun h => absurd h (by have := HM.out; omega)))
                go_wp2_with (first
                  | (at_builtin; refine appSs hE hU1 (hN0 _ _ _) l0 rfl _ _ rfl rfl rfl ?_; intro v4 w4 hA1)
                  | (at_builtin; refine appS hA1 S l1 rfl _ _ rfl (str S) rfl rfl rfl ?_; intro v5 w5 hA2 _; have hU5 := hU2 w5 hA2.2)
                  | (at_builtin; refine appSs hA2 hU5 (hN0 _ _ _) l2 rfl _ _ rfl rfl rfl ?_; intro v6 w6 hA3))
                go_roundw
                case rel => exact ⟨k + 1, by omega, by go_num, HG1, by rw [HSN.out, hI.out]; exact hA3.from_ (hbw.trans (hbx.mono hbw.size))⟩
                case measure => simp [intOf]; omega
              · have hE := SBuf.nil wr
                have hU1 := sin_head (hSin.later hbx) HM.out j cp (by omega)
                have hU2 : ∀ w5 : World, Below wr.heap.size wr w5 → SIn w5 (.slice (some ⟨g, j, none⟩) 0 (cp - j)) (OUT.drop j) := fun w5 hb => by
                  have := sin_tail ((hSin.later hbx).later hb) HM.out j (cp - j) (by omega)
                  rwa [Nat.sub_self] at this
                have hN0 : ∀ k n c, NilOk (.slice (some ⟨g, k, none⟩) n c) := fun _ _ _ c h => by injection h with h; cases h
                have l0 : ([] : List (List UInt8)).length + (OUT.take j).length ≤ 1000000000 := by rw [List.length_take]; have := HM.out; simp; omega
                have l1 : ([] ++ OUT.take j : List (List UInt8)).length ≤ 100000000000 := by rw [List.nil_append, List.length_take]; have := HM.out; omega
                have l2 : ([] ++ OUT.take j ++ [S] : List (List UInt8)).length + (OUT.drop j).length ≤ 1000000000 := by rw [List.nil_append, List.length_append, List.length_take, List.length_drop]; have := HM.out; simp; omega
                have hI := Lib.hid (ins_new (out := OUT) (s := S) (k := j) (place_end HM.out HB.out) (fun h => absurd h (by have := HM.out; omega)))
                go_wp2_with (first
                  | (at_builtin; refine appSs hE hU1 (hN0 _ _ _) l0 rfl _ _ rfl rfl rfl ?_; intro v4 w4 hA1)
                  | (at_builtin; refine appS hA1 S l1 rfl _ _ rfl (str S) rfl rfl rfl ?_; intro v5 w5 hA2 _; have hU5 := hU2 w5 hA2.2)
                  | (at_builtin; refine appSs hA2 hU5 (hN0 _ _ _) l2 rfl _ _ rfl rfl rfl ?_; intro v6 w6 hA3))
                go_roundw
                case rel => exact ⟨k + 1, by omega, by go_num, HG1, by rw [HSN.out, hI.out]; exact hA3.from_ (hbw.trans (hbx.mono hbw.size))⟩
                case measure => simp [intOf]; omega
    · have hE : PS.take k = PS := List.take_of_length_le (by have := HN.out; omega)
      rw [hE] at hB
      have hG : PS.all Vr.good = true := by have := HG.out; rw [hE] at this; exact this
      have HB := Lib.hid (HNA.out hG)
      have hB1 := hB.from_ hb1
      clear hE hG HG hB
      go_wp2_with fail
      go_ret2
      exact ⟨_, by rw [HB.out]; rfl, by rw [HB.out]; exact hB1⟩
end Go.Proofs.YtelndkglimkfeaaDoor
