/- The statements of layer 3: FieldLooks. -/
import Derived.Test.YtlekbnbdjahegaaDoorFd16
namespace Go.Proofs.YtlekbnbdjahegaaDoor
open Go.RowKit

theorem small_sub {a b : List Fld.F} (ha : Small a) (hl : b.length ≤ 1000000) (h : ∀ f ∈ b, f ∈ a) : Small b := ⟨hl, fun f hf => ha.2 f (h f hf)⟩
theorem small_wo {xs : List Fld.F} (h : Small xs) (ns : List (List UInt8)) : Small (Fld.withoutAll xs ns) :=
  small_sub h (Nat.le_trans (Fld.withoutAll_length ns xs) h.1) (fun _ hf => Fld.withoutAll_sub ns xs hf)
theorem small_wi {xs ys : List Fld.F} (h : Small xs) (h' : Small ys) (hl : xs.length + ys.length ≤ 1000000) (k : Nat) : Small (Fld.withAll xs (ys.take k)) := by
  obtain ⟨h1, h2⟩ := Fld.withAll_bounds (ys.take k) xs
  rw [List.length_take] at h1
  exact ⟨by omega, fun f hf => (h2 f hf).elim (h.2 f) (fun hf => h'.2 f (List.mem_of_mem_take hf))⟩
theorem drop_all (xs : List Fld.F) (ns : List (List UInt8)) : Fld.drop xs (inSet ns) = Fld.withoutAll xs ns := by rw [Fld.withoutAll_drop]; rfl

set_option maxHeartbeats 6400000 in
set_option maxRecDepth 100000 in
theorem looks_w (va : Value) (xs : List Fld.F) (vb : Value) (ys : List Fld.F) (vc : Value) (ns : List (List UInt8)) (w : World) (ha : FIn w va xs) (na : NilOk va) (la : xs.length ≤ 9223372036854775807) (za : ∀ f ∈ xs, f.1.length ≤ 9223372036854775807 ∧ f.2.length ≤ 9223372036854775807)
    (hb : FIn w vb ys) (nb : NilOk vb) (lb : ys.length ≤ 9223372036854775807) (zb : ∀ f ∈ ys, f.1.length ≤ 9223372036854775807 ∧ f.2.length ≤ 9223372036854775807)
    (hc : SIn w vc ns) (lc : ns.length ≤ 9223372036854775807) (zc : ∀ l ∈ ns, l.length ≤ 9223372036854775807) (hm : MaxOk w) :
    Calls Tryd.prog 5 #[va, vb, vc] w fun e w' => e = .returned (.bool true) ∧ Below w.heap.size w w' := by
  have HA := Lib.hid ha
  have HB := Lib.hid hb
  have HC := Lib.hid hc
  have cA := fun (w1 : World) (hb : Below w.heap.size w w1) => awake_w w1 (hm.later hb)
  have c1 := fun (w1 : World) (hb : Below w.heap.size w w1) => short_w va xs 40 w1 (ha.later hb) (by decide) la za
  have c2 := fun (w1 : World) (hb' : Below w.heap.size w w1) => short_w vb ys 10 w1 (hb.later hb') (by decide) lb zb
  have hwb : Below w.heap.size w w := Below.refl _ _
  obtain ⟨ao, cc, rfl, hcc⟩ := hc
  obtain ⟨n, hn⟩ : ∃ n, n = ns.length := ⟨_, rfl⟩
  have HN := Lib.hid hn
  rw [← hn] at lc HC ⊢
  clear hm la za lb zb ha hb
  by_cases sx : shortF xs 40 = true
  case neg =>
    have s0 : shortF xs 40 = false := by simpa using sx
    rw [s0] at c1
    clear sx s0 na nb c2 hn hcc zc
    go_enter Tryd.func5, Tryd.ntmps5
    go_wp2_with fail
    refine (cA w hwb).mono ?_
    rintro e w1 ⟨rfl, hb1⟩
    go_wp2_with fail
    refine (c1 w1 hb1).mono ?_
    rintro e w1' ⟨rfl, rfl⟩
    go_wp2_with fail
    refine (cA w1 hb1).mono ?_
    rintro e w2 ⟨rfl, hb2⟩
    go_wp2_with fail
    go_ret
    exact ⟨rfl, hb1.trans (hb2.mono hb1.size)⟩
  have mx := shortF_small sx (by decide)
  have lx := (shortF_spec sx).1
  rw [sx] at c1
  by_cases sy : shortF ys 10 = true
  case neg =>
    have s0 : shortF ys 10 = false := by simpa using sy
    rw [s0] at c2
    clear sy s0 na nb mx lx sx hn hcc zc
    go_enter Tryd.func5, Tryd.ntmps5
    go_wp2_with fail
    refine (cA w hwb).mono ?_
    rintro e w1 ⟨rfl, hb1⟩
    go_wp2_with fail
    refine (c1 w1 hb1).mono ?_
    rintro e w1' ⟨rfl, rfl⟩
    go_wp2_with fail
    refine (c2 w1 hb1).mono ?_
    rintro e w1' ⟨rfl, rfl⟩
    go_wp2_with fail
    refine (cA w1 hb1).mono ?_
    rintro e w2 ⟨rfl, hb2⟩
    go_wp2_with fail
    go_ret
    exact ⟨rfl, hb1.trans (hb2.mono hb1.size)⟩
  have my := shortF_small sy (by decide)
  have ly := (shortF_spec sy).1
  rw [sy] at c2
  by_cases h10 : 10 < n
  · have b10 : (10 : Int) < (n : Int) := by omega
    clear na nb mx lx sx my ly sy h10 hn hcc zc
    go_enter Tryd.func5, Tryd.ntmps5
    go_wp2_with fail
    refine (cA w hwb).mono ?_
    rintro e w1 ⟨rfl, hb1⟩
    go_wp2_with fail
    refine (c1 w1 hb1).mono ?_
    rintro e w1' ⟨rfl, rfl⟩
    go_wp2_with fail
    refine (c2 w1 hb1).mono ?_
    rintro e w1' ⟨rfl, rfl⟩
    go_wp2_with fail
    refine (cA w1 hb1).mono ?_
    rintro e w2 ⟨rfl, hb2⟩
    go_wp2_with fail
    go_ret
    exact ⟨rfl, hb1.trans (hb2.mono hb1.size)⟩
  have b10 : ¬ (10 : Int) < (n : Int) := by omega
  have hn10 : n ≤ 10 := by omega
  have cWo := fun (v : Value) (w1 : World) (h : FIn w1 v xs) (hb : Below w.heap.size w w1) => Without_w v (.slice ao n cc) xs ns w1 h mx (HC.out.later hb) (by rw [← hn]; omega) zc
  rw [drop_all] at cWo
  have cWi := fun (v : Value) (w1 : World) (h : FIn w1 v xs) (nv : NilOk v) (hb : Below w.heap.size w w1) => With_w v vb xs ys w1 h (HB.out.later hb) nv nb mx my
  have cGe := fun (v : Value) (w1 : World) (nm : List UInt8) (hz : nm.length ≤ 500) (h : FIn w1 v xs) => Get_w v xs nm w1 h mx (by omega)
  have cO1 := fun (v : Value) (w1 : World) (nm l : List UInt8) (hz : nm.length ≤ 500) (h : FIn w1 v xs) (hg : Fld.get xs nm = [l]) => One_yes v xs nm l w1 h mx (by omega) hg
  have cO0 := fun (v : Value) (w1 : World) (nm : List UInt8) (hz : nm.length ≤ 500) (h : FIn w1 v xs) (hg : (Fld.get xs nm).length ≠ 1) => One_no v xs nm w1 h mx (by omega) hg
  have cRg := fun (v : Value) (w1 : World) (nm : List UInt8) (hz : nm.length ≤ 500) (h : FIn w1 v xs) => rGet_w v xs nm w1 h mx (by omega)
  have cRo := fun (v : Value) (w1 : World) (k : Nat) (nm : List UInt8) (hz : nm.length ≤ 500) (h : FIn w1 v (Fld.withoutAll xs (ns.take k))) => rWithout_w v _ nm w1 h (small_wo mx (ns.take k)) (by omega)
  have cRi := fun (v : Value) (w1 : World) (k : Nat) (m : Fld.F) (hz : m.1.length ≤ 1000000 ∧ m.2.length ≤ 1000000) (h : FIn w1 v (Fld.withAll xs (ys.take k))) => rWith_w v _ m w1 h (small_wi mx my (by omega) k) hz.1 hz.2
  have HMX := Lib.hid mx
  have HMY := Lib.hid my
  have HCC := Lib.hid hcc
  have HNB := Lib.hid nb
  have ka : ([] : List Fld.F).length + xs.length ≤ 1000000000 := by simp; omega
  have lx' : xs.length ≤ 1000000000 := by omega
  have lo : (Fld.withoutAll xs ns).length ≤ 1000000000 := Nat.le_trans (Fld.withoutAll_length ns xs) (by omega)
  have li : (Fld.withAll xs ys).length ≤ 1000000000 := by have := (Fld.withAll_bounds ys xs).1; omega
  clear sx sy h10 hn hcc mx my nb zc
  go_enter Tryd.func5, Tryd.ntmps5
  go_wp2_with fail
  refine (cA w hwb).mono ?_
  rintro e w1 ⟨rfl, hb1⟩
  go_wp2_with fail
  refine (c1 w1 hb1).mono ?_
  rintro e w1' ⟨rfl, rfl⟩
  go_wp2_with fail
  refine (c2 w1 hb1).mono ?_
  rintro e w1' ⟨rfl, rfl⟩
  have hE := FBuf.none_ w w1 hb1
  have hA1 := HA.out.later (hb1.trans ((Below.refl _ w1).alloc (Nat.le_refl _) (.cells #[] 49) |>.mono hb1.size))
  go_wp2_with (at_builtin; refine appFs hE hA1 na ka rfl _ _ rfl rfl rfl ?_; intro v2 w2 hB2; rw [List.nil_append] at hB2)
  refine (cWo v2 w2 hB2.fin hB2.2).mono ?_
  rintro e w3 ⟨v3, rfl, hB3⟩
  have hb3 := hB2.2.trans (hB3.2.mono hB2.2.size)
  have hI3 := hB2.after hB3.2
  go_wp2_with fail
  refine (cWi v2 w3 hI3.fin (row_nilok hI3.1) hb3).mono ?_
  rintro e w4 ⟨v4, rfl, hB4⟩
  have hb4 := hb3.trans (hB4.2.mono hb3.size)
  have hI4 := (hI3.after hB4.2).fin
  have hO4 := (hB3.after hB4.2).fin
  have hW4 := hB4.fin
  have hA4 := HA.out.later hb4
  clear hE hA1 hB2 hB3 hI3 hb3 hB4 cWo cWi cA c1 c2 hb1
  go_wp2_with fail
  go_loopw [10, 12] (fun v i wr => ∃ k : Nat, k ≤ n ∧ i = .int .i64 k ∧ FIn wr v (Fld.withoutAll xs (ns.take k)) ∧ Below w4.heap.size w4 wr) (fun _ i _ => n - (intOf i).toNat)
  case atStart => exact ⟨0, by omega, rfl, hA4, Below.refl _ _⟩
  case round =>
    obtain ⟨k, hk, rfl, hF, hbk⟩ := hrel
    have hbw := hb4.trans (hbk.mono hb4.size)
    by_cases hlt : k < n
    · have ka : k < ns.length := by have := HN.out; omega
      obtain ⟨b, o, hao, hbl, hcell⟩ := HCC.out.resolve_left (fun e => by rw [e] at ka; simp at ka)
      subst hao
      have e1 := (hbw.cell (p := ⟨b, o + k, none⟩) hbl).trans (hcell k ka)
      have HSN := Lib.hid (Fld.withoutAll_snoc xs ns k ka)
      have hsz : ((str ns[k]).size : Int) = (ns[k].length : Int) := by rw [str_size]
      obtain ⟨nm, hnm⟩ : ∃ nm, nm = ns[k] := ⟨_, rfl⟩
      rw [← hnm] at e1 hsz HSN
      clear hcell hnm
      by_cases h5 : 500 < nm.length
      · have b5 : (500 : Int) < (nm.length : Int) := by omega
        generalize str nm = s at e1 hsz
        clear h5 cRo cRi cRg cGe cO1 cO0
        go_wp2_with fail
        go_ret
        exact ⟨rfl, hbw⟩
      · have b5 : ¬ (500 : Int) < (nm.length : Int) := by omega
        have hz : nm.length ≤ 500 := by omega
        have d1 := fun w1 h => cRo u10 w1 k nm hz h
        have d2 := fun w1 h => cGe v2 w1 nm hz h
        have d3 := fun w1 h => cRg va w1 nm hz h
        have d4 := fun l w1 h hg => cO1 v2 w1 nm l hz h hg
        have d5 := fun w1 h hg => cO0 v2 w1 nm hz h hg
        have hgl : (Fld.get xs nm).length ≤ 100000000000 := by have := Fld.get_length xs nm; omega
        generalize str nm = s at e1 hsz d1 d2 d3 d4 d5
        clear h5 cRo cRi cRg cGe cO1 cO0
        have HI4 := Lib.hid (hI4.later hbk)
        have HA9 := Lib.hid (HA.out.later hbw)
        have hcl : Hid (∀ w', Below wr.heap.size wr w' → w'.cell? ⟨b, o + k, none⟩ = some (.string s)) := fun w' h => (h.cell (p := ⟨b, o + k, none⟩) (World.block_lt_of_cell? _ _ e1)).trans e1
        go_wp2_with fail
        refine (d1 wr hF).mono ?_
        rintro e w5 ⟨v5, rfl, hB5⟩
        rw [← HSN.out] at hB5
        have e5 := hcl.out w5 hB5.2
        have hb5 := hB5.2
        have HF5 := Lib.hid hB5.fin
        clear hB5 hF d1
        by_cases hg1 : (Fld.get xs nm).length = 1
        · obtain ⟨l, hg⟩ : ∃ l, Fld.get xs nm = [l] := List.length_eq_one_iff.1 hg1
          have d4' := fun w1 h => d4 l w1 h hg
          rw [hg] at d2 d3
          clear d4 d5 hg hg1 hgl
          generalize hly : str l = y at d4'
          go_wp2_with fail
          refine (d2 w5 (HI4.out.later hb5)).mono ?_
          rintro e w6 ⟨v6, rfl, hB6⟩
          have hb6 := hb5.trans (hB6.2.mono hb5.size)
          have e6 := hcl.out w6 hb6
          go_wp2_with fail
          refine (d4' w6 (HI4.out.later hb6)).mono ?_
          rintro e w7 ⟨rfl, hb67⟩
          have hb7 := hb6.trans (hb67.mono hb6.size)
          have e7 := hcl.out w7 hb7
          go_wp2_with fail
          refine (d3 w7 (HA9.out.later hb7)).mono ?_
          rintro e w8 ⟨v8, rfl, hB8⟩
          have hb8 := hb7.trans (hB8.2.mono hb7.size)
          have HF8 := Lib.hid (HF5.out.later (hB6.2.trans ((hb67.trans (hB8.2.mono hb67.size)).mono hB6.2.size)))
          have hS := Same_w v6 v8 [l] [l] w8 ((hB6.after (hb67.trans (hB8.2.mono hb67.size))).sin) hB8.sin (by show 1 ≤ 100000000000; omega) (by show 1 ≤ 100000000000; omega)
          rw [sameL_self] at hS
          obtain ⟨g8, k8, rfl, hc8⟩ := hB8.one
          rw [hly] at hc8
          clear hB6 hB8 d2 d3 d4' e1 e5 e6 e7 hb67 hly
          go_wp2_with fail
          refine hS.mono ?_
          rintro e w9 ⟨rfl, q, rfl⟩
          have hb9 : Below wr.heap.size wr (w8.drewN q) := hb8.trans ((bdrewN w8 q).mono hb8.size)
          have hF9 := HF8.out.later (bdrewN w8 q)
          go_wp2_with fail
          go_roundw
          case rel => exact ⟨k + 1, by omega, by go_num, hF9, hbk.trans (hb9.mono hbk.size)⟩
          case measure => simp [intOf]; omega
        · have b1 : (((Fld.get xs nm).length : Int) == 1) = false := beq_eq_false_iff_ne.2 (by omega)
          have d5' := fun w1 h => d5 w1 h hg1
          have hgl2 : (Fld.get xs nm).length ≤ 1000000 := by have := Fld.get_length xs nm; omega
          clear d4 d5 hg1
          generalize Fld.get xs nm = G at *
          go_wp2_with fail
          refine (d2 w5 (HI4.out.later hb5)).mono ?_
          rintro e w6 ⟨v6, rfl, hB6⟩
          have hb6 := hb5.trans (hB6.2.mono hb5.size)
          have e6 := hcl.out w6 hb6
          go_wp2_with fail
          refine (d5' w6 (HI4.out.later hb6)).mono ?_
          rintro e w7 ⟨rfl, hb67⟩
          have hb7 := hb6.trans (hb67.mono hb6.size)
          have e7 := hcl.out w7 hb7
          go_wp2_with fail
          refine (d3 w7 (HA9.out.later hb7)).mono ?_
          rintro e w8 ⟨v8, rfl, hB8⟩
          have hb8 := hb7.trans (hB8.2.mono hb7.size)
          have HF8 := Lib.hid (HF5.out.later (hB6.2.trans ((hb67.trans (hB8.2.mono hb67.size)).mono hB6.2.size)))
          have hS := Same_w v6 v8 G G w8 ((hB6.after (hb67.trans (hB8.2.mono hb67.size))).sin) hB8.sin hgl hgl
          rw [sameL_self] at hS
          obtain ⟨a8, k8, rfl, _⟩ := hB8.sin
          clear hB6 hB8 d2 d3 d5' e1 e5 e6 e7 hb67
          obtain ⟨M, hM⟩ : ∃ M, M = G.length := ⟨_, rfl⟩
          rw [← hM] at b1 hgl2 hS ⊢
          clear hM
          go_wp2_with fail
          refine hS.mono ?_
          rintro e w9 ⟨rfl, q, rfl⟩
          have hb9 : Below wr.heap.size wr (w8.drewN q) := hb8.trans ((bdrewN w8 q).mono hb8.size)
          have hF9 := HF8.out.later (bdrewN w8 q)
          generalize w8.drewN q = w9 at *
          go_wp2_with fail
          go_roundw
          case rel => exact ⟨k + 1, by omega, by go_num, hF9, hbk.trans (hb9.mono hbk.size)⟩
          case measure => simp [intOf]; omega
    · have hE := Fld.take_whole ns k (by have := HN.out; omega)
      rw [hE] at hF
      have HF := Lib.hid hF
      have HO := Lib.hid (hO4.later hbk)
      have HW := Lib.hid (hW4.later hbk)
      have HI := Lib.hid (hI4.later hbk)
      have HAr := Lib.hid (HA.out.later hbw)
      obtain ⟨ab, cb, hvb, hcb⟩ := HB.out
      obtain ⟨m, hm⟩ : ∃ m, m = ys.length := ⟨_, rfl⟩
      have HMM := Lib.hid hm
      have HCB := Lib.hid hcb
      rw [← hm] at hvb
      subst hvb
      have hm9 : m ≤ 10 := by omega
      clear hE hF cGe cO1 cO0 cRg cRo hcb hm
      go_wp2_with fail
      go_loopw [11, 17] (fun v i wx => ∃ j : Nat, j ≤ m ∧ i = .int .i64 j ∧ FIn wx v (Fld.withAll xs (ys.take j)) ∧ Below wr.heap.size wr wx) (fun _ i _ => m - (intOf i).toNat)
      case atStart => exact ⟨0, by omega, rfl, HAr.out, Below.refl _ _⟩
      case round =>
        obtain ⟨j, hj, rfl, hX, hbx⟩ := hrel
        have hbwx := hbw.trans (hbx.mono hbw.size)
        by_cases hjt : j < m
        · have ja : j < ys.length := by have := HMM.out; omega
          obtain ⟨bb, ob, hab, hbl, hcell⟩ := HCB.out.resolve_left (fun e => by rw [e] at ja; simp at ja)
          subst hab
          have e1 := (hbwx.cell (p := ⟨bb, ob + j * 2, none⟩) hbl).trans (hcell j ja).1
          have e2 := (hbwx.cell (p := ⟨bb, ob + j * 2 + 1, none⟩) hbl).trans (hcell j ja).2
          have HSN := Lib.hid (Fld.withAll_snoc xs ys j ja)
          have d1 := cRi u11 _ j ys[j] (HMY.out.at_ j ja) hX
          rw [← HSN.out] at d1
          unfold fval at d1
          generalize str ys[j].1 = x at e1 d1
          generalize str ys[j].2 = y at e2 d1
          clear hcell cRi
          go_wp2_with fail
          refine d1.mono ?_
          rintro e w5 ⟨v5, rfl, hB5⟩
          go_wp2_with fail
          go_roundw
          case rel => exact ⟨j + 1, by omega, by go_num, hB5.fin, hbx.trans (hB5.2.mono hbx.size)⟩
          case measure => simp [intOf]; omega
        · have hE := Fld.take_whole ys j (by have := HMM.out; omega)
          rw [hE] at hX
          have s1 := SameF_w v3 u10 _ _ _ (HO.out.later hbx) (HF.out.later hbx) lo
          rw [sameF_self] at s1
          have HX := Lib.hid hX
          clear hE cRi hX
          go_wp2_with fail
          refine s1.mono ?_
          rintro e w5 ⟨rfl, hb5⟩
          have hb5 := hbx.trans (hb5.mono hbx.size)
          have s2 := SameF_w v4 u11 _ _ w5 (HW.out.later hb5) (HX.out.later (by assumption)) li
          rw [sameF_self] at s2
          clear s1
          go_wp2_with fail
          refine s2.mono ?_
          rintro e w6 ⟨rfl, hb6⟩
          have hb6 := hb5.trans (hb6.mono hb5.size)
          have s3 := SameF_w v2 va _ _ w6 (HI.out.later hb6) (HAr.out.later hb6) lx'
          rw [sameF_self] at s3
          clear s2
          go_wp2_with fail
          refine s3.mono ?_
          rintro e w7 ⟨rfl, hb7⟩
          go_wp2_with fail
          go_ret
          exact ⟨rfl, hbw.trans ((hb6.trans (hb7.mono hb6.size)).mono hbw.size)⟩
end Go.Proofs.YtlekbnbdjahegaaDoor
