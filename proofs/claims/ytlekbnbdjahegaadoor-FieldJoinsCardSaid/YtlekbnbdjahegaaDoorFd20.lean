/- The statements of layer 3: FieldJoins. -/
import Derived.Test.YtlekbnbdjahegaaDoorFd16
namespace Go.Proofs.YtlekbnbdjahegaaDoor
open Go.RowKit

theorem strCells_one' (ls : List (List UInt8)) : ∀ u ∈ strCells ls, u.oneCell' = true := by
  intro u hu
  unfold strCells at hu
  obtain ⟨l, _, rfl⟩ := List.mem_map.1 hu
  rfl
theorem strCells_append (a b : List (List UInt8)) : strCells (a ++ b) = strCells a ++ strCells b := by unfold strCells; rw [List.map_append]
/-- 'append(ss, ts..)'. -/
theorem appSs {ops : Array Oper} {rest : List Oper} {o : Oper} {a : Act} {Q : Exit → Act → World → Prop} {W w : World} {v u : Value} {ls ms : List (List UInt8)} (h : SBuf W w v ls) (hu : SIn w u ms) (hnil : NilOk u) (hlen : ls.length + ms.length ≤ 1000000000)
    (hgd : o.guard = none) (s x : Operand) (ho : o.op = .call { callee := .builtin .append, args := #[s, x], argTypes := #[39, 39] })
    (hs : a.eval s = v) (hx : a.eval x = u)
    (hK : ∀ v' w', SBuf W w' v' (ls ++ ms) → wpList Tryd.prog ops Q rest (a.put o.dst v') w') : wpList Tryd.prog ops Q (o :: rest) a w := by
  obtain ⟨i0, hi, hz0, hz1, hz2⟩ := info_parts strs_info
  obtain ⟨ao, cap, rfl, hg⟩ := hu
  cases ao with
  | none =>
    have h0 : ms = [] := by
      rcases hg with h | ⟨b, o, h, _⟩
      · exact h
      · cases h
    subst h0
    obtain rfl : cap = 0 := hnil cap rfl
    refine wpList_append_own_none hgd s x _ ho W.heap.size 9 i0 1 Tryd.underlying39 hi v ls.length (strCells ls) hs h.1 hx ?_
    have := hK v w
    rw [List.append_nil] at this
    exact this h
  | some ad =>
    refine wpList_append_own _ hgd s x _ ho W.heap.size 9 i0 _ 1 16 Tryd.underlying39 hi hz0 hz1 hz2 rfl (by decide) v ls.length (strCells ls) hs h.1 ad ms.length cap (strCells ms) hx (by rw [strCells_length, Nat.mul_one]) ?_ (strCells_one' ms) (by unfold maxLen; omega) (by omega) h.2.size (fun v' w' h1 h2 _ => ?_)
    · intro j c hj
      have hjl : j < ms.length := by
        have := (List.getElem?_eq_some_iff.1 hj).1
        rw [strCells_length] at this; exact this
      rcases hg with h | ⟨b, o, h, hb, hc⟩
      · subst h; simp at hjl
      · cases h
        rw [Addr.add_lit, hc j hjl, ← hj]
        unfold strCells; rw [List.getElem?_map, List.getElem?_eq_getElem hjl]; rfl
    · refine hK v' w' ⟨?_, h.2.grown h2 h.2.size (fun k hk => (h.1.lt k hk).1)⟩
      rw [strCells_append, List.length_append]; exact h1
theorem sin_twice (w : World) (l : List UInt8) : SIn (w.alloc (.cells #[.string (str l), .string (str l)] 9)) (.slice (some ⟨w.heap.size, 0, none⟩) 2 2) [l, l] := by
  refine ⟨_, 2, rfl, .inr ⟨w.heap.size, 0, rfl, by simp, fun j hj => ?_⟩⟩
  match j, hj with
  | 0, _ => show (w.alloc _).cell? ⟨w.heap.size, 0 + 0, none⟩ = _; rw [World.cell?_alloc_at _ _ _ _ rfl]; rfl
  | 1, _ => show (w.alloc _).cell? ⟨w.heap.size, 0 + 1, none⟩ = _; rw [World.cell?_alloc_at _ _ _ _ rfl]; rfl
theorem drop_one (fs : List Fld.F) (n : List UInt8) : Fld.drop fs (inSet [n]) = Fld.without fs n := by
  rw [Fld.without_drop]; congr 1; funext l; exact inSet_one n l
theorem drop_twice (fs : List Fld.F) (n : List UInt8) : Fld.drop fs (inSet [n, n]) = Fld.without fs n := by
  rw [Fld.without_drop]; congr 1; funext l; unfold inSet; rw [List.map_cons, List.contains_cons]; simp
theorem small_append {a b : List Fld.F} (ha : Small a) (hb : Small b) (h : a.length + b.length ≤ 1000000) : Small (a ++ b) :=
  ⟨by rw [List.length_append]; exact h, fun f hf => (List.mem_append.1 hf).elim (ha.2 f) (hb.2 f)⟩
theorem small_without {a : List Fld.F} (ha : Small a) (n : List UInt8) : Small (Fld.without a n) := by
  rw [Fld.without_drop]
  exact ⟨Nat.le_trans (Fld.drop_length _ _) ha.1, fun f hf => ha.2 f (Fld.drop_sub hf)⟩

set_option maxHeartbeats 3200000 in
set_option maxRecDepth 100000 in
theorem joins_w (va : Value) (xs : List Fld.F) (vb : Value) (ys : List Fld.F) (s : ByteArray) (w : World) (ha : FIn w va xs) (na : NilOk va) (la : xs.length ≤ 9223372036854775807) (za : ∀ f ∈ xs, f.1.length ≤ 9223372036854775807 ∧ f.2.length ≤ 9223372036854775807)
    (hb : FIn w vb ys) (nb : NilOk vb) (lb : ys.length ≤ 9223372036854775807) (zb : ∀ f ∈ ys, f.1.length ≤ 9223372036854775807 ∧ f.2.length ≤ 9223372036854775807) (hs : s.size ≤ 9223372036854775807) (hm : MaxOk w) :
    Calls Tryd.prog 7 #[va, vb, .string s] w fun e w' => e = .returned (.bool true) ∧ Below w.heap.size w w' := by
  have HA := Lib.hid ha
  have HB := Lib.hid hb
  have cA := fun (w1 : World) (hb : Below w.heap.size w w1) => awake_w w1 (hm.later hb)
  have c1 := fun (w1 : World) (hb : Below w.heap.size w w1) => short_w va xs 20 w1 (ha.later hb) (by decide) la za
  have c2 := fun (w1 : World) (hb' : Below w.heap.size w w1) => short_w vb ys 20 w1 (hb.later hb') (by decide) lb zb
  have hwb : Below w.heap.size w w := Below.refl _ _
  clear hm la za lb zb
  by_cases sx : shortF xs 20 = true
  case neg =>
    have s0 : shortF xs 20 = false := by simpa using sx
    rw [s0] at c1
    clear sx s0 na nb ha hb c2
    go_enter Tryd.func7, Tryd.ntmps7
    go_wp2_with fail
    refine (cA w hwb).mono ?_
    rintro e w1 ⟨rfl, hb1⟩
    go_wp2_with (go_at_call 12; refine (c1 w1 hb1).mono ?_; rintro e w1' ⟨rfl, rfl⟩)
    refine (cA w1 hb1).mono ?_
    rintro e w2 ⟨rfl, hb2⟩
    go_wp2_with fail
    go_ret
    exact ⟨rfl, hb1.trans (hb2.mono hb1.size)⟩
  have mx := shortF_small sx (by decide)
  have lx := (shortF_spec sx).1
  rw [sx] at c1
  by_cases sy : shortF ys 20 = true
  case neg =>
    have s0 : shortF ys 20 = false := by simpa using sy
    rw [s0] at c2
    clear sy s0 na nb ha hb mx lx sx
    go_enter Tryd.func7, Tryd.ntmps7
    go_wp2_with fail
    refine (cA w hwb).mono ?_
    rintro e w1 ⟨rfl, hb1⟩
    go_wp2_with fail
    refine (c1 w1 hb1).mono ?_
    rintro e w1' ⟨rfl, rfl⟩
    go_wp2_with fail
    refine (c2 w1 hb1).mono ?_
    rintro e w1' ⟨rfl, rfl⟩
    go_wp2_with fail
    refine (cA w1 hb1).mono ?_
    rintro e w2 ⟨rfl, hb2⟩
    go_wp2_with fail
    go_ret
    exact ⟨rfl, hb1.trans (hb2.mono hb1.size)⟩
  have my := shortF_small sy (by decide)
  have ly := (shortF_spec sy).1
  rw [sy] at c2
  by_cases h3 : 300 < s.size
  · have b3 : (300 : Int) < (s.size : Int) := by omega
    clear na nb ha hb mx lx sx my ly sy h3
    go_enter Tryd.func7, Tryd.ntmps7
    go_wp2_with fail
    refine (cA w hwb).mono ?_
    rintro e w1 ⟨rfl, hb1⟩
    go_wp2_with fail
    refine (c1 w1 hb1).mono ?_
    rintro e w1' ⟨rfl, rfl⟩
    go_wp2_with fail
    refine (c2 w1 hb1).mono ?_
    rintro e w1' ⟨rfl, rfl⟩
    go_wp2_with fail
    refine (cA w1 hb1).mono ?_
    rintro e w2 ⟨rfl, hb2⟩
    go_wp2_with fail
    go_ret
    exact ⟨rfl, hb1.trans (hb2.mono hb1.size)⟩
  have b3 : ¬ (300 : Int) < (s.size : Int) := by omega
  obtain ⟨nm, hnm⟩ : ∃ nm, nm = s.data.toList := ⟨_, rfl⟩
  have hse : s = str nm := by rw [hnm, str_of]
  have hnl : nm.length ≤ 9223372036854775807 := by rw [hnm, Oct.length_size]; exact hs
  have mA : Small (xs ++ ys) := small_append mx my (by omega)
  have cGx := fun (w1 : World) (hb : Below w.heap.size w w1) => Get_w va xs nm w1 (HA.out.later hb) mx hnl
  have cGy := fun (w1 : World) (hb : Below w.heap.size w w1) => Get_w vb ys nm w1 (HB.out.later hb) my hnl
  have cGa := fun (v : Value) (w1 : World) (h : FIn w1 v (xs ++ ys)) => Get_w v (xs ++ ys) nm w1 h mA hnl
  have cGw := fun (v : Value) (w1 : World) (h : FIn w1 v (Fld.without (xs ++ ys) nm)) => Get_w v _ nm w1 h (small_without mA nm) hnl
  have cW2 := fun (v : Value) (w1 : World) (h : FIn w1 v (xs ++ ys)) => Without_w v _ (xs ++ ys) [nm, nm] (w1.alloc (.cells #[.string (str nm), .string (str nm)] 9)) (h.later ((Below.refl _ w1).alloc (Nat.le_refl _) _)) mA (sin_twice w1 nm) (by show 2 ≤ 1000000; omega) (fun l hl => by simp at hl; subst hl; exact hnl)
  have cW1 := fun (v : Value) (w1 : World) (h : FIn w1 v (Fld.without (xs ++ ys) nm)) => Without_w v _ (Fld.without (xs ++ ys) nm) [nm] (w1.alloc (.cells #[.string (str nm)] 9)) (h.later ((Below.refl _ w1).alloc (Nat.le_refl _) _)) (small_without mA nm) (sin_one w1 (str nm) nm rfl) (by show 1 ≤ 1000000; omega) (fun l hl => by simp at hl; subst hl; exact hnl)
  rw [drop_twice] at cW2
  rw [drop_one, Fld.without_without] at cW1
  rw [Fld.get_without] at cGw
  have hga := Fld.get_append xs ys nm
  rw [hga] at cGa
  have hwl := Fld.without_length (xs ++ ys) nm
  rw [hga] at hwl
  rw [← hse] at cGx cGy cGa cGw cW2 cW1
  have gx := Fld.get_length xs nm
  have gy := Fld.get_length ys nm
  have hlA : (xs ++ ys).length ≤ 40 := by rw [List.length_append]; omega
  have ka : ([] : List Fld.F).length + xs.length ≤ 1000000000 := by simp; omega
  have kb : ([] ++ xs : List Fld.F).length + ys.length ≤ 1000000000 := by simp; omega
  obtain ⟨GX, hGX⟩ : ∃ GX, GX = Fld.get xs nm := ⟨_, rfl⟩
  obtain ⟨GY, hGY⟩ : ∃ GY, GY = Fld.get ys nm := ⟨_, rfl⟩
  rw [← hGX] at cGx cGa hwl gx
  rw [← hGY] at cGy cGa hwl gy
  obtain ⟨WO, hWO⟩ : ∃ WO, WO = Fld.without (xs ++ ys) nm := ⟨_, rfl⟩
  rw [← hWO] at cGw cW2 cW1 hwl
  have kx : ([] : List (List UInt8)).length + GX.length ≤ 1000000000 := by simp; omega
  have ky : ([] ++ GX : List (List UInt8)).length + GY.length ≤ 1000000000 := by simp; omega
  clear hGX hGY hWO hga hse hnm hnl mA mx my sx sy h3 lx ly ha hb
  go_enter Tryd.func7, Tryd.ntmps7
  go_wp2_with fail
  refine (cA w hwb).mono ?_
  rintro e w1 ⟨rfl, hb1⟩
  go_wp2_with fail
  refine (c1 w1 hb1).mono ?_
  rintro e w1' ⟨rfl, rfl⟩
  go_wp2_with fail
  refine (c2 w1 hb1).mono ?_
  rintro e w1' ⟨rfl, rfl⟩
  have hE := FBuf.none_ w w1 hb1
  have hA1 := HA.out.later (hb1.trans ((Below.refl _ w1).alloc (Nat.le_refl _) (.cells #[] 49) |>.mono hb1.size))
  go_wp2_with (first
    | (at_builtin; refine appFs hE hA1 na ka rfl _ _ rfl rfl rfl ?_; intro v2 w2 hB2; have hB2' := HB.out.later hB2.2)
    | (at_builtin; refine appFs hB2 hB2' nb kb rfl _ _ rfl rfl rfl ?_; intro v3 w3 hB3; rw [List.nil_append] at hB3))
  have hS := SBuf.none_ w3 w3 (Below.refl _ _)
  have ha3 : Below w3.heap.size w3 (w3.alloc (.cells #[] 9)) := (Below.refl _ w3).alloc (Nat.le_refl _) _
  have hb3 := hB3.2
  clear hB2 hB2' hA1 hE cA c1 c2
  refine (cGx _ (hb3.trans (ha3.mono hb3.size))).mono ?_
  rintro e w4 ⟨v4, rfl, hB4⟩
  have hS4 := hS.after hB4.2
  go_wp2_with (at_builtin; refine appSs hS4 hB4.sin (row_nilok hB4.1) kx rfl _ _ rfl rfl rfl ?_; intro v5 w5 hB5)
  have hb5 := hb3.trans (hB5.2.mono hb3.size)
  refine (cGy _ hb5).mono ?_
  rintro e w6 ⟨v6, rfl, hB6⟩
  have hS6 := hB5.after hB6.2
  go_wp2_with (at_builtin; refine appSs hS6 hB6.sin (row_nilok hB6.1) ky rfl _ _ rfl rfl rfl ?_; intro v7 w7 hB7; rw [List.nil_append] at hB7)
  have hF7 := hB3.after hB7.2
  refine (cW2 v3 w7 hF7.fin).mono ?_
  rintro e w8 ⟨v8, rfl, hB8⟩
  have hb8 : Below w7.heap.size w7 w8 := ((Below.refl _ w7).alloc (Nat.le_refl _) _).trans (hB8.2.mono (by simp))
  have hF8 := hF7.after hb8
  have hX8 := hB7.after hb8
  have hW8 : FIn w8 v8 WO := hB8.fin
  clear hS hS4 hS6 hB4 hB5 hB6 hF7 hB7 cGx cGy cW2 hB8
  go_wp2_with fail
  refine (cGa v3 w8 hF8.fin).mono ?_
  rintro e w9 ⟨v9, rfl, hB9⟩
  have hX9 := hX8.after hB9.2
  have hs9 := Same_w v9 v7 _ _ w9 hB9.sin hX9.sin (by rw [List.length_append]; omega) (by rw [List.length_append]; omega)
  rw [sameL_self] at hs9
  go_wp2_with fail
  refine hs9.mono ?_
  rintro e w10 ⟨rfl, q, rfl⟩
  have hb10 : Below w8.heap.size w8 (w9.drewN q) := hB9.2.trans ((bdrewN w9 q).mono hB9.2.size)
  clear hs9 hB9 hX9
  generalize w9.drewN q = w10 at *
  go_wp2_with fail
  refine (cGw v8 w10 (hW8.later hb10)).mono ?_
  rintro e w11 ⟨v11, rfl, hB11⟩
  have hb11 : Below w8.heap.size w8 w11 := hb10.trans (hB11.2.mono hb10.size)
  have hF11 := hF8.after hb11
  have hW11 := hW8.later hb11
  have hX11 := (hX8.after hb11).sin
  obtain ⟨a11, k11, hv11, _⟩ := hB11.sin
  have hbw : Below w.heap.size w w11 := hF11.2
  have hF11' := hF11.fin
  clear hB11 hF8 hX8 hW8 hF11 hb3 hB3
  obtain ⟨N8, hN8⟩ : ∃ N, N = WO.length := ⟨_, rfl⟩
  obtain ⟨N3, hN3⟩ : ∃ N, N = (xs ++ ys).length := ⟨_, rfl⟩
  obtain ⟨N7, hN7⟩ : ∃ N, N = (GX ++ GY).length := ⟨_, rfl⟩
  have HW := Lib.hid hW11
  obtain ⟨a8, k8, hv8, _⟩ := hW11
  obtain ⟨a3, k3, hv3, _⟩ := hF11'
  obtain ⟨a7, k7, hv7, _⟩ := hX11
  rw [← hN8] at hv8 hwl
  rw [← hN3] at hv3 hwl hlA
  rw [← hN7] at hv7 hwl
  have HN8 := Lib.hid hN8
  have e8 : (N3 : Int) - (N7 : Int) = (N8 : Int) := by omega
  have hN3' : N3 ≤ 40 := hlA
  have hN7' : N7 ≤ N3 := by omega
  subst hv8 hv3 hv7 hv11
  have cw := cW1 (.slice a8 N8 k8) w11 HW.out
  clear hN8 hN3 hN7 cW1 cGa cGw hwl hlA
  go_wp2_with fail
  refine cw.mono ?_
  rintro e w12 ⟨v12, rfl, hB12⟩
  have hb12 : Below w11.heap.size w11 w12 := ((Below.refl _ w11).alloc (Nat.le_refl _) _).trans (hB12.2.mono (by simp))
  have hs12 := SameF_w v12 (.slice a8 N8 k8) WO WO w12 hB12.fin (HW.out.later hb12) (by rw [← HN8.out]; omega)
  rw [sameF_self] at hs12
  have hbz := hbw.trans (hb12.mono hbw.size)
  clear cw hB12 HW
  go_wp2_with fail
  refine hs12.mono ?_
  rintro e w13 ⟨rfl, hb13⟩
  go_wp2_with fail
  go_ret
  exact ⟨rfl, hbz.trans (hb13.mono hbz.size)⟩
end Go.Proofs.YtlekbnbdjahegaaDoor
