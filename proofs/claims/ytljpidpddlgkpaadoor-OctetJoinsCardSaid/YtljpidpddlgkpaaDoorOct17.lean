/- The statements of layer 1: the walk of OctetJoins. -/
import Derived.Test.YtljpidpddlgkpaaDoorOct16
import Derived.Test.YtljpidpddlgkpaaDoorOctMathF
namespace Go.Proofs.YtljpidpddlgkpaaDoor
open Go.RowKit

theorem rToken_eq (s : ByteArray) (t : Bool) (w : World) (hs : s.size ≤ 1000000) (h : Oct.token s.data.toList = t) : Calls Tryd.prog 11 #[.string s] w fun e w' => e = .returned (.bool t) ∧ Below w.heap.size w w' := by subst h; exact rToken_s s w hs
theorem Same_b (va vb : Value) (xs : List (List UInt8)) (w : World) (ha : SIn w va xs) (hb : SIn w vb xs) (hla : xs.length ≤ 100000000000) :
    Calls Tryd.prog 22 #[va, vb] w fun e w' => e = .returned (.bool true) ∧ Below w.heap.size w w' :=
  (Same_w va vb xs xs w ha hb hla hla).mono (by rw [sameL_self]; rintro e w' ⟨h, m, rfl⟩; exact ⟨h, below_drewN (Below.refl _ _) m⟩)
theorem Split_b (va : Value) (ls ms : List (List UInt8)) (w : World) (hv : SIn w va ls) (hn : ls.length ≤ 1000) (hl : ∀ l ∈ ls, l.length ≤ 1000000) (he : Oct.splitAll ls = ms) :
    Calls Tryd.prog 23 #[va] w fun e w' => ∃ v, e = .returned v ∧ SIn w' v ms ∧ Below w.heap.size w w' :=
  (Split_s va ls w hv hn hl).mono (by subst he; rintro e w' ⟨v, h, hown, hb⟩; exact ⟨v, h, SIn.of_row hown, hb⟩)

set_option maxHeartbeats 3200000 in
set_option maxRecDepth 100000 in
theorem joins_w (va : Value) (ls : List (List UInt8)) (c : Int) (w : World) (hv : SIn w va ls) (hbig : ls.length ≤ 9223372036854775807) (hl : ∀ l ∈ ls, l.length ≤ 9223372036854775807) :
    Calls Tryd.prog 6 #[va, .int .i64 c] w fun e w' => e = .returned (.bool true) ∧ Below w.heap.size w w' := by
  obtain ⟨ao, ca, rfl, hv⟩ := hv
  obtain ⟨n, hnn⟩ : ∃ n, n = ls.length := ⟨_, rfl⟩
  rw [← hnn] at hbig ⊢
  have HN := Lib.hid hnn
  by_cases h20 : (20 : Int) < n
  · clear hv hl hnn
    go_enter Tryd.func6, Tryd.ntmps6
    go_wp2_with fail
    refine (awake_w w).mono ?_
    rintro e w1 ⟨rfl, hb1⟩
    go_wp2_with fail
    refine (awake_w w1).mono ?_
    rintro e w2 ⟨rfl, hb2⟩
    go_wp2_with fail
    go_ret
    exact ⟨rfl, bt hb1 hb2⟩
  have hn20 : (n : Int) ≤ 20 := by omega
  have hn0 : ¬ (n : Int) + 1 = 0 := by omega
  clear h20 hbig
  by_cases h0 : n = 0
  · have HE : Hid (ls = []) := List.eq_nil_of_length_eq_zero (by rw [← hnn]; exact h0)
    clear hnn hv hl
    subst h0
    go_enter Tryd.func6, Tryd.ntmps6
    go_wp2_with fail
    refine (awake_w w).mono ?_
    rintro e w1 ⟨rfl, hb1⟩
    go_wp2_with fail
    refine wp_loop_rounds 1 ?_
    rw [rounds_succ]
    have hsi : SIn w1 (.slice none 0 0) [] := ⟨none, 0, rfl, .inl rfl⟩
    have hx1 := SIn.one w1 ((⟨#[]⟩ : ByteArray) ++ (⟨#[]⟩ : ByteArray)) _ (str_of _).symm
    have hbx1 : Below w1.heap.size w1 (w1.alloc (.cells #[.string ((⟨#[]⟩ : ByteArray) ++ (⟨#[]⟩ : ByteArray))] 9)) := (Below.refl _ _).alloc (Nat.le_refl _) _
    go_wp2_with fail
    refine (Split_b _ [((⟨#[]⟩ : ByteArray) ++ (⟨#[]⟩ : ByteArray)).data.toList] [] _ hx1 (by simp) (by decide) (Oct.join_one (a := []) Oct.JA.nil Oct.JB.nil)).mono ?_
    rintro e w2 ⟨v2, rfl, hs2, hb2⟩
    have hv2 := (hsi.later hbx1).later hb2
    have hB2 := bt (bt hb1 hbx1) hb2
    clear hx1 hbx1 hb2
    go_wp2_with fail
    refine (Same_b _ _ _ w2 hs2 hv2 (by decide)).mono ?_
    rintro e w3 ⟨rfl, hb3⟩
    have hv3 := hv2.later hb3
    have hB3 := bt hB2 hb3
    have hx2 := SIn.two w3 (⟨#[]⟩ : ByteArray) (⟨#[]⟩ : ByteArray) _ _ (str_of _).symm (str_of _).symm
    have hbx2 : Below w3.heap.size w3 (w3.alloc (.cells #[.string (⟨#[]⟩ : ByteArray), .string (⟨#[]⟩ : ByteArray)] 9)) := (Below.refl _ _).alloc (Nat.le_refl _) _
    clear hs2 hv2 hB2 hb3
    go_wp2_with fail
    refine (Split_b _ [((⟨#[]⟩ : ByteArray)).data.toList, (⟨#[]⟩ : ByteArray).data.toList] [] _ hx2 (by simp) (by decide) (Oct.join_two Oct.JA.nil Oct.JB.nil)).mono ?_
    rintro e w4 ⟨v4, rfl, hs4, hb4⟩
    have hv4 := (hv3.later hbx2).later hb4
    have hB4 := bt (bt hB3 hbx2) hb4
    clear hx2 hbx2 hb4 hv3 hB3
    go_wp2_with fail
    refine (Same_b _ _ _ w4 hs4 hv4 (by decide)).mono ?_
    rintro e w5 ⟨rfl, hb5⟩
    go_wp2_with fail
    go_ret
    exact ⟨rfl, bt hB4 hb5⟩
  obtain ⟨b, o, rfl, hb, hc⟩ := hv.resolve_left (fun e => h0 (by rw [hnn, e]; rfl))
  have HC : Hid (∀ j (hj : j < n), w.cell? ⟨b, o + j, none⟩ = some (.string (str (ls[j]'(HN.out ▸ hj))))) := fun j hj => hc j (HN.out ▸ hj)
  have HL := Lib.hid hl
  clear hc hv hnn h0 hl
  go_enter Tryd.func6, Tryd.ntmps6
  go_wp2_with fail
  refine (awake_w w).mono ?_
  rintro e w1 ⟨rfl, hb1⟩
  go_wp2_with fail
  generalize (wrap64 (wrap64 (c.tmod ((n : Int) + 1) + (n : Int)) + 1)).tmod ((n : Int) + 1) = K
  generalize wrap64 (wrap64 (c.tmod ((n : Int) + 1) + (n : Int)) + 1) = K1
  generalize wrap64 (c.tmod ((n : Int) + 1) + (n : Int)) = K2
  generalize c.tmod ((n : Int) + 1) = K3
  go_loopw [5, 6, 8, 9] (fun x y v i wr => ∃ (k : Nat) (a d : ByteArray) (V W : List (List UInt8)), k ≤ n ∧ x = .string a ∧ y = .string d ∧ i = .int .i64 k ∧ Hid (Oct.JA a.data.toList V) ∧ Hid (Oct.JB d.data.toList W) ∧ Hid ((k : Int) ≤ K → W = []) ∧ a.size ≤ 700 * k ∧ d.size ≤ 700 * k ∧ SBuf w wr v (V ++ W) ∧ (V ++ W).length ≤ k) (fun _ _ _ i _ => n - (intOf i).toNat)
  case atStart => exact ⟨0, ⟨#[]⟩, ⟨#[]⟩, [], [], by omega, rfl, rfl, rfl, Oct.JA.nil, Oct.JB.nil, fun _ => rfl, by decide, by decide, ⟨World.ownsRow_nil _ _ _ _, hb1⟩, by decide⟩
  case round =>
    obtain ⟨k, a, d, V, W, hk, rfl, rfl, rfl, HJA, HJB, HW, hsa, hsd, hS, hlen⟩ := hrel
    have hb1' := hS.2
    by_cases hlt : k < n
    · have hkl : k < ls.length := by have := HN.out; omega
      have hcell : wr.cell? ⟨b, o + k, none⟩ = some (.string (str ls[k])) := by
        rw [hb1'.cell (p := ⟨b, o + k, none⟩) hb]; exact HC.out k hlt
      have hml : (str ls[k]).size ≤ 9223372036854775807 := by rw [str_size]; exact HL.out _ (List.getElem_mem hkl)
      generalize str ls[k] = X at hcell hml
      by_cases hg : (300 : Int) < X.size
      · go_wp2_with fail
        go_ret
        exact ⟨rfl, hb1'⟩
      have hg' : (X.size : Int) ≤ 300 := by omega
      have hx6 : X.size ≤ 1000000 := by omega
      clear hg hml
      have hlen2 : (V ++ W).length ≤ 100000000000 := by omega
      cases htk : Oct.token X.data.toList with
      | true =>
        have HTK := Lib.hid htk
        have HAt : Hid (Oct.Atom X.data.toList) := .inl htk
        clear htk
        by_cases hik : (k : Int) < K
        · go_wp2_with fail
          refine (rToken_eq X true wr hx6 HTK.out).mono ?_
          rintro e w2 ⟨rfl, hb2⟩
          have hS2 := hS.after hb2
          go_wp2_with (at_builtin; refine appS hS2 X.data.toList hlen2 rfl _ _ rfl X (str_of _).symm rfl rfl ?_; intro v4 w4 hP4 _)
          have hW0 : W = [] := HW.out (by omega)
          go_roundw
          case rel => exact ⟨k + 1, _, d, V ++ [X.data.toList], W, by omega, rfl, rfl, by go_num, by rw [app_list, app_list]; exact HJA.out.add HAt.out, HJB, fun _ => hW0, by rw [ByteArray.size_append, ByteArray.size_append]; show _ + (_ + 5) ≤ _; omega, by omega, by rw [hW0] at hP4 ⊢; simpa using hP4, by rw [hW0] at hlen ⊢; simp at hlen ⊢; omega⟩
          case measure => simp [intOf]; omega
        · have hik' : K ≤ (k : Int) := by omega
          go_wp2_with fail
          refine (rToken_eq X true wr hx6 HTK.out).mono ?_
          rintro e w2 ⟨rfl, hb2⟩
          have hS2 := hS.after hb2
          go_wp2_with (at_builtin; refine appS hS2 X.data.toList hlen2 rfl _ _ rfl X (str_of _).symm rfl rfl ?_; intro v4 w4 hP4 _)
          go_roundw
          case rel => exact ⟨k + 1, a, _, V, W ++ [X.data.toList], by omega, rfl, rfl, by go_num, HJA, by rw [app_list, app_list]; exact HJB.out.add HAt.out, fun h => absurd h (by omega), by omega, by rw [ByteArray.size_append, ByteArray.size_append]; show _ + (2 + _) ≤ _; omega, by rw [← List.append_assoc]; exact hP4, by rw [← List.append_assoc, List.length_append, List.length_singleton]; omega⟩
          case measure => simp [intOf]; omega
      | false =>
        have HTK := Lib.hid htk
        clear htk
        cases hpl : Oct.allOf Oct.plain X.data.toList with
        | false =>
          have HPL := Lib.hid hpl
          clear hpl
          go_wp2_with fail
          refine (rToken_eq X false wr hx6 HTK.out).mono ?_
          rintro e w2 ⟨rfl, hb2⟩
          go_wp2_with fail
          refine (Quote_no X w2 hx6 HPL.out).mono ?_
          rintro e w3 ⟨rfl, hb3⟩
          go_wp2_with fail
          go_ret
          exact ⟨rfl, (hb1'.trans (hb2.mono hb1'.size)).trans (hb3.mono (Nat.le_trans hb1'.size hb2.size))⟩
        | true =>
          have HPL := Lib.hid hpl
          clear hpl
          obtain ⟨q, hq⟩ : ∃ q, str (Oct.quote X.data.toList) = q := ⟨_, rfl⟩
          have hqs : q.size ≤ 602 := by
            rw [← hq, str_size]; have := Oct.quote_len X.data.toList; rw [Oct.length_size] at this; omega
          have HQ := Lib.hid hq
          have HAt : Hid (Oct.Atom q.data.toList) := .inr ⟨X.data.toList, HPL.out, by rw [← hq, str_list]⟩
          clear hq
          by_cases hik : (k : Int) < K
          · go_wp2_with fail
            refine (rToken_eq X false wr hx6 HTK.out).mono ?_
            rintro e w2 ⟨rfl, hb2⟩
            go_wp2_with fail
            refine (Quote_is X q w2 hx6 HPL.out HQ.out).mono ?_
            rintro e w3 ⟨rfl, hb3⟩
            have hS2 := (hS.after hb2).after hb3
            go_wp2_with (at_builtin; refine appS hS2 q.data.toList hlen2 rfl _ _ rfl q (str_of _).symm rfl rfl ?_; intro v4 w4 hP4 _)
            have hW0 : W = [] := HW.out (by omega)
            go_roundw
            case rel => exact ⟨k + 1, _, d, V ++ [q.data.toList], W, by omega, rfl, rfl, by go_num, by rw [app_list, app_list]; exact HJA.out.add HAt.out, HJB, fun _ => hW0, by rw [ByteArray.size_append, ByteArray.size_append]; show _ + (_ + 5) ≤ _; omega, by omega, by rw [hW0] at hP4 ⊢; simpa using hP4, by rw [hW0] at hlen ⊢; simp at hlen ⊢; omega⟩
            case measure => simp [intOf]; omega
          · have hik' : K ≤ (k : Int) := by omega
            go_wp2_with fail
            refine (rToken_eq X false wr hx6 HTK.out).mono ?_
            rintro e w2 ⟨rfl, hb2⟩
            go_wp2_with fail
            refine (Quote_is X q w2 hx6 HPL.out HQ.out).mono ?_
            rintro e w3 ⟨rfl, hb3⟩
            have hS2 := (hS.after hb2).after hb3
            go_wp2_with (at_builtin; refine appS hS2 q.data.toList hlen2 rfl _ _ rfl q (str_of _).symm rfl rfl ?_; intro v4 w4 hP4 _)
            go_roundw
            case rel => exact ⟨k + 1, a, _, V, W ++ [q.data.toList], by omega, rfl, rfl, by go_num, HJA, by rw [app_list, app_list]; exact HJB.out.add HAt.out, fun h => absurd h (by omega), by omega, by rw [ByteArray.size_append, ByteArray.size_append]; show _ + (2 + _) ≤ _; omega, by rw [← List.append_assoc]; exact hP4, by rw [← List.append_assoc, List.length_append, List.length_singleton]; omega⟩
            case measure => simp [intOf]; omega
    · have hT1 : Hid (∀ l ∈ [(a ++ d).data.toList], l.length ≤ 1000000) := fun l hl => by
        simp only [List.mem_singleton] at hl
        rw [hl, Oct.length_size, ByteArray.size_append]; omega
      have hT2 : Hid (∀ l ∈ [a.data.toList, d.data.toList], l.length ≤ 1000000) := fun l hl => by
        simp only [List.mem_cons, List.mem_nil_iff, or_false] at hl
        rcases hl with rfl | rfl <;> rw [Oct.length_size] <;> omega
      have hJ1 : Hid (Oct.splitAll [(a ++ d).data.toList] = V ++ W) := by rw [app_list]; exact Oct.join_one HJA.out HJB.out
      have hJ2 : Hid (Oct.splitAll [a.data.toList, d.data.toList] = V ++ W) := Oct.join_two HJA.out HJB.out
      have hW : (V ++ W).length ≤ 100000000000 := by omega
      have hsi := hS.sin
      clear hS
      have hx1 := SIn.one wr (a ++ d) _ (str_of _).symm
      have hbx1 : Below wr.heap.size wr (wr.alloc (.cells #[.string (a ++ d)] 9)) := (Below.refl _ _).alloc (Nat.le_refl _) _
      go_wp2_with fail
      refine (Split_b _ [(a ++ d).data.toList] (V ++ W) _ hx1 (by simp) hT1.out hJ1.out).mono ?_
      rintro e w2 ⟨v2, rfl, hs2, hb2⟩
      have hv2 := (hsi.later hbx1).later hb2
      have hB2 := bt (bt hb1' hbx1) hb2
      clear hx1 hbx1 hb2
      go_wp2_with fail
      refine (Same_b _ _ _ w2 hs2 hv2 hW).mono ?_
      rintro e w3 ⟨rfl, hb3⟩
      have hv3 := hv2.later hb3
      have hB3 := bt hB2 hb3
      have hx2 := SIn.two w3 a d _ _ (str_of _).symm (str_of _).symm
      have hbx2 : Below w3.heap.size w3 (w3.alloc (.cells #[.string a, .string d] 9)) := (Below.refl _ _).alloc (Nat.le_refl _) _
      clear hs2 hv2 hB2 hb3
      go_wp2_with fail
      refine (Split_b _ [(a).data.toList, d.data.toList] (V ++ W) _ hx2 (by simp) hT2.out hJ2.out).mono ?_
      rintro e w4 ⟨v4, rfl, hs4, hb4⟩
      have hv4 := (hv3.later hbx2).later hb4
      have hB4 := bt (bt hB3 hbx2) hb4
      clear hx2 hbx2 hb4 hv3 hB3
      go_wp2_with fail
      refine (Same_b _ _ _ w4 hs4 hv4 hW).mono ?_
      rintro e w5 ⟨rfl, hb5⟩
      go_wp2_with fail
      go_ret
      exact ⟨rfl, bt hB4 hb5⟩

end Go.Proofs.YtljpidpddlgkpaaDoor
