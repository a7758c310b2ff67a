/- Package field: the only value; the others; and the document's own answers on names. -/
import Derived.Test.YtlekbnbdjahegaaDoorFd7
import Derived.Test.YtlekbnbdjahegaaDoorFdMathD
namespace Go.Proofs.YtlekbnbdjahegaaDoor
open Go.RowKit

theorem SBuf.one {W w : World} {v : Value} {l : List UInt8} (h : SBuf W w v [l]) : ∃ g cap, v = .slice (some ⟨g, 0, none⟩) 1 cap ∧ w.cell? ⟨g, 0, none⟩ = some (.string (str l)) := by
  obtain ⟨b, o, cap, rfl, hc⟩ := h.sin.at_ (by simp)
  rcases h.1.2 with ⟨hv, _⟩ | ⟨g, cap', cur, hv, _⟩
  · cases hv
  · injection hv with h1 h2 h3
    injection h1 with h1
    injection h1 with h4 h5
    subst h4 h5
    have := hc w (Below.refl _ _) 0 (by simp)
    exact ⟨b, cap, rfl, by simpa using this⟩

set_option maxHeartbeats 800000 in
theorem One_yes (va : Value) (xs : List Fld.F) (nm l : List UInt8) (w : World) (ha : FIn w va xs) (hs : Small xs) (hn1 : nm.length ≤ 9223372036854775807) (hg : Fld.get xs nm = [l]) :
    Calls Tryd.prog 21 #[va, .string (str nm)] w fun e w' => e = .returned (.tuple #[.string (str l), .bool true]) ∧ Below w.heap.size w w' := by
  have cG := Get_w va xs nm w ha hs hn1
  rw [hg] at cG
  generalize str nm = sn at cG
  generalize hl : str l = y
  obtain ⟨ao, ca, rfl, _⟩ := ha
  clear hs hn1 hg
  go_enter Tryd.func21, Tryd.ntmps21
  go_wp2_with fail
  refine cG.mono ?_
  rintro e w1 ⟨v, rfl, hB⟩
  obtain ⟨g, cap, rfl, hc⟩ := hB.one
  rw [hl] at hc
  have hb := hB.2
  clear hB hl
  go_wp2_with fail
  go_ret2
  exact ⟨rfl, hb⟩
set_option maxHeartbeats 800000 in
theorem One_no (va : Value) (xs : List Fld.F) (nm : List UInt8) (w : World) (ha : FIn w va xs) (hs : Small xs) (hn1 : nm.length ≤ 9223372036854775807) (hg : (Fld.get xs nm).length ≠ 1) :
    Calls Tryd.prog 21 #[va, .string (str nm)] w fun e w' => e = .returned (.tuple #[.string ⟨#[]⟩, .bool false]) ∧ Below w.heap.size w w' := by
  have cG := Get_w va xs nm w ha hs hn1
  generalize str nm = sn at cG
  have hl := Fld.get_length xs nm
  have hxl := hs.1
  generalize Fld.get xs nm = ls at *
  obtain ⟨ao, ca, rfl, _⟩ := ha
  have b1 : ((ls.length : Int) != 1) = true := by rw [bne, beq_eq_false_iff_ne.2 (by omega)]; rfl
  have hl9 : ls.length ≤ 1000000 := by omega
  clear hs hn1 hg hl hxl
  go_enter Tryd.func21, Tryd.ntmps21
  go_wp2_with fail
  refine cG.mono ?_
  rintro e w1 ⟨v, rfl, hB⟩
  obtain ⟨ao, cap, rfl, _⟩ := hB.sin
  have hb := hB.2
  clear hB
  go_wp2_with fail
  go_ret2
  exact ⟨rfl, hb⟩

set_option maxHeartbeats 1600000 in
set_option maxRecDepth 100000 in
theorem Without_w (va vb : Value) (xs : List Fld.F) (ls : List (List UInt8)) (w : World) (ha : FIn w va xs) (hs : Small xs) (hvb : SIn w vb ls) (hl : ls.length ≤ 1000000) (hsz : ∀ l ∈ ls, l.length ≤ 9223372036854775807) :
    Calls Tryd.prog 17 #[va, vb] w fun e w' => ∃ v, e = .returned v ∧ FBuf w w' v (Fld.drop xs (inSet ls)) := by
  have cA := among_w vb ls w hvb hl hsz
  obtain ⟨ab, cb, rfl, _⟩ := hvb
  obtain ⟨mem, hmem⟩ : ∃ mem, mem = inSet ls := ⟨_, rfl⟩
  rw [← hmem] at cA ⊢
  clear hsz hmem
  obtain ⟨aa, ca, rfl, ha⟩ := ha
  obtain ⟨n, hn⟩ : ∃ n, n = xs.length := ⟨_, rfl⟩
  rw [← hn]
  have hn9 : n ≤ 1000000 := by have := hs.1; omega
  have HN := Lib.hid hn
  have HS := Lib.hid hs
  by_cases hz : n = 0
  · subst hz
    have hx : xs = [] := List.eq_nil_of_length_eq_zero hn.symm
    have HX := Lib.hid hx
    clear hn ha hs hx
    go_enter Tryd.func17, Tryd.ntmps17
    go_wp2_with (go_at_call 31; refine cA.mono ?_; rintro e w1 ⟨b, g, rfl, hN⟩)
    refine wp_loop_rounds 1 ?_
    rw [rounds_succ]
    go_wp2_with fail
    go_ret
    exact ⟨_, rfl, by rw [HX.out]; exact ⟨World.ownsRow_nil _ _ _ _, hN.below⟩⟩
  obtain ⟨ba, oa, rfl, hC⟩ := Cells.of hn hz ha
  have HC := Lib.hid hC
  clear ha hn hz hC hs
  go_enter Tryd.func17, Tryd.ntmps17
  go_wp2_with (go_at_call 31; refine cA.mono ?_; rintro e w1 ⟨b, g, rfl, hN0⟩)
  clear cA
  go_loopw [5, 8, 13] (fun v _ i wr => ∃ k : Nat, k ≤ n ∧ i = .int .i64 k ∧ FBuf w wr v (Fld.drop (xs.take k) mem) ∧ NamesAt w wr b g ls.length mem) (fun _ _ i _ => n - (intOf i).toNat)
  case atStart => exact ⟨0, by omega, rfl, ⟨World.ownsRow_nil _ _ _ _, hN0.below⟩, hN0⟩
  case round =>
    obtain ⟨k, hk, rfl, hB, hN⟩ := hrel
    clear hN0
    by_cases hlt : k < n
    · have ka : k < xs.length := by have := HN.out; omega
      obtain ⟨c1, c2⟩ := HC.out.at_ hB.2 k hlt ka
      have z := HS.out.at_ k ka
      have hN1 := hN.later ((Below.refl _ wr).alloc (Nat.le_refl _) (.cells #[.string (str xs[k].1), .string (str xs[k].2)] 49))
      have cM := among1_c w xs[k] b g ls.length mem _ hN1 z.1
      have cC := fun w => clone_s xs[k] w z.1 z.2
      unfold fval at cM cC
      have hgl : (Fld.drop (xs.take k) mem).length ≤ 1000000000 := by
        have := Fld.drop_length (xs.take k) mem; rw [List.length_take] at this; omega
      obtain ⟨x, hx⟩ : ∃ x, x = str xs[k].1 := ⟨_, rfl⟩
      obtain ⟨y, hy⟩ : ∃ y, y = str xs[k].2 := ⟨_, rfl⟩
      rw [← hx] at c1 cM hN1 cC
      rw [← hy] at c2 cM hN1 cC
      have HY := Lib.hid hy
      have HX := Lib.hid hx
      clear hx hy z
      by_cases hp : mem (Oct.lower xs[k].1) = true
      · have HG := Lib.hid (Fld.drop_no (mem := mem) ka hp)
        rw [hp] at cM
        clear hp
        go_wp2_with fail
        refine cM.mono ?_
        rintro e w2 ⟨rfl, hb2⟩
        obtain ⟨f0, f1, hb3⟩ := fcell hb2
        go_wp2_with fail
        go_roundw
        case rel => exact ⟨k + 1, by omega, by go_num, by rw [HG.out]; exact hB.after hb3, hN.later hb3⟩
        case measure => simp [intOf]; omega
      · have hp' : mem (Oct.lower xs[k].1) = false := by simpa using hp
        have HG := Lib.hid (Fld.drop_yes (mem := mem) ka hp')
        rw [hp'] at cM
        clear hp hp'
        go_wp2_with fail
        refine cM.mono ?_
        rintro e w2 ⟨rfl, hb2⟩
        obtain ⟨f0, f1, hb3⟩ := fcell hb2
        go_wp2_with fail
        refine (cC _).mono ?_
        rintro e w3 ⟨rfl, hb4⟩
        have hb5 := hb3.trans (hb4.mono hb3.size)
        have hB2 := hB.after hb5
        have hN2 := hN.later hb5
        go_wp2_with (at_builtin; refine appF2 hB2 xs[k] hgl rfl _ _ rfl x y HX.out HY.out rfl rfl ?_; intro v' w4 hB4 hK4)
        go_roundw
        case rel => exact ⟨k + 1, by omega, by go_num, by rw [HG.out]; exact hB4, hN2.kept hK4 (by decide) hB4.2⟩
        case measure => simp [intOf]; omega
    · have hE := Fld.take_whole xs k (by have := HN.out; omega)
      rw [hE] at hB
      clear hE
      go_wp2_with fail
      go_ret
      exact ⟨_, rfl, hB⟩

set_option maxHeartbeats 1600000 in
set_option maxRecDepth 100000 in
theorem rGet_w (va : Value) (xs : List Fld.F) (nm : List UInt8) (w : World) (ha : FIn w va xs) (hs : Small xs) (hn1 : nm.length ≤ 1000000) :
    Calls Tryd.prog 22 #[va, .string (str nm)] w fun e w' => ∃ v, e = .returned v ∧ SBuf w w' v (Fld.get xs nm) := by
  obtain ⟨aa, ca, rfl, ha⟩ := ha
  obtain ⟨n, hn⟩ : ∃ n, n = xs.length := ⟨_, rfl⟩
  rw [← hn]
  have hn9 : n ≤ 1000000 := by have := hs.1; omega
  have HN := Lib.hid hn
  have HS := Lib.hid hs
  have zn : (str nm).size ≤ 1000000 := by rw [str_size]; exact hn1
  have cN := fun w => rLower_s (str nm) w zn
  rw [str_list] at cN
  generalize str nm = sn at cN zn
  by_cases hz : n = 0
  · subst hz
    have hx : xs = [] := List.eq_nil_of_length_eq_zero hn.symm
    have HX := Lib.hid hx
    clear hn ha hs hx
    go_enter Tryd.func22, Tryd.ntmps22
    go_wp2_with fail
    refine wp_loop_rounds 1 ?_
    rw [rounds_succ]
    go_wp2_with fail
    go_ret
    exact ⟨_, rfl, by rw [HX.out]; exact SBuf.nil _⟩
  obtain ⟨ba, oa, rfl, hC⟩ := Cells.of hn hz ha
  have HC := Lib.hid hC
  clear ha hn hz hC hs
  go_enter Tryd.func22, Tryd.ntmps22
  go_wp2_with fail
  go_loopw [5, 6] (fun v i wr => ∃ k : Nat, k ≤ n ∧ i = .int .i64 k ∧ SBuf w wr v (Fld.get (xs.take k) nm)) (fun _ i _ => n - (intOf i).toNat)
  case atStart => exact ⟨0, by omega, rfl, SBuf.nil _⟩
  case round =>
    obtain ⟨k, hk, rfl, hB⟩ := hrel
    by_cases hlt : k < n
    · have ka : k < xs.length := by have := HN.out; omega
      obtain ⟨c1, c2⟩ := HC.out.at_ hB.2 k hlt ka
      have z := HS.out.at_ k ka
      have cX := fun w => rLower_s (str xs[k].1) w (by rw [str_size]; exact z.1)
      rw [str_list] at cX
      have hgl : (Fld.get (xs.take k) nm).length ≤ 100000000000 := by
        have := Fld.get_length (xs.take k) nm; rw [List.length_take] at this; omega
      obtain ⟨x, hx⟩ : ∃ x, x = str xs[k].1 := ⟨_, rfl⟩
      obtain ⟨y, hy⟩ : ∃ y, y = str xs[k].2 := ⟨_, rfl⟩
      rw [← hx] at c1 cX
      rw [← hy] at c2
      have HY := Lib.hid hy
      have HX := Lib.hid hx
      clear hx hy z
      by_cases hp : Fld.named nm xs[k] = true
      · have he : Oct.lower xs[k].1 = Oct.lower nm := by simpa [Fld.named] using hp
        have HG := Lib.hid (Fld.get_yes ka hp)
        rw [he] at cX
        clear hp he
        generalize str (Oct.lower nm) = yn at cN cX
        go_wp2_with fail
        refine (cX _).mono ?_
        rintro e w2 ⟨rfl, hb2⟩
        go_wp2_with fail
        refine (cN _).mono ?_
        rintro e w3 ⟨rfl, hb3⟩
        have hb5 := hb2.trans (hb3.mono hb2.size)
        have hB2 := hB.after hb5
        have c1' := (hb5.cell (p := ⟨ba, oa + k * 2, none⟩) (World.block_lt_of_cell? _ _ c1)).trans c1
        have c2' := (hb5.cell (p := ⟨ba, oa + k * 2 + 1, none⟩) (World.block_lt_of_cell? _ _ c2)).trans c2
        go_wp2_with (at_builtin; refine appS hB2 xs[k].2 hgl rfl _ _ rfl y HY.out rfl rfl ?_; intro v' w4 hB4 _)
        go_roundw
        case rel => exact ⟨k + 1, by omega, by go_num, by rw [HG.out]; exact hB4⟩
        case measure => simp [intOf]; omega
      · have hp' : Fld.named nm xs[k] = false := by simpa using hp
        have HG := Lib.hid (Fld.get_no ka hp')
        have hne : ((str (Oct.lower xs[k].1)).toList == (str (Oct.lower nm)).toList) = false := by rw [str_toList, str_toList]; exact hp'
        clear hp hp'
        generalize str (Oct.lower nm) = yn at cN cX hne
        generalize str (Oct.lower xs[k].1) = yx at cX hne
        go_wp2_with fail
        refine (cX _).mono ?_
        rintro e w2 ⟨rfl, hb2⟩
        go_wp2_with fail
        refine (cN _).mono ?_
        rintro e w3 ⟨rfl, hb3⟩
        have hb5 := hb2.trans (hb3.mono hb2.size)
        have hB2 := hB.after hb5
        have c1' := (hb5.cell (p := ⟨ba, oa + k * 2, none⟩) (World.block_lt_of_cell? _ _ c1)).trans c1
        have c2' := (hb5.cell (p := ⟨ba, oa + k * 2 + 1, none⟩) (World.block_lt_of_cell? _ _ c2)).trans c2
        go_wp2_with fail
        go_roundw
        case rel => exact ⟨k + 1, by omega, by go_num, by rw [HG.out]; exact hB2⟩
        case measure => simp [intOf]; omega
    · have hE := Fld.take_whole xs k (by have := HN.out; omega)
      rw [hE] at hB
      clear hE
      go_wp2_with fail
      go_ret
      exact ⟨_, rfl, hB⟩

set_option maxHeartbeats 1600000 in
set_option maxRecDepth 100000 in
theorem rWithout_w (va : Value) (xs : List Fld.F) (nm : List UInt8) (w : World) (ha : FIn w va xs) (hs : Small xs) (hn1 : nm.length ≤ 1000000) :
    Calls Tryd.prog 19 #[va, .string (str nm)] w fun e w' => ∃ v, e = .returned v ∧ FBuf w w' v (Fld.without xs nm) := by
  obtain ⟨aa, ca, rfl, ha⟩ := ha
  obtain ⟨n, hn⟩ : ∃ n, n = xs.length := ⟨_, rfl⟩
  rw [← hn]
  have hn9 : n ≤ 1000000 := by have := hs.1; omega
  have HN := Lib.hid hn
  have HS := Lib.hid hs
  have zn : (str nm).size ≤ 1000000 := by rw [str_size]; exact hn1
  have cN := fun w => rLower_s (str nm) w zn
  rw [str_list] at cN
  generalize str nm = sn at cN zn
  by_cases hz : n = 0
  · subst hz
    have hx : xs = [] := List.eq_nil_of_length_eq_zero hn.symm
    have HX := Lib.hid hx
    clear hn ha hs hx
    go_enter Tryd.func19, Tryd.ntmps19
    go_wp2_with fail
    refine wp_loop_rounds 1 ?_
    rw [rounds_succ]
    go_wp2_with fail
    go_ret
    exact ⟨_, rfl, by rw [HX.out]; exact FBuf.nil _⟩
  obtain ⟨ba, oa, rfl, hC⟩ := Cells.of hn hz ha
  have HC := Lib.hid hC
  clear ha hn hz hC hs
  go_enter Tryd.func19, Tryd.ntmps19
  go_wp2_with fail
  go_loopw [5, 6] (fun v i wr => ∃ k : Nat, k ≤ n ∧ i = .int .i64 k ∧ FBuf w wr v (Fld.without (xs.take k) nm)) (fun _ i _ => n - (intOf i).toNat)
  case atStart => exact ⟨0, by omega, rfl, FBuf.nil _⟩
  case round =>
    obtain ⟨k, hk, rfl, hB⟩ := hrel
    by_cases hlt : k < n
    · have ka : k < xs.length := by have := HN.out; omega
      obtain ⟨c1, c2⟩ := HC.out.at_ hB.2 k hlt ka
      have z := HS.out.at_ k ka
      have cX := fun w => rLower_s (str xs[k].1) w (by rw [str_size]; exact z.1)
      rw [str_list] at cX
      have hgl : (Fld.without (xs.take k) nm).length ≤ 1000000000 := by
        have := Fld.drop_length (xs.take k) (fun l => l == Oct.lower nm); rw [List.length_take] at this; rw [Fld.without_drop]; omega
      obtain ⟨x, hx⟩ : ∃ x, x = str xs[k].1 := ⟨_, rfl⟩
      obtain ⟨y, hy⟩ : ∃ y, y = str xs[k].2 := ⟨_, rfl⟩
      rw [← hx] at c1 cX
      rw [← hy] at c2
      have HY := Lib.hid hy
      have HX := Lib.hid hx
      clear hx hy z
      by_cases hp : Fld.named nm xs[k] = true
      · have he : Oct.lower xs[k].1 = Oct.lower nm := by simpa [Fld.named] using hp
        have HG := Lib.hid (Fld.drop_no (mem := fun l => l == Oct.lower nm) ka hp)
        rw [he] at cX
        clear hp he
        generalize str (Oct.lower nm) = yn at cN cX
        go_wp2_with fail
        refine (cX _).mono ?_
        rintro e w2 ⟨rfl, hb2⟩
        go_wp2_with fail
        refine (cN _).mono ?_
        rintro e w3 ⟨rfl, hb3⟩
        have hb5 := hb2.trans (hb3.mono hb2.size)
        have hB2 := hB.after hb5
        have c1' := (hb5.cell (p := ⟨ba, oa + k * 2, none⟩) (World.block_lt_of_cell? _ _ c1)).trans c1
        have c2' := (hb5.cell (p := ⟨ba, oa + k * 2 + 1, none⟩) (World.block_lt_of_cell? _ _ c2)).trans c2
        go_wp2_with fail
        go_roundw
        case rel => exact ⟨k + 1, by omega, by go_num, by rw [Fld.without_drop, HG.out]; exact hB2⟩
        case measure => simp [intOf]; omega
      · have hp' : Fld.named nm xs[k] = false := by simpa using hp
        have HG := Lib.hid (Fld.drop_yes (mem := fun l => l == Oct.lower nm) ka hp')
        have hne : ((str (Oct.lower xs[k].1)).toList == (str (Oct.lower nm)).toList) = false := by rw [str_toList, str_toList]; exact hp'
        clear hp hp'
        generalize str (Oct.lower nm) = yn at cN cX hne
        generalize str (Oct.lower xs[k].1) = yx at cX hne
        go_wp2_with fail
        refine (cX _).mono ?_
        rintro e w2 ⟨rfl, hb2⟩
        go_wp2_with fail
        refine (cN _).mono ?_
        rintro e w3 ⟨rfl, hb3⟩
        have hb5 := hb2.trans (hb3.mono hb2.size)
        have hB2 := hB.after hb5
        have c1' := (hb5.cell (p := ⟨ba, oa + k * 2, none⟩) (World.block_lt_of_cell? _ _ c1)).trans c1
        have c2' := (hb5.cell (p := ⟨ba, oa + k * 2 + 1, none⟩) (World.block_lt_of_cell? _ _ c2)).trans c2
        go_wp2_with (at_builtin; refine appF hB2 xs[k] hgl rfl _ _ rfl x y HX.out HY.out rfl rfl ?_; intro v' w4 hB4)
        go_roundw
        case rel => exact ⟨k + 1, by omega, by go_num, by rw [Fld.without_drop, HG.out]; exact hB4⟩
        case measure => simp [intOf]; omega
    · have hE := Fld.take_whole xs k (by have := HN.out; omega)
      rw [hE] at hB
      clear hE
      go_wp2_with fail
      go_ret
      exact ⟨_, rfl, hB⟩

end Go.Proofs.YtlekbnbdjahegaaDoor
