/- Package field: headers, written. -/
import Derived.Test.YtlekbnbdjahegaaDoorFd3
import Derived.Lib.AppendStr
namespace Go.Proofs.YtlekbnbdjahegaaDoor
open Go.RowKit

/-- 'append(b, s..)', s a string. -/
theorem appStr {ops : Array Oper} {rest : List Oper} {o : Oper} {a : Act} {Q : Exit → Act → World → Prop} {W w : World} {v : Value} {l : List UInt8} (h : Buf W w v l) (s : ByteArray) (hlen : l.length + s.size ≤ 100000000000)
    (hgd : o.guard = none) (sl x : Operand) (ho : o.op = .call { callee := .builtin .append, args := #[sl, x], argTypes := #[22, 9] })
    (hs : a.eval sl = v) (hx : a.eval x = .string s)
    (hK : ∀ v' w', Buf W w' v' (l ++ s.data.toList) → wpList Tryd.prog ops Q rest (a.put o.dst v') w') : wpList Tryd.prog ops Q (o :: rest) a w := by
  obtain ⟨i0, hi, hz0, hz1, hz2⟩ := info_parts bytes_info
  refine Lib.wpList_append_own_string _ hgd sl x _ _ ho W.heap.size 5 i0 Tryd.underlying22 Tryd.underlying9 hi hz0 hz1 hz2 v l.length (Lib.byteCells l) hs h.1 s hx (by unfold maxLen; omega) (by omega) h.2.size (fun v' w' h1 h2 _ => ?_)
  refine hK v' w' ⟨?_, h.2.grown h2 h.2.size (fun k hk => (h.1.lt k hk).1)⟩
  have e : Lib.byteCells (l ++ s.data.toList) = Lib.byteCells l ++ Lib.strCells s := by simp [Lib.byteCells, Lib.strCells]
  rw [e, List.length_append, Oct.length_size]
  exact h1

set_option maxHeartbeats 800000 in
set_option maxRecDepth 100000 in
theorem Print_no (va : Value) (xs : List Fld.F) (w : World) (ha : FIn w va xs) (hs : Small xs) (h0 : Fld.fault xs ≠ 0) :
    Calls Tryd.prog 13 #[va] w fun e w' => e = .returned (.tuple #[.slice none 0 0, .int .i64 (Fld.fault xs)]) ∧ Below w.heap.size w w' := by
  have cF := fault_w va xs w ha hs
  have b1 : (Fld.fault xs != 0) = true := by rw [bne, beq_eq_false_iff_ne.2 h0]; rfl
  generalize Fld.fault xs = z at cF b1
  clear h0
  go_enter Tryd.func13, Tryd.ntmps13
  go_wp2_with (go_at_call 30; refine cF.mono ?_; rintro e w1 ⟨rfl, hb1⟩)
  go_ret2
  exact ⟨rfl, by assumption⟩

theorem line_data (x y : ByteArray) (f : Fld.F) (hx : x = str f.1) (hy : y = str f.2) : (x ++ ⟨#[58, 32]⟩ ++ y ++ ⟨#[13, 10]⟩ : ByteArray).data.toList = Fld.line f := by
  subst hx hy
  unfold Fld.line
  simp [str]
set_option maxHeartbeats 1600000 in
set_option maxRecDepth 100000 in
theorem Print_yes (va : Value) (xs : List Fld.F) (w : World) (ha : FIn w va xs) (hs : Small xs) (h0 : Fld.fault xs = 0) :
    Calls Tryd.prog 13 #[va] w fun e w' => ∃ v, e = .returned (.tuple #[v, .int .i64 0]) ∧ Buf w w' v (Fld.print xs) := by
  have cF := fault_w va xs w ha hs
  rw [h0] at cF
  obtain ⟨_, _, h6⟩ := Fld.fault_zero h0
  obtain ⟨aa, ca, rfl, ha⟩ := ha
  obtain ⟨n, hn⟩ : ∃ n, n = xs.length := ⟨_, rfl⟩
  rw [← hn] at cF ⊢
  have hn9 : n ≤ 1000000 := by have := hs.1; omega
  have HN := Lib.hid hn
  have HS := Lib.hid hs
  have H6 := Lib.hid h6
  have HP : Hid (Fld.print xs = Fld.lines xs ++ [13, 10]) := Lib.hid rfl
  by_cases hz : n = 0
  · subst hz
    have hx : xs = [] := List.eq_nil_of_length_eq_zero hn.symm
    have HX := Lib.hid hx
    clear hn ha hs h0 h6 hx
    go_enter Tryd.func13, Tryd.ntmps13
    go_wp2_with (go_at_call 30; refine cF.mono ?_; rintro e w1 ⟨rfl, hb1⟩)
    refine wp_loop_rounds 1 ?_
    rw [rounds_succ]
    have hB := Buf.nil_of hb1
    go_wp2_with (at_builtin; refine appStr hB ⟨#[13, 10]⟩ (by decide) rfl _ _ rfl rfl rfl ?_; intro v' w' hB')
    go_ret2
    exact ⟨_, rfl, by rw [HX.out]; exact hB'⟩
  obtain ⟨ba, oa, rfl, hC⟩ := Cells.of hn hz ha
  have HC := Lib.hid hC
  clear ha hn hz hC hs h0 h6
  go_enter Tryd.func13, Tryd.ntmps13
  go_wp2_with (go_at_call 30; refine cF.mono ?_; rintro e w1 ⟨rfl, hb1⟩)
  clear cF
  go_loopw [5, 15] (fun v i wr => ∃ k : Nat, k ≤ n ∧ i = .int .i64 k ∧ Buf w wr v (Fld.lines (xs.take k))) (fun _ i _ => n - (intOf i).toNat)
  case atStart => exact ⟨0, by omega, rfl, Buf.nil_of hb1⟩
  case round =>
    obtain ⟨k, hk, rfl, hB⟩ := hrel
    by_cases hlt : k < n
    · have ka : k < xs.length := by have := HN.out; omega
      obtain ⟨c1, c2⟩ := HC.out.at_ hB.below k hlt ka
      have z := HS.out.at_ k ka
      have HL := Lib.hid (Fld.lines_snoc xs k ka)
      have s1 : (str xs[k].1).size ≤ 1000000 := by rw [str_size]; exact z.1
      have s2 : (str xs[k].2).size ≤ 1000000 := by rw [str_size]; exact z.2
      have hln : (Fld.lines (xs.take k)).length ≤ 65536 := by
        have := Fld.lines_length (xs.take k); have := Fld.size_take xs k; have := H6.out; omega
      have HD := line_data (str xs[k].1) (str xs[k].2) xs[k] rfl rfl
      obtain ⟨x, hx⟩ : ∃ x, x = str xs[k].1 := ⟨_, rfl⟩
      obtain ⟨y, hy⟩ : ∃ y, y = str xs[k].2 := ⟨_, rfl⟩
      rw [← hx] at c1 s1 HD
      rw [← hy] at c2 s2 HD
      have HD2 := Lib.hid HD
      clear hx hy HD z
      obtain ⟨L, hL⟩ : ∃ L, L = Fld.lines (xs.take k) := ⟨_, rfl⟩
      rw [← hL] at hB hln
      have HL2 := Lib.hid hL
      clear hL
      have hsum : L.length + (x ++ ⟨#[58, 32]⟩ ++ y ++ ⟨#[13, 10]⟩ : ByteArray).size ≤ 100000000000 := by
        rw [ByteArray.size_append, ByteArray.size_append, ByteArray.size_append, show (⟨#[58, 32]⟩ : ByteArray).size = 2 from rfl, show (⟨#[13, 10]⟩ : ByteArray).size = 2 from rfl]; omega
      go_wp2_with (at_builtin; refine appStr (hB.alloc _) (x ++ ⟨#[58, 32]⟩ ++ y ++ ⟨#[13, 10]⟩) hsum rfl _ _ rfl rfl rfl ?_; intro v' w' hB')
      go_roundw
      case rel => exact ⟨k + 1, by omega, by go_num, by rw [HL.out, ← HL2.out, ← HD2.out]; simpa using hB'⟩
      case measure => simp [intOf]; omega
    · have hE := Fld.take_whole xs k (by have := HN.out; omega)
      rw [hE] at hB
      clear hE
      have hln : (Fld.lines xs).length ≤ 65536 := by have := Fld.lines_length xs; have := H6.out; omega
      obtain ⟨L, hL⟩ : ∃ L, L = Fld.lines xs := ⟨_, rfl⟩
      rw [← hL] at hB hln
      have HL2 := Lib.hid hL
      clear hL
      have hsum : L.length + (⟨#[13, 10]⟩ : ByteArray).size ≤ 100000000000 := by
        rw [show (⟨#[13, 10]⟩ : ByteArray).size = 2 from rfl]; omega
      go_wp2_with (at_builtin; refine appStr hB ⟨#[13, 10]⟩ hsum rfl _ _ rfl rfl rfl ?_; intro v' w' hB')
      go_ret2
      exact ⟨_, rfl, by rw [HP.out, ← HL2.out]; exact hB'⟩

set_option maxHeartbeats 1600000 in
set_option maxRecDepth 100000 in
theorem rPrint_w (va : Value) (xs : List Fld.F) (w : World) (ha : FIn w va xs) (hs : Small xs) :
    Calls Tryd.prog 16 #[va] w fun e w' => e = .returned (.string (str (Fld.print xs))) ∧ Below w.heap.size w w' := by
  obtain ⟨aa, ca, rfl, ha⟩ := ha
  obtain ⟨n, hn⟩ : ∃ n, n = xs.length := ⟨_, rfl⟩
  rw [← hn]
  have hn9 : n ≤ 1000000 := by have := hs.1; omega
  have HN := Lib.hid hn
  have HS := Lib.hid hs
  by_cases hz : n = 0
  · subst hz
    have hx : xs = [] := List.eq_nil_of_length_eq_zero hn.symm
    have HX : Hid (⟨#[13, 10]⟩ = str (Fld.print xs)) := by subst hx; exact Lib.hid rfl
    clear hn ha hs hx
    go_enter Tryd.func16, Tryd.ntmps16
    go_wp2_with fail
    refine wp_loop_rounds 1 ?_
    rw [rounds_succ]
    go_wp2_with fail
    go_ret
    exact ⟨ret_str HX.out, Below.refl _ _⟩
  obtain ⟨ba, oa, rfl, hC⟩ := Cells.of hn hz ha
  have HC := Lib.hid hC
  clear ha hn hz hC hs
  go_enter Tryd.func16, Tryd.ntmps16
  go_wp2_with fail
  go_loopw [3, 4] (fun v i wr => ∃ (k q : Nat) (t : ByteArray), k ≤ n ∧ i = .int .i64 k ∧ v = .string t ∧ t.size ≤ 2000004 * k ∧ Hid (t = str (Fld.lines (xs.take k))) ∧ wr = w.drewN q) (fun _ i _ => n - (intOf i).toNat)
  case atStart => exact ⟨0, 0, ⟨#[]⟩, by omega, rfl, rfl, by decide, Lib.hid rfl, rfl⟩
  case round =>
    obtain ⟨k, q, t, hk, rfl, rfl, ht, HT, rfl⟩ := hrel
    by_cases hlt : k < n
    · have ka : k < xs.length := by have := HN.out; omega
      obtain ⟨c1, c2⟩ := HC.out.at_ (Below.refl _ w) k hlt ka
      have z := HS.out.at_ k ka
      have HL := Lib.hid (Fld.lines_snoc xs k ka)
      have s1 : (str xs[k].1).size ≤ 1000000 := by rw [str_size]; exact z.1
      have s2 : (str xs[k].2).size ≤ 1000000 := by rw [str_size]; exact z.2
      have hw : (Fld.line xs[k]).length ≤ 2000004 := by rw [Fld.line_length]; unfold Fld.weight; omega
      have HD := line_data (str xs[k].1) (str xs[k].2) xs[k] rfl rfl
      obtain ⟨x, hx⟩ : ∃ x, x = str xs[k].1 := ⟨_, rfl⟩
      obtain ⟨y, hy⟩ : ∃ y, y = str xs[k].2 := ⟨_, rfl⟩
      rw [← hx] at c1 s1 HD
      rw [← hy] at c2 s2 HD
      have HD2 := Lib.hid HD
      obtain ⟨U, hU⟩ : ∃ U : ByteArray, U = t ++ x ++ ⟨#[58, 32]⟩ ++ y ++ ⟨#[13, 10]⟩ := ⟨_, rfl⟩
      have HU : Hid (U = str (Fld.lines (xs.take (k + 1)))) := by
        refine Lib.hid ?_
        rw [HL.out, ← HD2.out, hU, ← str_of (t ++ x ++ ⟨#[58, 32]⟩ ++ y ++ ⟨#[13, 10]⟩)]
        congr 1
        have := congrArg (fun b : ByteArray => b.data.toList) HT.out
        simp only [str_list] at this
        rw [← this]
        simp
      have hUs : U.size ≤ 2000004 * (k + 1) := by
        have e : U.size = t.size + (Fld.line xs[k]).length := by
          rw [← HD2.out, hU, Lib.size_eq, Lib.size_eq]; simp
        omega
      have HUU := Lib.hid hU
      have a1 : t.size + x.size ≤ 9223372036854775807 := by omega
      have a2 : (t ++ x).size + (⟨#[58, 32]⟩ : ByteArray).size ≤ 9223372036854775807 := by
        rw [ByteArray.size_append, show (⟨#[58, 32]⟩ : ByteArray).size = 2 from rfl]; omega
      have a3 : (t ++ x ++ ⟨#[58, 32]⟩).size + y.size ≤ 9223372036854775807 := by
        rw [ByteArray.size_append, ByteArray.size_append, show (⟨#[58, 32]⟩ : ByteArray).size = 2 from rfl]; omega
      have a4 : (t ++ x ++ ⟨#[58, 32]⟩ ++ y).size + (⟨#[13, 10]⟩ : ByteArray).size ≤ 9223372036854775807 := by
        rw [ByteArray.size_append, ByteArray.size_append, ByteArray.size_append, show (⟨#[58, 32]⟩ : ByteArray).size = 2 from rfl, show (⟨#[13, 10]⟩ : ByteArray).size = 2 from rfl]; omega
      clear hx hy HD z hw hU
      go_wp2_with fail
      go_quiet (fail)
      go_wp2_with fail
      go_roundw
      case rel => exact ⟨k + 1, _, U, by omega, by go_num, by rw [HUU.out], hUs, HU, rfl⟩
      case measure => simp [intOf]; omega
    · have hE := Fld.take_whole xs k (by have := HN.out; omega)
      have HR : Hid (t ++ ⟨#[13, 10]⟩ = str (Fld.print xs)) := by
        refine Lib.hid ?_
        rw [← str_of (t ++ ⟨#[13, 10]⟩)]
        congr 1
        have := congrArg (fun b : ByteArray => b.data.toList) HT.out
        simp only [str_list] at this
        rw [hE] at this
        unfold Fld.print
        rw [← this]
        simp
      clear hE
      go_wp2_with fail
      go_ret
      exact ⟨ret_str HR.out, bdrewN _ _⟩
end Go.Proofs.YtlekbnbdjahegaaDoor
