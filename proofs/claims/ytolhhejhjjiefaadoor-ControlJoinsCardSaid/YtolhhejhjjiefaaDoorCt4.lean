/- Package control: Print. -/
import Derived.Test.YtolhhejhjjiefaaDoorCt2
import Derived.Test.YtolhhejhjjiefaaDoorTail
import Derived.Lib.AppendStr
import Derived.Deep.DeepCutAuto
namespace Go.Proofs.YtolhhejhjjiefaaDoor
open Go.RowKit

/-- 'append(b, s..)', s a string. -/
theorem appStr {ops : Array Oper} {rest : List Oper} {o : Oper} {a : Act} {Q : Exit → Act → World → Prop} {W w : World} {v : Value} {l : List UInt8} (h : Buf W w v l) (s : ByteArray) (hlen : l.length + s.size ≤ 100000000000)
    (hgd : o.guard = none) (sl x : Operand) (ho : o.op = .call { callee := .builtin .append, args := #[sl, x], argTypes := #[33, 9] })
    (hs : a.eval sl = v) (hx : a.eval x = .string s)
    (hK : ∀ v' w', Buf W w' v' (l ++ s.data.toList) → wpList Tryd.prog ops Q rest (a.put o.dst v') w') : wpList Tryd.prog ops Q (o :: rest) a w := by
  obtain ⟨i0, hi, hz0, hz1, hz2⟩ := info_parts bytes_info
  refine Lib.wpList_append_own_string _ hgd sl x _ _ ho W.heap.size 5 i0 Tryd.underlying33 Tryd.underlying9 hi hz0 hz1 hz2 v l.length (Lib.byteCells l) hs h.1 s hx (by unfold maxLen; omega) (by omega) h.2.size (fun v' w' h1 h2 _ => ?_)
  refine hK v' w' ⟨?_, h.2.grown h2 h.2.size (fun k hk => (h.1.lt k hk).1)⟩
  have e : Lib.byteCells (l ++ s.data.toList) = Lib.byteCells l ++ Lib.strCells s := by simp [Lib.byteCells, Lib.strCells]
  rw [e, List.length_append, Oct.length_size]
  exact h1

theorem Buf.shape {W w : World} {v : Value} {l : List UInt8} (h : Buf W w v l) : ∃ av cv, v = .slice av l.length cv := by
  rcases h.cells with ⟨hv, h⟩ | ⟨g, cap, hv, _⟩
  · exact ⟨none, 0, by rw [hv, h]; rfl⟩
  · exact ⟨_, _, hv⟩

theorem flag_w (k : List UInt8) (b : Bool) (w : World) :
    Calls Tryd.prog 25 #[.string (str k), .bool b] w fun e w' => e = .returned (.string (str (Ctl.flagT k b))) ∧ w = w' := by
  cases b with
  | true =>
    rw [show Ctl.flagT k true = k from rfl]
    generalize str k = s
    go_enter Tryd.func25, Tryd.ntmps25
    go_wp2_with fail
    go_ret
    exact ⟨rfl, rfl⟩
  | false =>
    rw [show str (Ctl.flagT k false) = ⟨#[]⟩ from rfl]
    generalize str k = s
    go_enter Tryd.func25, Tryd.ntmps25
    go_wp2_with fail
    go_ret
    exact ⟨rfl, rfl⟩

theorem number_w (k : List UInt8) (n : Int) (w : World) (hk : k.length ≤ 1000) (hn : n ≤ 9223372036854775807) (hT : Tabs w) :
    Calls Tryd.prog 26 #[.string (str k), .int .i64 n] w fun e w' => e = .returned (.string (str (Ctl.numT k n))) ∧ Below w.heap.size w w' := by
  by_cases h0 : n < 0
  · rw [show str (Ctl.numT k n) = ⟨#[]⟩ by unfold Ctl.numT; rw [if_pos h0]; rfl]
    generalize str k = s
    clear hT
    go_enter Tryd.func26, Tryd.ntmps26
    go_wp2_with fail
    go_ret
    exact ⟨rfl, Below.refl _ _⟩
  · have hP := Print_s n 10 w hn hT
    have HR : Hid (str k ++ ⟨#[61]⟩ ++ str (Oct.print n 10) = str (Ctl.numT k n)) := Lib.hid (by
      unfold Ctl.numT; rw [if_neg h0]
      refine str_same ?_
      rw [app_list, app_list, str_list, str_list]
      show k ++ [61] ++ Oct.print n 10 = k ++ 61 :: Oct.dgs 10 n.toNat
      simp [Oct.print, Oct.base])
    have hz1 : (str k).size ≤ 1000 := by rw [str_size]; exact hk
    have hz2 : (str (Oct.print n 10)).size ≤ 100 := by rw [str_size]; exact Oct.dgs_len10 n.toNat (by omega)
    generalize str k = s at *
    generalize str (Oct.print n 10) = d at *
    clear hT hn
    go_enter Tryd.func26, Tryd.ntmps26
    go_wp2_with fail
    refine hP.mono ?_
    rintro e w1 ⟨rfl, hb⟩
    go_wp2_with fail
    go_ret
    exact ⟨ret_str HR.out, hb⟩

set_option maxHeartbeats 1600000 in
set_option maxRecDepth 100000 in
theorem list_w (va : Value) (ts : List (List UInt8)) (w : World) (hv : SIn w va ts) (hn : ts.length ≤ 1000) (hl : ∀ t ∈ ts, t.length ≤ 1000) :
    Calls Tryd.prog 24 #[va] w fun e w' => e = .returned (.string (str (Ctl.joinAll ts))) ∧ Below w.heap.size w w' := by
  have hJ : ∀ k, (Ctl.joinAll (ts.take k)).length ≤ 2000000 := fun k => by
    have h1 := Ctl.joinAll_take 1000 ts hl k
    have h2 : ts.length * (1000 + 2) ≤ 1000 * (1000 + 2) := Nat.mul_le_mul_right _ hn
    omega
  have HJ := Lib.hid hJ
  have HL := Lib.hid hl
  obtain ⟨ao, cp, rfl, hao⟩ := hv
  obtain ⟨n, hnn⟩ : ∃ n, n = ts.length := ⟨_, rfl⟩
  have HNN := Lib.hid hnn
  rw [← hnn] at hn ⊢
  have HC : Hid (∀ w5 k (hk : k < n), Below w.heap.size w w5 → ∃ b o, ao = some ⟨b, o, none⟩ ∧ w5.cell? ⟨b, o + k, none⟩ = some (.string (str (ts[k]'(by rw [← HNN.out]; exact hk))))) := by
    intro w5 k hk hb
    rcases hao with h | ⟨b, o, h1, h2, h3⟩
    · exfalso; rw [HNN.out, h] at hk; cases hk
    · exact ⟨b, o, h1, by rw [hb.cell (p := ⟨b, o + k, none⟩) h2]; exact h3 k (by rw [← HNN.out]; exact hk)⟩
  clear hnn hao hJ hl
  go_enter Tryd.func24, Tryd.ntmps24
  go_wp2_with fail
  go_loopw [3, 8] (fun v i wr => ∃ (k : Nat) (av : Option Addr) (cv : Nat), k ≤ n ∧ i = .int .i64 k ∧ v = .slice av (Ctl.joinAll (ts.take k)).length cv ∧ Buf w wr (.slice av (Ctl.joinAll (ts.take k)).length cv) (Ctl.joinAll (ts.take k))) (fun _ i _ => n - (intOf i).toNat)
  case atStart => exact ⟨0, none, 0, by omega, rfl, rfl, Buf.nil w⟩
  case round =>
    obtain ⟨k, av, cv, hk, rfl, rfl, hB⟩ := hrel
    obtain ⟨wo, rfl⟩ : ∃ wo : World, wo = wr := ⟨_, rfl⟩
    by_cases hlt : k < n
    · have hkl : k < ts.length := by have := HNN.out; omega
      have HSn := Lib.hid (Ctl.joinAll_snoc ts k hkl)
      obtain ⟨b, o, rfl, hcell⟩ := HC.out wo k hlt hB.2
      have hsz : (str ts[k]).size ≤ 1000 := by rw [str_size]; exact HL.out _ (List.getElem_mem hkl)
      have hacc := HJ.out k
      have HX := Lib.hid (str_list ts[k])
      generalize hp : ts[k] = p at *
      generalize Ctl.joinAll (ts.take k) = acc at *
      obtain ⟨L, hL⟩ : ∃ L, L = acc.length := ⟨_, rfl⟩
      rw [← hL] at hB hacc ⊢
      have HLL := Lib.hid hL
      have hlen1 : acc.length + (str p).size ≤ 100000000000 := by omega
      have hlen2 : acc.length + (⟨#[44, 32]⟩ : ByteArray).size ≤ 100000000000 := by show acc.length + 2 ≤ _; omega
      have hlen3 : (acc ++ (⟨#[44, 32]⟩ : ByteArray).data.toList).length + (str p).size ≤ 100000000000 := by
        rw [List.length_append]; show acc.length + 2 + _ ≤ _; omega
      by_cases h0 : p = []
      · have HE : Hid (Ctl.addP acc p = acc ++ (⟨#[]⟩ : ByteArray).data.toList) := Lib.hid (by unfold Ctl.addP; rw [if_pos h0]; simp)
        have he1 : str p = ⟨#[]⟩ := by rw [h0]; rfl
        rw [he1] at hcell hlen1
        clear hp h0 he1 hL hlen2 hlen3 hsz HX
        go_wp2_with (at_builtin; refine appStr hB ⟨#[]⟩ hlen1 rfl _ _ rfl rfl rfl ?_; intro v1 w1 hB1)
        obtain ⟨a1, c1, rfl⟩ := hB1.shape
        go_roundw
        case rel => exact ⟨k + 1, a1, c1, by omega, by go_num, by rw [HSn.out, HE.out], by rw [HSn.out, HE.out]; exact hB1⟩
        case measure => simp [intOf]; omega
      · have hx1 : (str p).toList.isEmpty = false := by rw [str_toList]; cases p with
          | nil => exact absurd rfl h0
          | cons _ _ => rfl
        have hx2 : ¬ (str p).toList = [] := by rw [str_toList]; exact h0
        by_cases ha : acc = []
        · have HE : Hid (Ctl.addP acc p = acc ++ p) := Lib.hid (by unfold Ctl.addP; rw [if_neg h0, if_pos ha, ha, List.nil_append])
          have hL0 : L = 0 := by rw [hL, ha]; rfl
          subst hL0
          generalize str p = s at *
          clear hp h0 ha hL hlen2 hlen3 hsz
          go_wp2_with (at_builtin; refine appStr hB s hlen1 rfl _ _ rfl rfl rfl ?_; intro v1 w1 hB1)
          rw [HX.out] at hB1
          obtain ⟨a1, c1, rfl⟩ := hB1.shape
          go_roundw
          case rel => exact ⟨k + 1, a1, c1, by omega, by go_num, by rw [HSn.out, HE.out], by rw [HSn.out, HE.out]; exact hB1⟩
          case measure => simp [intOf]; omega
        · have HE : Hid (Ctl.addP acc p = acc ++ (⟨#[44, 32]⟩ : ByteArray).data.toList ++ p) := Lib.hid (by unfold Ctl.addP; rw [if_neg h0, if_neg ha])
          have hL0 : (0 : Int) < L := by
            have : acc.length ≠ 0 := fun e => ha (List.eq_nil_of_length_eq_zero e)
            omega
          generalize str p = s at *
          clear hp h0 ha hL hsz hlen1
          go_wp2_with (at_builtin; first
            | (refine appStr hB ⟨#[44, 32]⟩ hlen2 rfl _ _ rfl rfl rfl ?_; intro v1 w1 hB1)
            | (refine appStr hB1 s hlen3 rfl _ _ rfl rfl rfl ?_; intro v2 w2 hB2))
          rw [HX.out] at hB2
          obtain ⟨a1, c1, rfl⟩ := hB2.shape
          go_roundw
          case rel => exact ⟨k + 1, a1, c1, by omega, by go_num, by rw [HSn.out, HE.out], by rw [HSn.out, HE.out]; exact hB2⟩
          case measure => simp [intOf]; omega
    · obtain rfl : k = n := by omega
      have HTA : Hid (ts.take k = ts) := List.take_of_length_le (by have := HNN.out; omega)
      have hcv := hB.string
      go_wp2_with fail
      go_ret
      exact ⟨ret_str (by rw [HTA.out]), hB.2⟩
end Go.Proofs.YtolhhejhjjiefaaDoor
