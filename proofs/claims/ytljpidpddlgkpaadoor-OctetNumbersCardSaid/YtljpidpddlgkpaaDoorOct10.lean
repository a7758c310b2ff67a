/- Package octet: lists, cut. -/
import Derived.Test.YtljpidpddlgkpaaDoorOct9
namespace Go.Proofs.YtljpidpddlgkpaaDoor
open Go.RowKit

theorem cut_mid (s : ByteArray) (f k : Nat) : (s.extract f k).data.toList = (s.data.toList.take k).drop f := by
  rw [Lib.extract_data, List.drop_take]

set_option maxHeartbeats 3200000 in
set_option maxRecDepth 100000 in
theorem Split_s (va : Value) (ls : List (List UInt8)) (w : World) (hv : SIn w va ls) (hn : ls.length ≤ 1000) (hl : ∀ l ∈ ls, l.length ≤ 1000000) :
    Calls Tryd.prog 23 #[va] w fun e w' => ∃ v, e = .returned v ∧ w'.ownsRow (w.heap.size + 1) 9 1 v (Oct.splitAll ls).length (strCells (Oct.splitAll ls)) ∧ Below w.heap.size w w' := by
  have hmf : ∀ (fn : Fn) (first cap : Array Value) (w : World), (Instr.makeFunc fn first cap).run Tryd.prog w = .ok (.func fn first cap) w := fun _ _ _ _ => rfl
  have hP0 := Pieces.start w
  obtain ⟨ao, ca, rfl, hv⟩ := hv
  obtain ⟨n, hnn⟩ : ∃ n, n = ls.length := ⟨_, rfl⟩
  rw [← hnn] at hn ⊢
  have HN := Lib.hid hnn
  by_cases h0 : n = 0
  · subst h0
    have HE : Hid (ls = []) := List.eq_nil_of_length_eq_zero HN.out.symm
    clear hnn hv hl
    have hc0 := cell_of_one (heap_alloc_new w (.cells #[.slice none 0 0] 35))
    go_enter Tryd.func23, Tryd.ntmps23
    go_wp2_with fail
    refine wp_loop_rounds 1 ?_
    rw [rounds_succ]
    go_wp2_with fail
    go_ret
    refine ⟨_, rfl, ?_, hP0.choose_spec.2.2⟩
    rw [HE.out]
    exact World.ownsRow_nil _ _ _ _
  obtain ⟨b, o, rfl, hb, hc⟩ := hv.resolve_left (fun e => h0 (by rw [hnn, e]; rfl))
  have HC : Hid (∀ j (hj : j < n), w.cell? ⟨b, o + j, none⟩ = some (.string (str (ls[j]'(HN.out ▸ hj))))) := fun j hj => hc j (HN.out ▸ hj)
  have HL := Lib.hid hl
  clear hc hv hnn h0 hl
  go_enter Tryd.func23, Tryd.ntmps23
  go_wp2_with fail
  go_loopw [13] (fun i wr => ∃ k : Nat, k ≤ n ∧ i = .int .i64 k ∧ Pieces w wr (Oct.splitAll (ls.take k))) (fun i _ => n - (intOf i).toNat)
  case atStart => exact ⟨0, by omega, rfl, hP0⟩
  case round =>
    clear hP0
    obtain ⟨k, hk, rfl, hP⟩ := hrel
    obtain ⟨wo, rfl⟩ : ∃ wo : World, wo = wr := ⟨_, rfl⟩
    by_cases hlt : k < n
    · have hkl : k < ls.length := by have := HN.out; omega
      have HSn := Lib.hid (Oct.splitAll_snoc ls k hkl)
      have hbo : Below w.heap.size w wo := by obtain ⟨v, h⟩ := hP; exact h.2.2
      have hcell := HC.out k hlt
      rw [← hbo.cell (p := ⟨b, o + k, none⟩) hb] at hcell
      have hsz : (str ls[k]).size ≤ 1000000 := by rw [str_size]; exact HL.out _ (List.getElem_mem hkl)
      have HX := Lib.hid (str_list ls[k])
      have HD : Hid ((Oct.splitAll (ls.take k)).length ≤ 1000001 * 1000) := by
        have h1 := Oct.splitAll_len (ls.take k) (fun l hl => HL.out l (List.mem_of_mem_take hl))
        have h2 := List.length_take_le k ls
        show _ ≤ _
        omega
      obtain ⟨D, hDD⟩ : ∃ D, D = Oct.splitAll (ls.take k) := ⟨_, rfl⟩
      rw [← hDD] at hP HD HSn
      have HDD := Lib.hid hDD
      clear hDD
      generalize str ls[k] = s at hcell hsz HX
      have hGo := hP.lt
      go_wp2_with (go_at_call 39; refine (outside_w _).mono ?_; rintro e w' ⟨rfl, rfl⟩)
      have hM0 := Marks.start wo
      have hP0 := hP.after (((Below.refl _ wo).alloc (Nat.le_refl _) (.cells #[.bool false] 4)).alloc (by simp) (.cells #[.bool false] 4))
      clear hP hbo hcell
      go_loopw [7, 20] (fun f i wr => ∃ (f' k' : Nat) (q e : Bool) (out : List (List UInt8)), k' ≤ s.size ∧ f = .int .i64 f' ∧ i = .int .i64 k' ∧ f' ≤ k' ∧ Hid (Oct.At s f' k' out q e) ∧ Pieces w wr (D ++ out) ∧ Marks wr (wo.heap.size + 1) wo.heap.size q e) (fun _ i _ => s.size - (intOf i).toNat)
      case atStart => exact ⟨0, 0, false, false, [], by omega, rfl, rfl, by omega, Oct.At.zero s, by rw [List.append_nil]; exact hP0, hM0⟩
      case round =>
        clear hM0 hP0
        obtain ⟨f', k', q, e, out, hk', rfl, rfl, hf', HA, hP, hM⟩ := hrel
        have hlen : (D ++ out).length ≤ 100000000000 := by
          have h1 := HA.out.len
          have h2 : D.length ≤ 1000001 * 1000 := HD.out
          rw [List.length_append]; omega
        by_cases hlt2 : k' < s.size
        · have hc := (s[k']).toNat_lt
          cases hq : (Oct.nq q e s[k']).1 with
          | true =>
            have HN2 := Lib.hid (HA.out.on hlt2 (by rw [hq]; simp))
            go_wp2_with (go_at_call 52; refine (outside_c _ _ _ q e _ hM).mono ?_; rintro r w1 ⟨rfl, hM1, hA1⟩)
            go_roundw
            case rel => exact ⟨f', k' + 1, _, _, out, by omega, rfl, by go_num, by omega, HN2, hA1.pieces hM hP (by omega) (by omega), hM1⟩
            case measure => simp [intOf]; omega
          | false =>
            by_cases h44 : (s[k'].toNat : Int) = 44
            · have HN2 := Lib.hid (HA.out.cut hlt2 hq (Oct.u8_eq (n := 44) h44))
              have b44 : ((s[k'].toNat : Int) == 44) = true := beq_iff_eq.2 h44
              clear h44
              have hcs : (s.extract f' k').size ≤ 1000000 := by simp; omega
              have HCM := Lib.hid (cut_mid s f' k')
              go_wp2_with (first | (go_at_call 52; refine (outside_c _ _ _ q e _ hM).mono ?_; rintro r w1 ⟨rfl, hM1, hA1⟩; have hP1 := hA1.pieces hM hP (by omega) (by omega)) | (go_at_call 38; refine (add_s w (s.extract f' k') (D ++ out) _ hcs hlen hP1).mono ?_; rintro r w2 ⟨rfl, hP2, hB2⟩))
              go_roundw
              case rel => exact ⟨k' + 1, k' + 1, _, _, _, by omega, by go_num, by go_num, by omega, HN2, by rw [← HCM.out, ← List.append_assoc]; exact hP2, hM1.later hB2⟩
              case measure => simp [intOf]; omega
            · have HN2 := Lib.hid (HA.out.on hlt2 (by rintro ⟨_, h⟩; exact h44 (by rw [h]; rfl)))
              have b44 : ((s[k'].toNat : Int) == 44) = false := beq_eq_false_iff_ne.2 h44
              clear h44
              go_wp2_with (go_at_call 52; refine (outside_c _ _ _ q e _ hM).mono ?_; rintro r w1 ⟨rfl, hM1, hA1⟩)
              go_roundw
              case rel => exact ⟨f', k' + 1, _, _, out, by omega, rfl, by go_num, by omega, HN2, hA1.pieces hM hP (by omega) (by omega), hM1⟩
              case measure => simp [intOf]; omega
        · obtain rfl : k' = s.size := by omega
          have HT := Lib.hid HA.out.done
          have hcs : (s.extract f' s.size).size ≤ 1000000 := by simp; omega
          have HCM := Lib.hid (cut_mid s f' s.size)
          have HTA := Lib.hid (Oct.take_all s s.size (Nat.le_refl _))
          go_wp2_with (go_at_call 38; refine (add_s w (s.extract f' s.size) (D ++ out) _ hcs hlen hP).mono ?_; rintro r w2 ⟨rfl, hP2, hB2⟩)
          go_roundw
          case rel => exact ⟨k + 1, by omega, by go_num, by rw [HSn.out, ← HX.out, HT.out, ← List.append_assoc]; rw [HCM.out, HTA.out] at hP2; exact hP2⟩
          case measure => simp [intOf]; omega
    · obtain rfl : k = n := by omega
      obtain ⟨v, hP1⟩ := hP
      have HTA : Hid (ls.take k = ls) := List.take_of_length_le (by have := HN.out; omega)
      obtain ⟨av, nv, cv, rfl⟩ : ∃ a n c, v = .slice a n c := by
        rcases hP1.2.1.2 with ⟨hv, _⟩ | ⟨g, cap, cur, hv, _⟩
        · exact ⟨_, _, _, hv⟩
        · exact ⟨_, _, _, hv⟩
      have hc0 := cell_of_one hP1.1
      go_wp2_with fail
      go_ret
      exact ⟨_, rfl, by have h := hP1.2.1; rw [HTA.out] at h; exact h, hP1.2.2⟩

end Go.Proofs.YtljpidpddlgkpaaDoor
