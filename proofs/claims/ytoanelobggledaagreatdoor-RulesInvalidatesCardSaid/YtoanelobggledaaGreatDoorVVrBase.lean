/- What lies below, out of the texts of the layers under this one: Vr1, Vr2, Vr3, Vr4. -/
import Derived.Test.YtoanelobggledaaGreatDoorVM2
import Derived.Test.YtoanelobggledaaGreatDoorVDtBase
import Derived.Test.YtoanelobggledaaGreatDoorVFd
import Derived.Lib.OwnBridge
import Derived.Sort.OwnSorted
namespace Go.Proofs.YtoanelobggledaaGreatDoor
open Go.RowKit

end Go.Proofs.YtoanelobggledaaGreatDoor

namespace Go.Proofs.YtoanelobggledaaGreatDoor
open Go.RowKit

end Go.Proofs.YtoanelobggledaaGreatDoor

namespace Go.Proofs.YtoanelobggledaaGreatDoor
open Go.RowKit

end Go.Proofs.YtoanelobggledaaGreatDoor

namespace Go.Proofs.YtoanelobggledaaGreatDoor
open Go.RowKit

theorem Sort_w {base : Nat} (g cap : Nat) (ss : List (List UInt8)) (w : World) (h : w.ownsRow base 9 1 (.slice (some ⟨g, 0, none⟩) ss.length cap) ss.length (strCells ss)) (hlen : ss.length ≤ 4611686018427387000) :
    Calls Tryz.prog 103 #[.slice (some ⟨g, 0, none⟩) ss.length cap] w fun e w' => e = .returned (.tuple #[]) ∧
      w'.ownsRow base 9 1 (.slice (some ⟨g, 0, none⟩) ss.length cap) ss.length (strCells (ss.mergeSort fun x y => decide (x ≤ y))) ∧ ∀ W : World, W.heap.size ≤ base → Below W.heap.size W w → Below W.heap.size W w' := by
  have hl2 : (ss.mergeSort fun x y => decide (x ≤ y)).length = ss.length := List.length_mergeSort ss
  rcases h.2 with ⟨h0, _⟩ | ⟨g', cap', cur, hv, hbase, hb, h1, h2, h3, h4⟩
  · cases h0
  cases hv
  refine (Tryz.slices_Sort_string g 0 cap ss w (holds_of_block hb (by rw [Nat.mul_one] at h4; exact h4)) (lt_of_block hb) (by omega)).mono ?_
  rintro e w' ⟨rfl, nn, os, rfl⟩
  refine ⟨rfl, ownsRow_sorted hl2 hbase hb h1 h2 h3, fun W hW hB => ?_⟩
  exact hB.grown (grownBy_sorted _) hB.size (fun j hj => by cases hj; omega)
theorem Compact_w {base : Nat} (g cap : Nat) (ss : List (List UInt8)) (w : World) (h : w.ownsRow base 9 1 (.slice (some ⟨g, 0, none⟩) ss.length cap) ss.length (strCells ss)) (hlen : ss.length ≤ 4611686018427387000) :
    Calls Tryz.prog 104 #[.slice (some ⟨g, 0, none⟩) ss.length cap] w fun e w' => e = .returned (.slice (some ⟨g, 0, none⟩) (Lib.compact ss).length cap) ∧
      w'.ownsRow base 9 1 (.slice (some ⟨g, 0, none⟩) (Lib.compact ss).length cap) (Lib.compact ss).length (strCells (Lib.compact ss)) ∧ ∀ W : World, W.heap.size ≤ base → Below W.heap.size W w → Below W.heap.size W w' := by
  have hle := Lib.compact_length_le ss
  rcases h.2 with ⟨h0, _⟩ | ⟨g', cap', cur, hv, hbase, hb, h1, h2, h3, h4⟩
  · cases h0
  cases hv
  refine (Tryz.slices_Compact_string g 0 cap ss w (holds_of_block hb (by rw [Nat.mul_one] at h4; exact h4)) (by omega) h1).mono ?_
  rintro e w' ⟨rfl, q, rfl⟩
  have hc := Lib.ownsRow_putRow (q := q) (k := (Lib.compact ss).length) (ys := Lib.compact ss ++ List.replicate (ss.length - (Lib.compact ss).length) []) (enc := encStr) (zs := ss) h (by simp; omega) hle
  rw [List.take_left] at hc
  exact ⟨rfl, hc, fun W hW hB => Lib.below_putRow hB (by omega)⟩
theorem row_cell {w : World} {base g n cap : Nat} {ls : List (List UInt8)} (h : w.ownsRow base 9 1 (.slice (some ⟨g, 0, none⟩) n cap) n (strCells ls)) (k : Nat) (hk : k < n) (hl : k < ls.length) : w.cell? ⟨g, k, none⟩ = some (.string (str ls[k])) ∧ w.frozen? ⟨g, k, none⟩ = false := by
  rcases h.2 with ⟨h0, _⟩ | ⟨g', cap', cur, hv, hbase, hb, h1, h2, h3, h4⟩
  · cases h0
  cases hv
  constructor
  · have h5 : cur.toList[k]? = some (.string (str ls[k])) := by
      have h6 : (cur.toList.take (n * 1))[k]? = (strCells ls)[k]? := by rw [h4]
      rw [List.getElem?_take_of_lt (by omega)] at h6
      rw [h6]; simp [strCells, hl]
    simp only [World.cell?, hb]
    simpa using h5
  · simp [World.frozen?, hb]
theorem row_store {w : World} {base g n cap : Nat} {ls : List (List UInt8)} (h : w.ownsRow base 9 1 (.slice (some ⟨g, 0, none⟩) n cap) n (strCells ls)) (k : Nat) (l : List UInt8) : (w.setCell ⟨g, k, none⟩ (.string (str l))).ownsRow base 9 1 (.slice (some ⟨g, 0, none⟩) n cap) n (strCells (ls.set k l)) := by
  have hl : (strCells ls).length = n * 1 := h.1
  rcases h.2 with ⟨h0, _⟩ | ⟨g', cap', cur, hv, hbase, hb, h1, h2, h3, h4⟩
  · cases h0
  cases hv
  have hlt := lt_of_block hb
  refine ⟨by rw [strCells_length, List.length_set]; rw [strCells_length] at hl; exact hl, .inr ⟨g, cap, cur.setIfInBounds k (.string (str l)), rfl, hbase, ?_, h1, h2, by simpa using h3, ?_⟩⟩
  · show (w.heap.modify g _)[g]? = _
    have h' : w.heap[g] = .cells cur 9 (0, 0) := by simpa [Array.getElem?_eq_getElem hlt] using hb
    rw [Array.getElem?_eq_getElem (by simpa using hlt), Array.getElem_modify_self, h']
    rfl
  · rw [Array.toList_setIfInBounds, List.take_set, h4]
    simp [strCells, List.map_set]
def lowTo (ps : List (List UInt8)) (k : Nat) : List (List UInt8) := (ps.take k).map Oct.lower ++ ps.drop k
theorem lowTo_zero (ps : List (List UInt8)) : lowTo ps 0 = ps := by simp [lowTo]
theorem lowTo_length (ps : List (List UInt8)) (k : Nat) : (lowTo ps k).length = ps.length := by simp [lowTo]; omega
theorem lowTo_all (ps : List (List UInt8)) (k : Nat) (h : ps.length ≤ k) : lowTo ps k = ps.map Oct.lower := by
  unfold lowTo; rw [List.take_of_length_le h, List.drop_of_length_le h, List.append_nil]
theorem lowTo_at (ps : List (List UInt8)) (k : Nat) (h : k < ps.length) {hk : k < (lowTo ps k).length} : (lowTo ps k)[k] = ps[k] := by
  have e : (lowTo ps k)[k]? = some ps[k] := by
    unfold lowTo
    rw [List.getElem?_append_right (by simp; omega)]
    simp [Nat.min_eq_left (Nat.le_of_lt h), h]
  rw [List.getElem?_eq_getElem hk] at e; exact Option.some.inj e
theorem lowTo_next (ps : List (List UInt8)) (k : Nat) (h : k < ps.length) : lowTo ps (k + 1) = (lowTo ps k).set k (Oct.lower ps[k]) := by
  unfold lowTo
  rw [List.take_succ_eq_append_getElem h, List.map_append, List.append_assoc, List.set_append_right _ _ (by simp; omega), List.drop_eq_getElem_cons h]
  simp only [List.length_map, List.length_take, Nat.min_eq_left (Nat.le_of_lt h), Nat.sub_self, List.set_cons_zero]
  rfl
set_option maxHeartbeats 3200000 in
set_option maxRecDepth 100000 in
theorem Names_w (va : Value) (ls : List (List UInt8)) (w : World) (hv : SIn w va ls) (hn : ls.length ≤ 1000) (hl : ∀ l ∈ ls, l.length ≤ 1000000) :
    Calls Tryz.prog 72 #[va] w fun e w' => ∃ v, e = .returned (.tuple #[v, .bool (Vr.names ls).2]) ∧ SBuf w w' v (Vr.names ls).1 := by
  have cS := Split_s va ls w hv hn hl
  have hpn := Oct.splitAll_len ls hl
  have hpl := Vr.piece_len hl
  obtain ⟨ao, cap, rfl, _⟩ := hv
  obtain ⟨PS, hPS⟩ : ∃ PS, PS = Oct.splitAll ls := ⟨_, rfl⟩
  rw [← hPS] at cS hpn hpl
  have HPS := Lib.hid hPS
  have hnb : ∀ k (h : k < PS.length), Vr.good PS[k] = false → Vr.names ls = ([], false) := by subst hPS; exact fun k h hg => Vr.names_bad h hg
  have hna : PS.all Vr.good = true → Vr.names ls = (Vr.insAll (PS.map Oct.lower), true) := by subst hPS; exact Vr.names_all
  have HNB := Lib.hid hnb
  have HNA := Lib.hid hna
  have HPL := Lib.hid hpl
  have hp9 : PS.length ≤ 4611686018427387000 := by omega
  obtain ⟨n, hnn⟩ : ∃ n, n = PS.length := ⟨_, rfl⟩
  have HN := Lib.hid hnn
  rw [← hnn] at cS hp9
  by_cases h0 : n = 0
  · have he : PS = [] := List.eq_nil_of_length_eq_zero (by omega)
    have HE : Hid (Vr.names ls = ([], true)) := Lib.hid (by rw [hna (by rw [he]; rfl), he]; rfl)
    have HP := Lib.hid he
    subst h0
    clear hPS hnb hna hpl hp9 hnn hpn hl hn he
    go_enter Tryz.func72, Tryz.ntmps72
    go_wp2_with fail
    refine cS.mono ?_
    rintro e w1 ⟨v, rfl, hR, hb1⟩
    have hv : ∃ a c, v = .slice a 0 c := by
      rcases hR.2 with ⟨rfl, _⟩ | ⟨g, cap, cur, rfl, _⟩
      · exact ⟨_, _, rfl⟩
      · exact ⟨_, _, rfl⟩
    obtain ⟨a1, c1, rfl⟩ := hv
    go_wp2_with fail
    refine wp_loop_rounds 1 ?_
    rw [rounds_succ]
    go_wp2_with fail
    refine (Tryz.slices_Sort_string_none a1 c1 w1).mono ?_
    rintro e w2 ⟨rfl, rfl⟩
    go_wp2_with fail
    refine (Tryz.slices_Compact_string_empty a1 c1 w2).mono ?_
    rintro e w3 ⟨rfl, rfl⟩
    go_wp2_with fail
    go_ret2
    exact ⟨_, by rw [HE.out]; rfl, by rw [HE.out]; exact ⟨by have := row_from hR (Nat.le_succ _); rw [HP.out] at this; exact this, hb1⟩⟩
  go_enter Tryz.func72, Tryz.ntmps72
  go_wp2_with fail
  refine cS.mono ?_
  rintro e w1 ⟨v, rfl, hR, hb1⟩
  rcases id hR.2 with ⟨_, e0⟩ | ⟨g, cap1, cur, rfl, hg, _⟩
  · exact absurd e0 h0
  clear h0 hPS hnb hna hpl hnn hpn hl hn cS
  go_wp2_with fail
  go_loopw [5, 6, 11] (fun i s j wr => ∃ k : Nat, k ≤ n ∧ j = .int .i64 k ∧ Hid ((PS.take k).all Vr.good = true) ∧ wr.ownsRow (w.heap.size + 1) 9 1 (.slice (some ⟨g, 0, none⟩) n cap1) n (strCells (lowTo PS k)) ∧ Below w.heap.size w wr) (fun _ _ j _ => n - (intOf j).toNat)
  case atStart => exact ⟨0, by omega, rfl, Lib.hid rfl, by rw [lowTo_zero]; exact hR, hb1⟩
  case round =>
    clear hR
    obtain ⟨k, hk, rfl, HG, hR, hb⟩ := hrel
    by_cases hlt : k < n
    · have ka : k < PS.length := by have := HN.out; omega
      have hcl := row_cell hR k hlt (by rw [lowTo_length]; exact ka)
      rw [lowTo_at PS k ka] at hcl
      obtain ⟨c1, _⟩ := hcl
      have z := HPL.out _ (List.getElem_mem ka)
      have zs : (str PS[k]).size ≤ 1000000 := by rw [str_size]; exact z
      have cT := fun w => Token_s (str PS[k]) w zs
      have cL := fun w => Lower_s (str PS[k]) w zs
      rw [str_list] at cT cL
      by_cases hst : PS[k] = [42]
      · have HB := Lib.hid (HNB.out k ka (Vr.good_star hst))
        have hx : str PS[k] = ⟨#[42]⟩ := by rw [hst]; rfl
        rw [hx] at c1
        clear hst hx cT cL z zs
        go_wp2_with fail
        go_ret2
        exact ⟨_, by rw [HB.out]; rfl, by rw [HB.out]; exact ⟨World.ownsRow_nil _ _ _ _, hb⟩⟩
      · have b42 : ((str PS[k]).toList == [42]) = false := by rw [str_toList]; exact beq_eq_false_iff_ne.2 hst
        by_cases ht : Oct.token PS[k] = true
        · have HG1 := Lib.hid (Vr.all_snoc ka HG.out (Vr.good_yes hst ht))
          have HL1 := Lib.hid (lowTo_next PS k ka)
          rw [ht] at cT
          obtain ⟨x, hx⟩ : ∃ x, x = str PS[k] := ⟨_, rfl⟩
          obtain ⟨y, hy⟩ : ∃ y, y = str (Oct.lower PS[k]) := ⟨_, rfl⟩
          rw [← hx] at c1 cT cL b42
          rw [← hy] at cL
          have HY := Lib.hid hy
          clear hst ht hx hy z zs
          go_wp2_with fail
          refine (cT _).mono ?_
          rintro e w2 ⟨rfl, rfl⟩
          go_wp2_with fail
          refine (cL _).mono ?_
          rintro e w3 ⟨rfl, hb3⟩
          have hR3 := row_below hR hb3
          obtain ⟨c3, f3⟩ := row_cell hR3 k hlt (by rw [lowTo_length]; have := HN.out; omega)
          have hR4 := row_store hR3 k (Oct.lower PS[k])
          rw [← HY.out, ← HL1.out] at hR4
          have hb4 := (hb.trans (hb3.mono hb.size)).setCell (p := ⟨g, k, none⟩) (by show _ ≤ g; omega) (.string y)
          clear hR3 hR
          go_wp2_with fail
          go_roundw
          case rel => exact ⟨k + 1, by omega, by go_num, HG1, hR4, hb4⟩
          case measure => simp [intOf]; omega
        · have ht' : Oct.token PS[k] = false := by simpa using ht
          have HB := Lib.hid (HNB.out k ka (Vr.good_bad ht'))
          rw [ht'] at cT
          generalize str PS[k] = x at c1 cT cL b42 zs
          clear hst ht ht' z
          go_wp2_with fail
          refine (cT _).mono ?_
          rintro e w2 ⟨rfl, rfl⟩
          go_wp2_with fail
          go_ret2
          exact ⟨_, by rw [HB.out]; rfl, by rw [HB.out]; exact ⟨World.ownsRow_nil _ _ _ _, hb⟩⟩
    · have hE : lowTo PS k = PS.map Oct.lower := lowTo_all PS k (by have := HN.out; omega)
      have hG : PS.all Vr.good = true := by have := HG.out; rw [List.take_of_length_le (by have := HN.out; omega)] at this; exact this
      have HB := Lib.hid (HNA.out hG)
      rw [hE] at hR
      have hml : (PS.map Oct.lower).length = n := by rw [List.length_map]; exact HN.out.symm
      have cO := Sort_w (base := w.heap.size + 1) g cap1 (PS.map Oct.lower) wr (by rw [hml]; exact hR) (by omega)
      rw [hml] at cO
      have hcs := Vr.compact_sort (PS.map Oct.lower)
      have hsl : ((PS.map Oct.lower).mergeSort fun x y => decide (x ≤ y)).length = n := by rw [List.length_mergeSort, hml]
      generalize ((PS.map Oct.lower).mergeSort fun x y => decide (x ≤ y)) = SS at cO hcs hsl
      have HCS := Lib.hid hcs
      have cC := fun (w2 : World) (h : w2.ownsRow (w.heap.size + 1) 9 1 (.slice (some ⟨g, 0, none⟩) n cap1) n (strCells SS)) => Compact_w (base := w.heap.size + 1) g cap1 SS w2 (by rw [hsl]; exact h) (by omega)
      rw [hsl] at cC
      clear hE hG hml hcs hsl HG
      go_wp2_with fail
      refine cO.mono ?_
      rintro e w2 ⟨rfl, hR2, hk2⟩
      have hb2 := hk2 w (Nat.le_succ _) hb
      have cC2 := cC w2 hR2
      clear cC cO hk2 hR2 hR
      go_wp2_with fail
      refine cC2.mono ?_
      rintro e w3 ⟨rfl, hR3, hk3⟩
      have hb3 := hk3 w (Nat.le_succ _) hb2
      obtain ⟨Z, hZ⟩ : ∃ Z, Z = Lib.compact SS := ⟨_, rfl⟩
      rw [← hZ] at hR3 ⊢
      have HZ := Lib.hid hZ
      clear hZ cC2 hk3
      go_wp2_with fail
      go_ret2
      exact ⟨_, by rw [HB.out]; rfl, by rw [HB.out]; exact ⟨by rw [← HCS.out, ← HZ.out]; exact row_from hR3 (Nat.le_succ _), hb3⟩⟩
end Go.Proofs.YtoanelobggledaaGreatDoor

