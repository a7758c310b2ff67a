/- The statements of layer 4: ControlParses. -/
import Derived.Test.YtolhhejhjjiefaaDoorCt8
import Derived.Test.YtolhhejhjjiefaaDoorCt9
namespace Go.Proofs.YtolhhejhjjiefaaDoor
open Go.RowKit

set_option maxHeartbeats 3200000 in
set_option maxRecDepth 100000 in
theorem cparses_w (va : Value) (ls : List (List UInt8)) (w : World) (hv : SIn w va ls) (hbig : ls.length ≤ 9223372036854775807) (hl : ∀ l ∈ ls, l.length ≤ 9223372036854775807) (hm : MaxOk w) :
    Calls Tryd.prog 3 #[va] w fun e w' => e = .returned (.bool true) ∧ Below w.heap.size w w' := by
  have cA := fun (w1 : World) (hb : Below w.heap.size w w1) => cawake_w w1 (hm.later hb)
  have HM := Lib.hid hm
  have HV := Lib.hid hv
  have hwb : Below w.heap.size w w := Below.refl _ _
  obtain ⟨ao, ca, rfl, hao⟩ := hv
  obtain ⟨n, hnn⟩ : ∃ n, n = ls.length := ⟨_, rfl⟩
  have HN := Lib.hid hnn
  rw [← hnn] at hbig HV ⊢
  by_cases h20 : (20 : Int) < n
  · clear hnn hl hao
    go_enter Tryd.func3, Tryd.ntmps3
    go_wp2_with fail
    refine (cA w hwb).mono ?_
    rintro e w1 ⟨rfl, hb1⟩
    go_wp2_with fail
    refine (cA w1 hb1).mono ?_
    rintro e w2 ⟨rfl, hb2⟩
    go_wp2_with fail
    go_ret
    exact ⟨rfl, bt hb1 hb2⟩
  have hn20 : (n : Int) ≤ 20 := by omega
  have HL := Lib.hid hl
  have HC : Hid (∀ w5 k (hk : k < n), Below w.heap.size w w5 → ∃ b o, ao = some ⟨b, o, none⟩ ∧ w5.cell? ⟨b, o + k, none⟩ = some (.string (str (ls[k]'(by rw [← HN.out]; exact hk))))) := by
    intro w5 k hk hb
    rcases hao with h | ⟨b, o, h1, h2, h3⟩
    · exfalso; rw [HN.out, h] at hk; cases hk
    · exact ⟨b, o, h1, by rw [hb.cell (p := ⟨b, o + k, none⟩) h2]; exact h3 k (by rw [← HN.out]; exact hk)⟩
  clear hnn hl hao hm hbig
  go_enter Tryd.func3, Tryd.ntmps3
  go_wp2_with fail
  refine (cA w hwb).mono ?_
  rintro e w1 ⟨rfl, hb1⟩
  go_wp2_with fail
  go_loop [3] (fun i => ∃ k : Nat, k ≤ n ∧ i = .int .i64 k ∧ Hid (∀ j (hj : j < n), j < k → (ls[j]'(by rw [← HN.out]; exact hj)).length ≤ 1000)) (fun i => n - (intOf i).toNat)
  case atStart => exact ⟨0, by omega, rfl, Lib.hid (fun j _ h => by omega)⟩
  case round =>
    obtain ⟨k, hk, rfl, HS⟩ := hrel
    by_cases hlt : k < n
    · obtain ⟨b, o, rfl, hcell⟩ := HC.out w1 k hlt hb1
      have hkl : k < ls.length := by have := HN.out; omega
      have hsl : (str ls[k]).size = ls[k].length := str_size _
      have HSL := Lib.hid hsl
      by_cases hbig : (1000 : Int) < (str ls[k]).size
      · have hz : (str ls[k]).size ≤ 9223372036854775807 := by rw [hsl]; exact HL.out _ (List.getElem_mem hkl)
        generalize str ls[k] = s at *
        clear hsl
        go_wp2_with fail
        go_ret
        exact ⟨rfl, hb1⟩
      · have hz : (str ls[k]).size ≤ 9223372036854775807 := by rw [hsl]; exact HL.out _ (List.getElem_mem hkl)
        have hsm : (str ls[k]).size ≤ 1000 := by omega
        generalize str ls[k] = s at *
        clear hsl
        go_wp2_with fail
        go_round
        case rel => exact ⟨k + 1, by omega, by go_num, Lib.hid (fun j hj h => by
          by_cases hjk : j = k
          · subst hjk; have := HSL.out; omega
          · exact HS.out j hj (by omega))⟩
        case measure => simp [intOf]; omega
    · obtain rfl : k = n := by omega
      have hall : ∀ l ∈ ls, l.length ≤ 1000000 := fun l hl => by
        obtain ⟨j, hj, rfl⟩ := List.getElem_of_mem hl
        have := HS.out j (by have := HN.out; omega) (by have := HN.out; omega)
        omega
      have hn1 : ls.length ≤ 1000 := by have := HN.out; omega
      have cP := fun (w2 : World) (hb : Below w.heap.size w w2) => Parse_w _ ls w2 (HV.out.later hb) hn1 hall (HM.out.later hb)
      have cR := fun (w2 : World) (hb : Below w.heap.size w w2) => rCParse_w _ ls w2 (HV.out.later hb) hn1 hall
      have cN := fun (w2 : World) => None_w w2
      have cZ := fun (w2 : World) => rCParse_w (.slice none 0 0) [] w2 ⟨none, 0, rfl, .inl rfl⟩ (by decide) (by decide)
      rw [Ctl.parse_nil] at cZ
      generalize Ctl.parse ls = c at *
      rw [show cval Ctl.none0 = .agg #[.bool false, .bool false, .bool false, .bool false, .bool false, .bool false, .bool false, .int .i64 (-1), .int .i64 (-1), .int .i64 (-1), .int .i64 (-1)] from rfl] at cN cZ
      obtain ⟨c0, c1, c2, c3, c4, c5, c6, c7, c8, c9, c10⟩ := c
      unfold cval ccells at cP cR
      simp only [] at cP cR
      clear HC HL HS hall hn1 cA
      go_wp2_with fail
      refine (cP w1 hb1).mono ?_
      rintro e w2 ⟨rfl, hb2⟩
      have hb2 := bt hb1 hb2
      go_wp2_with fail
      refine (cR w2 hb2).mono ?_
      rintro e w3 ⟨rfl, hb3⟩
      have hb3 := bt hb2 hb3
      go_wp2_with fail
      refine (cN w3).mono ?_
      rintro e w4 ⟨rfl, hb4⟩
      have hb4 := bt hb3 hb4
      go_wp2_with fail
      refine (cZ w4).mono ?_
      rintro e w5 ⟨rfl, hb5⟩
      have hb5 := bt hb4 hb5
      go_wp2_with fail
      go_ret
      exact ⟨rfl, hb5⟩
end Go.Proofs.YtolhhejhjjiefaaDoor
