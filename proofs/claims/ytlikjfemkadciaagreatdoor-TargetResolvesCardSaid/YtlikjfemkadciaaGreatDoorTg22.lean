/- The document's own answer for package target: a host and a port. -/
import Derived.Test.YtlikjfemkadciaaGreatDoorTg21
namespace Go.Proofs.YtlikjfemkadciaaGreatDoor
open Go.RowKit

/-- What the document's Seat answers. -/
def qres : Option (List UInt8 × Int) → Value
  | none => .tuple #[.string ⟨#[]⟩, .int .i64 0, .bool false]
  | some x => .tuple #[.string (str x.1), .int .i64 x.2, .bool true]
theorem rcut_col (l : List UInt8) (k : Nat) (hk : k < l.length) (h : l[k] = 58) (hn : ∀ c ∈ l.drop (k + 1), c ≠ 58 ∧ c ≠ 93) : Tg.RCut l k :=
  .inl ⟨l.drop (k + 1), by omega, by rw [List.drop_eq_getElem_cons hk, h], hn⟩
theorem rcut_close (l : List UInt8) (k : Nat) (hk : k < l.length) (h : l[k] = 93) (hn : ∀ c ∈ l.drop (k + 1), c ≠ 58 ∧ c ≠ 93) : Tg.RCut l l.length := by
  refine .inr ⟨rfl, .inr ⟨l.take k, l.drop (k + 1), ?_, hn⟩⟩
  conv => lhs; rw [← List.take_append_drop k l, List.drop_eq_getElem_cons hk, h]
theorem drop_step (l : List UInt8) (k : Nat) (hk : k < l.length) (h : l[k] ≠ 58) (h2 : l[k] ≠ 93) (hn : ∀ c ∈ l.drop (k + 1), c ≠ 58 ∧ c ≠ 93) : ∀ c ∈ l.drop k, c ≠ 58 ∧ c ≠ 93 := by
  rw [List.drop_eq_getElem_cons hk]
  intro c hc
  rcases List.mem_cons.1 hc with rfl | hc
  · exact ⟨h, h2⟩
  · exact hn c hc

theorem seat_no {l : List UInt8} {a : Nat} (h : Tg.RCut l a) (hh : Tg.isHost (l.take a) = false) : Tg.site l = none := by
  rw [← Tg.site_ref h]; unfold Tg.siteAt; rw [if_neg (by rw [hh]; decide)]
theorem seat_80 {l : List UInt8} {a : Nat} (h : Tg.RCut l a) (hh : Tg.isHost (l.take a) = true) (h1 : l.length ≤ a + 1) : Tg.site l = some (Oct.lower (l.take a), 80) := by
  rw [← Tg.site_ref h]; unfold Tg.siteAt; rw [if_pos hh]
  have hp : Tg.portOf (l.drop a) = some 80 := by
    rcases h.drop.2 with e | ⟨t, e⟩
    · rw [e]; rfl
    · have := congrArg List.length e
      rw [List.length_drop] at this
      have ht : t = [] := List.eq_nil_of_length_eq_zero (by simp at this; omega)
      rw [e, ht]; rfl
  rw [hp]; rfl
theorem seat_num {l : List UInt8} {a : Nat} (h : Tg.RCut l a) (hh : Tg.isHost (l.take a) = true) (h1 : a + 1 < l.length) {x y : Int} (hn : Oct.number 10 65535 (l.drop (a + 1)) = (x, y)) :
    Tg.site l = if y = 0 ∧ l.length - a - 1 ≤ 5 then some (Oct.lower (l.take a), x) else none := by
  rw [← Tg.site_ref h]; unfold Tg.siteAt; rw [if_pos hh]
  rcases h.drop.2 with e | ⟨t, e⟩
  · have := congrArg List.length e
    rw [List.length_drop] at this; simp at this; omega
  · have ht : t = l.drop (a + 1) := by rw [← List.drop_drop, e]; rfl
    have htl : t.length = l.length - a - 1 := by rw [ht, List.length_drop]; omega
    have hp : Tg.portOf (l.drop a) = if y = 0 ∧ l.length - a - 1 ≤ 5 then some x else none := by
      rw [e]
      show Tg.portV t = _
      unfold Tg.portV
      rw [if_neg (by intro e2; rw [e2] at htl; simp at htl; omega), ht, hn, ← ht, htl]
    rw [hp]
    split <;> rfl

set_option maxHeartbeats 3200000 in
set_option maxRecDepth 100000 in
/-- Behind the loop: whichever place it has found. -/
theorem seat_s (l : List UInt8) (w : World) (hl : l.length ≤ 100000) :
    Calls Tryz.prog 26 #[.string (str l)] w fun e w' => e = .returned (qres (Tg.site l)) ∧ Below w.heap.size w w' := by
  obtain ⟨s, hs⟩ : ∃ s, s = str l := ⟨_, rfl⟩
  have hsd : s.data.toList = l := by rw [hs, str_list]
  have hsz : s.size = l.length := by rw [hs, str_size]
  rw [← hs]
  have hat : ∀ k (hk : k < s.size) (hk2 : k < l.length), l[k] = s[k] := fun k hk hk2 => by
    have := Lib.data_getElem? s k hk
    rw [hsd] at this
    exact (List.getElem?_eq_some_iff.1 this).2
  have HAT := Lib.hid hat
  have HSZ := Lib.hid hsz
  have hs6 : s.size ≤ 100000 := by omega
  have cH := fun (a : Nat) (ha : a ≤ l.length) (W : World) => rhost_s (l.take a) W (by rw [List.length_take]; omega)
  have cL := fun (a : Nat) (ha : a ≤ l.length) (W : World) => rLower_s (s.extract 0 a) W (by simp; omega)
  have e0 : ∀ a, (s.extract 0 a).data.toList = l.take a := fun a => by rw [Lib.extract_data, hsd]; simp
  have e1 : ∀ a, a ≤ l.length → (s.extract (a + 1) s.size).data.toList = l.drop (a + 1) := fun a ha => by
    rw [Lib.extract_data, hsd, List.take_of_length_le]; rw [List.length_drop]; omega
  have cH2 : ∀ a, a ≤ l.length → ∀ W, Calls Tryz.prog 45 #[.string (s.extract 0 a)] W fun e w' => e = .returned (.bool (Tg.isHost (l.take a))) ∧ Below W.heap.size W w' := fun a ha W => by
    have := cH a ha W
    rwa [← str_same (e0 a)] at this
  have cL2 : ∀ a, a ≤ l.length → ∀ W, Calls Tryz.prog 44 #[.string (s.extract 0 a)] W fun e w' => e = .returned (.string (str (Oct.lower (l.take a)))) ∧ Below W.heap.size W w' := fun a ha W => by
    have := cL a ha W
    rwa [e0 a] at this
  have cN2 : ∀ a, a ≤ l.length → ∀ x y, Oct.number 10 65535 (l.drop (a + 1)) = (x, y) → ∀ W, Calls Tryz.prog 46 #[.string (s.extract (a + 1) s.size), .int .i64 10, .int .i64 65535] W fun e w' => e = .returned (.tuple #[.int .i64 x, .int .i64 y]) ∧ W = w' := fun a ha x y hxy W =>
    rNumber_is (s.extract (a + 1) s.size) 65535 x y W (by simp; omega) (by decide) (by decide) (by rw [e1 a ha]; exact hxy)
  have HH := Lib.hid cH2
  have HL := Lib.hid cL2
  have HN := Lib.hid cN2
  clear cH cL cH2 cL2 cN2 e0 e1 hs hsd hat hsz
  have hx0 : s.extract 0 s.size = s := ByteArray.extract_zero_size
  have hw1 : IntKind.i64.wrap ((s.size : Int) - 1) = (s.size : Int) - 1 := by rw [IntKind.wrap_i64]; omega
  go_enter Tryz.func26, Tryz.ntmps26
  go_wp2_with fail
  have hb : Below w.heap.size w w := Below.refl _ _
  go_loop [5, 6] (fun a5 i => ∃ k : Nat, k ≤ s.size ∧ a5 = .int .i64 s.size ∧ i = .int .i64 ((k : Int) - 1) ∧ Hid (∀ c ∈ l.drop k, c ≠ 58 ∧ c ≠ 93)) (fun _ i => (intOf i + 1).toNat)
  case atStart => exact ⟨s.size, by omega, rfl, rfl, Lib.hid (by rw [HSZ.out, List.drop_length]; intro c hc; cases hc)⟩
  case round =>
    obtain ⟨k, hk, rfl, rfl, HA⟩ := hrel
    by_cases h0 : k = 0
    · subst h0
      have hrc : Tg.RCut l s.size := by rw [HSZ.out]; exact .inr ⟨rfl, .inl (by have := HA.out; simpa using this)⟩
      have hal : s.size ≤ l.length := by rw [HSZ.out]; exact Nat.le_refl _
      cases hih : Tg.isHost (l.take (s.size)) with
      | false =>
        have HV : Hid (Tg.site l = none) := Lib.hid (seat_no hrc hih)
        have cH := HH.out _ hal
        rw [hih] at cH
        rw [hx0] at cH
        have HQ : Hid (qres (Tg.site l) = .tuple #[.string ⟨#[]⟩, .int .i64 0, .bool false]) := by rw [HV.out]; exact Lib.hid rfl
        clear HV
        clear hih hrc hal
        go_wp2_with fail
        refine (cH _).mono ?_
        rintro e w1 ⟨rfl, hb1⟩
        have hb := bt' hb hb1
        clear hb1
        go_wp2_with fail
        go_ret3
        exact ⟨congrArg Ending.returned HQ.out.symm, hb⟩
      | true =>
        have cH := HH.out _ hal
        rw [hih] at cH
        rw [hx0] at cH
        have cL := HL.out _ hal
        rw [hx0] at cL
        have h1 : l.length ≤ s.size + 1 := by have := HSZ.out; omega
        have HV : Hid (Tg.site l = some (Oct.lower (l.take (s.size)), 80)) := Lib.hid (seat_80 hrc hih h1)
        obtain ⟨lo, hlo⟩ : ∃ lo, str (Oct.lower (l.take (s.size))) = lo := ⟨_, rfl⟩
        rw [hlo] at cL
        have HQ : Hid (qres (Tg.site l) = .tuple #[.string lo, .int .i64 80, .bool true]) := by rw [HV.out, ← hlo]; exact Lib.hid rfl
        clear hlo HV
        have h1i : (s.size : Int) ≤ (((s.size) : Nat) : Int) + 1 := by have := HSZ.out; omega
        clear hih hrc hal h1
        go_wp2_with fail
        refine (cH _).mono ?_
        rintro e w1 ⟨rfl, hb1⟩
        have hb := bt' hb hb1
        clear hb1
        go_wp2_with fail
        refine (cL _).mono ?_
        rintro e w2 ⟨rfl, hb1⟩
        have hb := bt' hb hb1
        clear hb1
        go_wp2_with fail
        go_ret3
        exact ⟨congrArg Ending.returned HQ.out.symm, hb⟩
    · obtain ⟨k, rfl⟩ : ∃ j, k = j + 1 := ⟨k - 1, by omega⟩
      have hks : k < s.size := by omega
      have hkl : k < l.length := by have := HSZ.out; omega
      have hkk : ((k + 1 : Nat) : Int) - 1 = (k : Int) := by omega
      have hge : (0 : Int) ≤ (k : Int) := by omega
      rw [hkk]
      clear h0 hkk
      have hlk := HAT.out k hks hkl
      by_cases h93 : s[k] = 93
      · have hrc : Tg.RCut l s.size := by rw [HSZ.out]; exact rcut_close l k hkl (hlk.trans h93) HA.out
        have hal : s.size ≤ l.length := by rw [HSZ.out]; exact Nat.le_refl _
        have i93 : (s[k].toNat : Int) = 93 := by rw [h93]; rfl
        clear hlk h93
        cases hih : Tg.isHost (l.take (s.size)) with
        | false =>
          have HV : Hid (Tg.site l = none) := Lib.hid (seat_no hrc hih)
          have cH := HH.out _ hal
          rw [hih] at cH
          rw [hx0] at cH
          have HQ : Hid (qres (Tg.site l) = .tuple #[.string ⟨#[]⟩, .int .i64 0, .bool false]) := by rw [HV.out]; exact Lib.hid rfl
          clear HV
          clear hih hrc hal
          go_wp2_with fail
          refine (cH _).mono ?_
          rintro e w1 ⟨rfl, hb1⟩
          have hb := bt' hb hb1
          clear hb1
          go_wp2_with fail
          go_ret3
          exact ⟨congrArg Ending.returned HQ.out.symm, hb⟩
        | true =>
          have cH := HH.out _ hal
          rw [hih] at cH
          rw [hx0] at cH
          have cL := HL.out _ hal
          rw [hx0] at cL
          have h1 : l.length ≤ s.size + 1 := by have := HSZ.out; omega
          have HV : Hid (Tg.site l = some (Oct.lower (l.take (s.size)), 80)) := Lib.hid (seat_80 hrc hih h1)
          obtain ⟨lo, hlo⟩ : ∃ lo, str (Oct.lower (l.take (s.size))) = lo := ⟨_, rfl⟩
          rw [hlo] at cL
          have HQ : Hid (qres (Tg.site l) = .tuple #[.string lo, .int .i64 80, .bool true]) := by rw [HV.out, ← hlo]; exact Lib.hid rfl
          clear hlo HV
          have h1i : (s.size : Int) ≤ (((s.size) : Nat) : Int) + 1 := by have := HSZ.out; omega
          clear hih hrc hal h1
          go_wp2_with fail
          refine (cH _).mono ?_
          rintro e w1 ⟨rfl, hb1⟩
          have hb := bt' hb hb1
          clear hb1
          go_wp2_with fail
          refine (cL _).mono ?_
          rintro e w2 ⟨rfl, hb1⟩
          have hb := bt' hb hb1
          clear hb1
          go_wp2_with fail
          go_ret3
          exact ⟨congrArg Ending.returned HQ.out.symm, hb⟩
      · have n93 := nq8 s[k] 93 93 rfl h93
        by_cases h58 : s[k] = 58
        · have hrc : Tg.RCut l k := rcut_col l k hkl (hlk.trans h58) HA.out
          have hal : k ≤ l.length := by omega
          have i58 : (s[k].toNat : Int) = 58 := by rw [h58]; rfl
          clear hlk h93 h58
          cases hih : Tg.isHost (l.take (k)) with
          | false =>
            have HV : Hid (Tg.site l = none) := Lib.hid (seat_no hrc hih)
            have cH := HH.out _ hal
            rw [hih] at cH
            have HQ : Hid (qres (Tg.site l) = .tuple #[.string ⟨#[]⟩, .int .i64 0, .bool false]) := by rw [HV.out]; exact Lib.hid rfl
            clear HV
            clear hih hrc hal
            go_wp2_with fail
            refine (cH _).mono ?_
            rintro e w1 ⟨rfl, hb1⟩
            have hb := bt' hb hb1
            clear hb1
            go_wp2_with fail
            go_ret3
            exact ⟨congrArg Ending.returned HQ.out.symm, hb⟩
          | true =>
            have cH := HH.out _ hal
            rw [hih] at cH
            have cL := HL.out _ hal
            by_cases h1 : l.length ≤ k + 1
            · have HV : Hid (Tg.site l = some (Oct.lower (l.take (k)), 80)) := Lib.hid (seat_80 hrc hih h1)
              obtain ⟨lo, hlo⟩ : ∃ lo, str (Oct.lower (l.take (k))) = lo := ⟨_, rfl⟩
              rw [hlo] at cL
              have HQ : Hid (qres (Tg.site l) = .tuple #[.string lo, .int .i64 80, .bool true]) := by rw [HV.out, ← hlo]; exact Lib.hid rfl
              clear hlo HV
              have h1i : (s.size : Int) ≤ (((k) : Nat) : Int) + 1 := by have := HSZ.out; omega
              clear hih hrc hal h1
              go_wp2_with fail
              refine (cH _).mono ?_
              rintro e w1 ⟨rfl, hb1⟩
              have hb := bt' hb hb1
              clear hb1
              go_wp2_with fail
              refine (cL _).mono ?_
              rintro e w2 ⟨rfl, hb1⟩
              have hb := bt' hb hb1
              clear hb1
              go_wp2_with fail
              go_ret3
              exact ⟨congrArg Ending.returned HQ.out.symm, hb⟩
            · have h1i : ¬ (s.size : Int) ≤ (((k) : Nat) : Int) + 1 := by have := HSZ.out; omega
              obtain ⟨x, y, hxy⟩ : ∃ x y, Oct.number 10 65535 (l.drop (k + 1)) = (x, y) := ⟨_, _, rfl⟩
              have HV := Lib.hid (seat_num hrc hih (by omega) hxy)
              have cN := HN.out _ hal x y hxy
              have hsl : (((k) : Nat) : Int) + 1 ≤ (s.size : Int) := by omega
              have hsub : IntKind.i64.wrap ((s.size : Int) - (((k) : Nat) : Int)) = (s.size : Int) - (((k) : Nat) : Int) := by rw [IntKind.wrap_i64]; omega
              have hsub2 : IntKind.i64.wrap ((s.size : Int) - (((k) : Nat) : Int) - 1) = (s.size : Int) - (((k) : Nat) : Int) - 1 := by rw [IntKind.wrap_i64]; omega
              have HLEN : Hid (l.length - (k) - 1 ≤ 5 ↔ ¬ (5 : Int) < (s.size : Int) - (((k) : Nat) : Int) - 1) := Lib.hid (by have := HSZ.out; omega)
              by_cases hy : y = 0
              · by_cases h5 : (5 : Int) < (s.size : Int) - (((k) : Nat) : Int) - 1
                · have HV : Hid (Tg.site l = none) := by rw [HV.out, if_neg (fun e => HLEN.out.1 e.2 h5)]; exact Lib.hid rfl
                  have HQ : Hid (qres (Tg.site l) = .tuple #[.string ⟨#[]⟩, .int .i64 0, .bool false]) := by rw [HV.out]; exact Lib.hid rfl
                  clear HV
                  subst hy
                  clear HLEN hih hrc hal h1 hxy
                  generalize str (Oct.lower (l.take (k))) = lo at *
                  go_wp2_with fail
                  refine (cH _).mono ?_
                  rintro e w1 ⟨rfl, hb1⟩
                  have hb := bt' hb hb1
                  clear hb1
                  go_wp2_with fail
                  refine (cL _).mono ?_
                  rintro e w2 ⟨rfl, hb1⟩
                  have hb := bt' hb hb1
                  clear hb1
                  go_wp2_with fail
                  refine (cN _).mono ?_
                  rintro e w3 ⟨rfl, rfl⟩
                  go_wp2_with fail
                  go_ret3
                  exact ⟨congrArg Ending.returned HQ.out.symm, hb⟩
                · have HV : Hid (Tg.site l = some (Oct.lower (l.take (k)), x)) := by rw [HV.out, if_pos ⟨hy, HLEN.out.2 h5⟩]; exact Lib.hid rfl
                  obtain ⟨lo, hlo⟩ : ∃ lo, str (Oct.lower (l.take (k))) = lo := ⟨_, rfl⟩
                  rw [hlo] at cL
                  have HQ : Hid (qres (Tg.site l) = .tuple #[.string lo, .int .i64 x, .bool true]) := by rw [HV.out, ← hlo]; exact Lib.hid rfl
                  clear hlo HV
                  subst hy
                  clear HLEN hih hrc hal h1 hxy
                  go_wp2_with fail
                  refine (cH _).mono ?_
                  rintro e w1 ⟨rfl, hb1⟩
                  have hb := bt' hb hb1
                  clear hb1
                  go_wp2_with fail
                  refine (cL _).mono ?_
                  rintro e w2 ⟨rfl, hb1⟩
                  have hb := bt' hb hb1
                  clear hb1
                  go_wp2_with fail
                  refine (cN _).mono ?_
                  rintro e w3 ⟨rfl, rfl⟩
                  go_wp2_with fail
                  go_ret3
                  exact ⟨congrArg Ending.returned HQ.out.symm, hb⟩
              · have HV : Hid (Tg.site l = none) := by rw [HV.out, if_neg (fun e => hy e.1)]; exact Lib.hid rfl
                have HQ : Hid (qres (Tg.site l) = .tuple #[.string ⟨#[]⟩, .int .i64 0, .bool false]) := by rw [HV.out]; exact Lib.hid rfl
                clear HV
                have by0 : (y != 0) = true := by rw [bne, beq_eq_false_iff_ne.2 hy]; rfl
                clear HLEN hih hrc hal h1 hxy hy
                generalize str (Oct.lower (l.take (k))) = lo at *
                go_wp2_with fail
                refine (cH _).mono ?_
                rintro e w1 ⟨rfl, hb1⟩
                have hb := bt' hb hb1
                clear hb1
                go_wp2_with fail
                refine (cL _).mono ?_
                rintro e w2 ⟨rfl, hb1⟩
                have hb := bt' hb hb1
                clear hb1
                go_wp2_with fail
                refine (cN _).mono ?_
                rintro e w3 ⟨rfl, rfl⟩
                go_wp2_with fail
                go_ret3
                exact ⟨congrArg Ending.returned HQ.out.symm, hb⟩
        · have n58 := nq8 s[k] 58 58 rfl h58
          have HA2 := Lib.hid (drop_step l k hkl (by rw [hlk]; exact h58) (by rw [hlk]; exact h93) HA.out)
          clear hlk h93 h58
          go_wp2_with fail
          go_round
          case rel => exact ⟨k, by omega, rfl, by go_num, HA2⟩
          case measure => simp [intOf]
end Go.Proofs.YtlikjfemkadciaaGreatDoor
