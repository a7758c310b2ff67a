/- Package target: paths without dots. -/
import Derived.Test.YtlikjfemkadciaaGreatDoorTg7
namespace Go.Proofs.YtlikjfemkadciaaGreatDoor
open Go.RowKit

theorem SBuf.form {W w : World} {v : Value} {ls : List (List UInt8)} (h : SBuf W w v ls) : (v = .slice none 0 0 ∧ ls = []) ∨ ∃ g cap, v = .slice (some ⟨g, 0, none⟩) ls.length cap ∧ ls.length ≤ cap ∧ g < w.heap.size ∧ ∀ j (hj : j < ls.length), w.cell? ⟨g, j, none⟩ = some (.string (str ls[j])) := by
  rcases h.1.2 with ⟨hv, h0⟩ | ⟨g, cap, cur, hv, hg, hh, h1, h2, h3, h4⟩
  · exact .inl ⟨hv, List.eq_nil_of_length_eq_zero h0⟩
  · refine .inr ⟨g, cap, hv, h1, lt_of_block hh, fun j hj => ?_⟩
    have h5 : cur.toList[j]? = some (.string (str ls[j])) := by
      have h6 : (cur.toList.take (ls.length * 1))[j]? = (strCells ls)[j]? := by rw [h4]
      rw [List.getElem?_take_of_lt (by omega)] at h6
      rw [h6]; simp [strCells, hj]
    simp only [World.cell?, hh]
    simpa using h5
/-- One shorter. -/
theorem SBuf.shrink {W w : World} {g cap : Nat} {ls : List (List UInt8)} {x : List UInt8} (h : SBuf W w (.slice (some ⟨g, 0, none⟩) (ls.length + 1) cap) (ls ++ [x])) : SBuf W w (.slice (some ⟨g, 0, none⟩) ls.length cap) ls := by
  refine ⟨⟨by simp [strCells], ?_⟩, h.2⟩
  rcases h.1.2 with ⟨hv, _⟩ | ⟨g', cap', cur, hv, hg, hh, h1, h2, h3, h4⟩
  · cases hv
  · injection hv with e1 e2 e3
    injection Option.some.inj e1 with e4 _ _
    subst e4 e3
    refine .inr ⟨g, cap, cur, rfl, hg, hh, by simp at h1; omega, h2, h3, ?_⟩
    have h5 := congrArg (List.take (ls.length * 1)) h4
    rw [List.take_take, Nat.min_eq_left (by simp)] at h5
    rw [h5]
    simp [strCells]

/-- Nothing, or a last one. -/
theorem SBuf.ends {W w : World} {b : Value} {kept : List (List UInt8)} (hB : SBuf W w b kept) : (kept = [] ∧ ∃ ao cp, b = .slice ao 0 cp) ∨ (∃ ini z g cap, kept = ini ++ [z] ∧ b = .slice (some ⟨g, 0, none⟩) (ini.length + 1) cap ∧ ini.length + 1 ≤ cap) := by
  rcases hB.form with ⟨e1, e2⟩ | ⟨g, cap, e1, hcap, _, _⟩
  · exact .inl ⟨e2, _, _, e1⟩
  · rcases kept.eq_nil_or_concat with e2 | ⟨ini, z, e2⟩
    · rw [e2] at e1; exact .inl ⟨e2, _, _, e1⟩
    · rw [List.concat_eq_append] at e2
      refine .inr ⟨ini, z, g, cap, e2, ?_, ?_⟩
      · rw [e1, e2]; simp
      · rw [e2] at hcap; simpa using hcap
theorem dots_plain1 {s : List UInt8} (h : ¬ s = [46]) (h2 : ¬ s = [46, 46]) (kept ss : List (List UInt8)) : Tg.dots kept (s :: ss) = Tg.dots (kept ++ [s]) ss := by
  rw [Tg.dots, if_neg (fun e => e.elim h h2)]
theorem dots_dot1 (kept : List (List UInt8)) : Tg.dots kept [[46]] = Tg.dots (kept ++ [[]]) [] := by
  conv => lhs; rw [Tg.dots, if_pos (.inl rfl)]
  simp
theorem dots_dot2 (kept : List (List UInt8)) {ss : List (List UInt8)} (h : ¬ ss = []) : Tg.dots kept ([46] :: ss) = Tg.dots kept ss := by
  rw [Tg.dots, if_pos (.inl rfl), if_neg h]; rfl
theorem dots_dd1 (kept : List (List UInt8)) : Tg.dots kept [[46, 46]] = Tg.dots (kept.dropLast ++ [[]]) [] := by
  conv => lhs; rw [Tg.dots, if_pos (.inr rfl)]
  simp
theorem dots_dd2 (kept : List (List UInt8)) {ss : List (List UInt8)} (h : ¬ ss = []) : Tg.dots kept ([46, 46] :: ss) = Tg.dots kept.dropLast ss := by
  rw [Tg.dots, if_pos (.inr rfl), if_neg h]; rfl
theorem join_slashed : ∀ (ks : List (List UInt8)), ks ≠ [] → 47 :: Lib.join ks [47] = Tg.slashed ks
  | [], h => absurd rfl h
  | [x], _ => by rw [Lib.join_one]; simp [Tg.slashed]
  | x :: y :: ks, _ => by
    have ih := join_slashed (y :: ks) (by simp)
    rw [Tg.slashed_cons, ← ih]
    show 47 :: ([47] : List UInt8).intercalate (x :: y :: ks) = _
    show _ = 47 :: x ++ 47 :: ([47] : List UInt8).intercalate (y :: ks)
    simp [List.intercalate, List.intersperse]
theorem Join_w (g cap : Nat) (ks : List (List UInt8)) (w : World) (hg : g < w.heap.size) (hc : ∀ j (hj : j < ks.length), w.cell? ⟨g, j, none⟩ = some (.string (str ks[j]))) (hcap : ks.length ≤ cap) (hl : ks.length ≤ 1000000) (hj : (Lib.join ks [47]).length ≤ 1000000) :
    Calls Tryz.prog 65 #[.slice (some ⟨g, 0, none⟩) ks.length cap, .string ⟨#[47]⟩] w fun e w' => e = .returned (.string (str (Lib.join ks [47]))) ∧ Below w.heap.size w w' := by
  have e : (ks.map str).map (·.data.toList) = ks := by simp [Function.comp_def, str_list]
  have e2 : (⟨#[47]⟩ : ByteArray).data.toList = [47] := rfl
  have h := Tryz.strings_Join g 0 cap (ks.map str) ⟨#[47]⟩ w (fun j x hx => ?_) hg (by simp; omega) (by simpa using hcap) (by rw [e, e2]; omega)
  · rw [e, e2, List.length_map] at h
    exact h
  · obtain ⟨hj, hx2⟩ := List.getElem?_eq_some_iff.1 hx
    rw [Nat.zero_add, hc j (by simpa using hj)]
    rw [← hx2]; simp

set_option maxHeartbeats 3200000 in
set_option maxRecDepth 100000 in
theorem straight_s (t : List UInt8) (w : World) (ht : t.length ≤ 100000) (hm : MaxOk w) :
    Calls Tryz.prog 43 #[.string (str (47 :: t))] w fun e w' => e = .returned (.string (str (Tg.straight (47 :: t)))) ∧ Below w.heap.size w w' := by
  obtain ⟨s, hs⟩ : ∃ s, s = str (47 :: t) := ⟨_, rfl⟩
  have hsz : s.size = t.length + 1 := by rw [hs, str_size]; rfl
  have hst : s.extract 1 s.size = str t := by
    refine str_same ?_
    rw [Lib.extract_data, hs, str_list, List.take_of_length_le]
    · rfl
    · simp [str_size]
  have h1s : (1 : Int) ≤ s.size := by omega
  rw [← hs]
  have cS := fun w hm => Split_w 47 t w (by omega) hm
  rw [← hst] at cS
  have hPl := Tg.sp_len 47 t
  obtain ⟨x0, xs0, hP0⟩ := Tg.sp_cases 47 t
  have hP1 : 0 < (Tg.sp 47 t).length := by rw [hP0]; simp
  have hD : Tg.straight (47 :: t) = Tg.slashed (Tg.dots [] (Tg.sp 47 t)) := rfl
  have hDl := Tg.straight_len t
  have hDn := Tg.dots_ne (Tg.sp 47 t) [] (.inl (by rw [hP0]; simp))
  rw [hD] at hDl ⊢
  have hPs := Tg.sp_size 47 t
  generalize Tg.sp 47 t = P at *
  clear hs hst hD hP0
  obtain ⟨n, hnn⟩ : ∃ n, n = P.length := ⟨_, rfl⟩
  rw [← hnn] at cS hPl hP1
  have HN := Lib.hid hnn
  have HDL := Lib.hid hDl
  have HDN := Lib.hid hDn
  have HPS := Lib.hid hPs
  have hnl : n ≤ 100001 := by omega
  have HM := Lib.hid hm
  clear hnn hDl hDn hPl hsz hm hPs
  have hwn : IntKind.i64.wrap ((n : Int) - 1) = (n : Int) - 1 := by rw [IntKind.wrap_i64]; omega
  go_enter Tryz.func43, Tryz.ntmps43
  go_wp2_with fail
  refine (cS _ HM.out).mono ?_
  rintro e w1 ⟨⟨A, rfl, hin⟩, hb1⟩
  clear cS
  have HC := Lib.hid hin.at
  clear hin
  go_wp2_with fail
  go_loopw [4, 12] (fun b i wr => ∃ (k : Nat) (kept : List (List UInt8)), k ≤ n ∧ i = .int .i64 k ∧ SBuf w1 wr b kept ∧ Hid (Tg.dots [] P = Tg.dots kept (P.drop k)) ∧ kept.length ≤ k) (fun _ i _ => n - (intOf i).toNat)
  case atStart => exact ⟨0, [], by omega, rfl, SBuf.nil w1, Lib.hid rfl, by simp⟩
  case round =>
    obtain ⟨k, kept, hk, rfl, hB, HI, hac⟩ := hrel
    have hbw := bt' hb1 hB.2
    by_cases hlt : k < n
    · have hkl : k < P.length := by have := HN.out; omega
      have c1 : wr.cell? ⟨A, k, none⟩ = some (.string (str P[k])) := (hB.2.cell (p := ⟨A, k, none⟩) (HC.out k hkl).1).trans (HC.out k hkl).2
      have hdk : P.drop k = P[k] :: P.drop (k + 1) := List.drop_eq_getElem_cons hkl
      have hnil : (P.drop (k + 1) = []) ↔ k + 1 = n := by rw [List.drop_eq_nil_iff, ← HN.out]; omega
      have hi := HI.out
      rw [hdk] at hi
      by_cases h1 : P[k] = [46]
      · rw [h1] at hi
        have e1 : str P[k] = ⟨#[46]⟩ := by rw [h1]; rfl
        rw [e1] at c1
        by_cases hlast : k + 1 = n
        · rw [hnil.2 hlast, dots_dot1] at hi
          have HI2 : Hid (Tg.dots [] P = Tg.dots (kept ++ [[]]) (P.drop (k + 1))) := by rw [hnil.2 hlast]; exact Lib.hid hi
          have bl : ((k : Int) == (n : Int) - 1) = true := beq_iff_eq.2 (by omega)
          have hl11 : kept.length ≤ 100000000000 := by omega
          clear hi HI hdk hnil h1 e1
          go_wp2_with (at_builtin; refine appS hB [] hl11 rfl _ _ rfl ⟨#[]⟩ rfl rfl rfl ?_; intro v2 W2 hB2 _)
          go_roundw
          case rel => exact ⟨k + 1, kept ++ [[]], by omega, by go_num, hB2, HI2, by simp; omega⟩
          case measure => simp [intOf]; omega
        · rw [dots_dot2 _ (fun e => hlast (hnil.1 e))] at hi
          have HI2 := Lib.hid hi
          have bl : ((k : Int) == (n : Int) - 1) = false := beq_eq_false_iff_ne.2 (by omega)
          clear hi HI hdk hnil h1 e1
          go_wp2_with fail
          go_roundw
          case rel => exact ⟨k + 1, kept, by omega, by go_num, hB, HI2, by omega⟩
          case measure => simp [intOf]; omega
      · by_cases h2 : P[k] = [46, 46]
        · rw [h2] at hi
          have e1 : str P[k] = ⟨#[46, 46]⟩ := by rw [h2]; rfl
          rw [e1] at c1
          clear h1 h2 e1
          rcases hB.ends with ⟨rfl, ao, cp, rfl⟩ | ⟨ini, z, g, cap, rfl, rfl, hcap⟩
          · by_cases hlast : k + 1 = n
            · rw [hnil.2 hlast, dots_dd1, List.dropLast_nil] at hi
              have bl : ((k : Int) == (n : Int) - 1) = true := beq_iff_eq.2 (by omega)
              have HI2 : Hid (Tg.dots [] P = Tg.dots (([] : List (List UInt8)) ++ [[]]) (P.drop (k + 1))) := by rw [hnil.2 hlast]; exact Lib.hid hi
              have hl11 : (([] : List (List UInt8)) : List (List UInt8)).length ≤ 100000000000 := by simp
              clear hi HI hdk hnil
              go_wp2_with (at_builtin; refine appS hB [] hl11 rfl _ _ rfl ⟨#[]⟩ rfl rfl rfl ?_; intro v2 W2 hB2 _)
              go_roundw
              case rel => exact ⟨k + 1, ([] : List (List UInt8)) ++ [[]], by omega, by go_num, hB2, HI2, by simp⟩
              case measure => simp [intOf]; omega
            · rw [dots_dd2 _ (fun e => hlast (hnil.1 e)), List.dropLast_nil] at hi
              have bl : ((k : Int) == (n : Int) - 1) = false := beq_eq_false_iff_ne.2 (by omega)
              have HI2 : Hid (Tg.dots [] P = Tg.dots [] (P.drop (k + 1))) := Lib.hid hi
              clear hi HI hdk hnil
              go_wp2_with fail
              go_roundw
              case rel => exact ⟨k + 1, [], by omega, by go_num, hB, HI2, by simp⟩
              case measure => simp [intOf]; omega
          · have hB1 := hB.shrink
            have hwi : IntKind.i64.wrap (((ini.length + 1 : Nat) : Int) - 1) = (ini.length : Int) := by rw [IntKind.wrap_i64]; simp at hac; omega
            have hil : ini.length + 1 ≤ k := by simpa using hac
            clear hB
            by_cases hlast : k + 1 = n
            · rw [hnil.2 hlast, dots_dd1, List.dropLast_concat] at hi
              have bl : ((k : Int) == (n : Int) - 1) = true := beq_iff_eq.2 (by omega)
              have HI2 : Hid (Tg.dots [] P = Tg.dots (ini ++ [[]]) (P.drop (k + 1))) := by rw [hnil.2 hlast]; exact Lib.hid hi
              have hl11 : (ini : List (List UInt8)).length ≤ 100000000000 := by omega
              clear hi HI hdk hnil
              go_wp2_with (at_builtin; refine appS hB1 [] hl11 rfl _ _ rfl ⟨#[]⟩ rfl rfl rfl ?_; intro v2 W2 hB2 _)
              go_roundw
              case rel => exact ⟨k + 1, ini ++ [[]], by omega, by go_num, hB2, HI2, by simp; omega⟩
              case measure => simp [intOf]; omega
            · rw [dots_dd2 _ (fun e => hlast (hnil.1 e)), List.dropLast_concat] at hi
              have bl : ((k : Int) == (n : Int) - 1) = false := beq_eq_false_iff_ne.2 (by omega)
              have HI2 : Hid (Tg.dots [] P = Tg.dots ini (P.drop (k + 1))) := Lib.hid hi
              clear hi HI hdk hnil
              go_wp2_with fail
              go_roundw
              case rel => exact ⟨k + 1, ini, by omega, by go_num, hB1, HI2, by simp at hac ⊢; omega⟩
              case measure => simp [intOf]; omega
        · rw [dots_plain1 h1 h2] at hi
          have HI2 := Lib.hid hi
          have b1 : ((str P[k]).toList == [46]) = false := by rw [str_toList, beq_eq_false_iff_ne.2 h1]
          have b2 : ((str P[k]).toList == [46, 46]) = false := by rw [str_toList, beq_eq_false_iff_ne.2 h2]
          clear hi HI hdk hnil
          have hl11 : kept.length ≤ 100000000000 := by omega
          go_wp2_with (at_builtin; refine appS hB P[k] hl11 rfl _ _ rfl (str P[k]) rfl rfl rfl ?_; intro v2 W2 hB2 _)
          go_roundw
          case rel => exact ⟨k + 1, kept ++ [P[k]], by omega, by go_num, hB2, HI2, by simp; omega⟩
          case measure => simp [intOf]; omega
    · obtain rfl : k = n := by omega
      have hi := HI.out
      rw [List.drop_eq_nil_of_le (by have := HN.out; omega)] at hi
      have hik : Tg.dots [] P = kept := hi
      have hne : kept ≠ [] := by rw [← hik]; exact HDN.out
      have hj := join_slashed kept hne
      have hjl : (Lib.join kept [47]).length + 1 ≤ t.length + 1 := by
        have h := HDL.out; rw [hik, ← hj] at h; simpa using h
      have HR : Hid ((⟨#[47]⟩ : ByteArray) ++ str (Lib.join kept [47]) = str (Tg.slashed (Tg.dots [] P))) := by
        rw [hik]; refine Lib.hid (str_same ?_)
        rw [app_data, str_list, ← hj]; rfl
      obtain ⟨g, cap, rfl, hcap, hg, hcell⟩ := hB.form.resolve_left (fun e => hne e.2)
      have cJ := Join_w g cap kept wr hg hcell hcap (by omega) (by omega)
      have hjs : (str (Lib.join kept [47])).size ≤ 100000 := by rw [str_size]; omega
      generalize str (Lib.join kept [47]) = J at *
      clear hcell hj hjl hne hik hi HI hcap hB hg
      generalize kept.length = K at *
      go_wp2_with fail
      refine cJ.mono ?_
      rintro e w2 ⟨rfl, hb2⟩
      go_wp2_with fail
      go_ret
      exact ⟨by rw [← HR.out]; rfl, bt' hbw hb2⟩
end Go.Proofs.YtlikjfemkadciaaGreatDoor
