/- The document's own answer for package control: a directive. -/
import Derived.Test.YtolhhejhjjiefaaDoorCt2
namespace Go.Proofs.YtolhhejhjjiefaaDoor
open Go.RowKit

theorem eqAt_ne : ∀ (l : List UInt8) (k : Nat), k < Ctl.eqAt l → ∀ (h : k < l.length), l[k] ≠ 61
  | [], _, _, h => by cases h
  | c :: r, 0, h0, _ => by
    unfold Ctl.eqAt at h0
    split at h0
    · cases h0
    · rename_i hc; exact hc
  | c :: r, k + 1, h0, h => by
    unfold Ctl.eqAt at h0
    split at h0
    · cases h0
    · exact eqAt_ne r k (by omega) (by simpa using h)
theorem eqAt_eq : ∀ (l : List UInt8) (h : Ctl.eqAt l < l.length), l[Ctl.eqAt l] = 61
  | [], h => by cases h
  | c :: r, h => by
    by_cases hc : c = 61
    · have : Ctl.eqAt (c :: r) = 0 := by unfold Ctl.eqAt; rw [if_pos hc]
      simp only [this]; exact hc
    · have e : Ctl.eqAt (c :: r) = Ctl.eqAt r + 1 := by rw [Ctl.eqAt, if_neg hc]
      simp only [e, List.getElem_cons_succ]
      exact eqAt_eq r (by rw [e] at h; simpa using h)

theorem arg_none {s : List UInt8} (h : Oct.token s = false) (hu : Oct.unquote s = none) : Ctl.argument s = none := by
  unfold Ctl.argument; rw [if_neg (by rw [h]; decide), hu]
theorem arg_some {s t : List UInt8} {n : Nat} (h : Oct.token s = false) (hu : Oct.unquote s = some (t, n)) (hn : n = s.length) : Ctl.argument s = some t := by
  unfold Ctl.argument; rw [if_neg (by rw [h]; decide), hu]; simp only []; rw [if_pos hn]
theorem arg_more {s t : List UInt8} {n : Nat} (h : Oct.token s = false) (hu : Oct.unquote s = some (t, n)) (hn : ¬ n = s.length) : Ctl.argument s = none := by
  unfold Ctl.argument; rw [if_neg (by rw [h]; decide), hu]; simp only []; rw [if_neg hn]

/-- What the document's directive asks of its callees, once the name's end is known. -/
theorem rNumber_w (s : List UInt8) (w : World) (hs : s.length ≤ 1000000) :
    Calls Tryd.prog 16 #[.string (str s), .int .i64 10, .int .i64 2147483647] w fun e w' => (∃ a b, e = .returned (.tuple #[.int .i64 a, .int .i64 b]) ∧ (if b = 12 then 2147483647 else a) = Ctl.worth s) ∧ w = w' := by
  have hN := rNumber_is (str s) 2147483647 _ _ w (by rw [str_size]; exact hs) (by decide) (by decide) rfl
  rw [str_list] at hN
  exact hN.mono fun e w' ⟨he, hw⟩ => ⟨⟨_, _, he, rfl⟩, hw⟩

set_option maxHeartbeats 3200000 in
set_option maxRecDepth 100000 in
theorem rdirective_w (l : List UInt8) (w : World) (hl : l.length ≤ 1000000) :
    Calls Tryd.prog 23 #[.string (str l)] w fun e w' => e = .returned (dres (Ctl.directive l)) ∧ Below w.heap.size w w' := by
  obtain ⟨s, hs⟩ : ∃ s, s = str l := ⟨_, rfl⟩
  have hsl : s.data.toList = l := by rw [hs, str_list]
  have hsz : s.size = l.length := by rw [hs, str_size]
  rw [← hs]
  clear hs
  obtain ⟨E, hE⟩ : ∃ E, E = Ctl.eqAt l := ⟨_, rfl⟩
  have hEs : E ≤ s.size := by rw [hE, hsz]; exact Ctl.eqAt_le l
  have hs6 : s.size ≤ 1000000 := by omega
  have HNE : Hid (∀ k (h : k < s.size), k < E → (s[k].toNat : Int) ≠ 61) := fun k h hk e => by
    have h1 := eqAt_ne l k (by omega) (by omega)
    apply h1
    have h2 : s[k] = 61 := Oct.u8_eq (n := 61) e
    rw [← h2]
    subst hsl; rfl
  have HEQ : Hid (∀ (h : E < s.size), (s[E].toNat : Int) = 61) := fun h => by
    have h1 := eqAt_eq l (by omega)
    have h2 : s[E] = 61 := by
      rw [← h1]; subst hsl hE; rfl
    rw [h2]; rfl
  have hx0 : (s.extract 0 E).data.toList = l.take E := by rw [Lib.extract_data, hsl]; simp
  have hx1 : (s.extract (E + 1) s.size).data.toList = l.drop (E + 1) := by
    rw [Lib.extract_data, hsl, List.take_of_length_le]; rw [List.length_drop]; omega
  have hlt : (l.take E).length ≤ 1000000 := by rw [List.length_take]; omega
  have cL := fun w => rLower_s (s.extract 0 E) w (by simp; omega)
  rw [hx0] at cL
  have cT := fun w => rToken_s (str (Oct.lower (l.take E))) w (by rw [str_size, Oct.lower_length]; exact hlt)
  rw [str_list, Ctl.token_low] at cT
  have HD : Hid (Ctl.directive l = if Oct.token (l.take E) = false then none else if E = l.length then some (Oct.lower l, Ctl.bare (Oct.lower l)) else (Ctl.argument (l.drop (E + 1))).map fun s => (Oct.lower (l.take E), Ctl.worth s)) := by subst hE; exact Lib.hid rfl
  have hsa : (s.extract (E + 1) s.size).size ≤ 1000000 := by simp; omega
  have cTA := fun w => rToken_s (s.extract (E + 1) s.size) w hsa
  have cUA := fun w => rUnquote_s (s.extract (E + 1) s.size) w hsa
  have hxs : str (l.drop (E + 1)) = s.extract (E + 1) s.size := (str_same hx1).symm
  rw [hx1] at cTA cUA
  have HSZ := Lib.hid hsz
  have HX1 := Lib.hid hxs
  have hla : (l.drop (E + 1)).length ≤ 1000000 := by rw [List.length_drop]; omega
  clear hE hsl hx0 hx1 hsz hl hlt hxs
  go_enter Tryd.func23, Tryd.ntmps23
  go_wp2_with fail
  go_loop [5] (fun i => ∃ k : Nat, k ≤ E ∧ i = .int .i64 k) (fun i => E - (intOf i).toNat)
  case atStart => exact ⟨0, by omega, rfl⟩
  case round =>
    obtain ⟨k, hk, rfl⟩ := hrel
    by_cases hkE : k < E
    · have hks : k < s.size := by omega
      have b1 : ((s[k].toNat : Int) != 61) = true := by rw [bne, beq_eq_false_iff_ne.2 (HNE.out k hks hkE)]; rfl
      clear cL cT cTA cUA
      go_wp2_with fail
      go_round
      case rel => exact ⟨k + 1, by omega, by go_num⟩
      case measure => simp [intOf]; omega
    · obtain rfl : k = E := by omega
      by_cases hks : k < s.size
      · have b1 : ((s[k].toNat : Int) != 61) = false := by rw [bne, beq_iff_eq.2 (HEQ.out hks)]; rfl
        have b2 : ((k : Int) == (s.size : Int)) = false := beq_eq_false_iff_ne.2 (by omega)
        have hkn : ¬ k = l.length := by have := HSZ.out; omega
        have HD2 : Hid (Ctl.directive l = if Oct.token (l.take k) = false then none else (Ctl.argument (l.drop (k + 1))).map fun s => (Oct.lower (l.take k), Ctl.worth s)) := by have h := HD.out; rw [if_neg hkn] at h; exact h
        have hk1 : (k : Int) + 1 ≤ s.size := by omega
        generalize l.drop (k + 1) = ar at *
        generalize Oct.lower (l.take k) = nm at *
        generalize Oct.token (l.take k) = tk at *
        clear HD HEQ HNE hkn hk hkE
        cases tk with
        | false =>
          have HV : Hid (dres (Ctl.directive l) = .tuple #[.string ⟨#[]⟩, .int .i64 0, .bool false]) := by rw [HD2.out]; exact Lib.hid rfl
          clear HD2
          go_wp2_with fail
          refine (cL _).mono ?_
          rintro e w1 ⟨rfl, hb1⟩
          go_wp2_with fail
          refine (cT _).mono ?_
          rintro e w2 ⟨rfl, hb2⟩
          have hb3 := hb1.trans (hb2.mono hb1.size)
          go_wp2_with fail
          go_ret3
          exact ⟨by rw [HV.out]; rfl, hb3⟩
        | true =>
          cases hta : Oct.token ar with
          | true =>
            have HV : Hid (dres (Ctl.directive l) = .tuple #[.string (str nm), .int .i64 (Ctl.worth ar), .bool true]) := by rw [HD2.out]; unfold Ctl.argument; rw [if_pos hta]; exact Lib.hid rfl
            rw [hta] at cTA
            have cN := fun w => rNumber_w ar w hla
            rw [HX1.out] at cN
            generalize Ctl.worth ar = wt at *
            clear HD2 HX1 hta
            go_wp2_with fail
            refine (cL _).mono ?_
            rintro e w1 ⟨rfl, hb1⟩
            go_wp2_with fail
            refine (cT _).mono ?_
            rintro e w2 ⟨rfl, hb2⟩
            have hb3 := hb1.trans (hb2.mono hb1.size)
            go_wp2_with fail
            refine (cTA _).mono ?_
            rintro e w3 ⟨rfl, hb4⟩
            have hb5 := hb3.trans (hb4.mono hb3.size)
            clear cL cT cTA cUA hb1 hb2 hb3 hb4
            go_wp2_with fail
            refine (cN _).mono ?_
            rintro e w4 ⟨⟨a, b, rfl, hab⟩, rfl⟩
            by_cases h12 : b = 12
            · subst h12
              have hab' : wt = 2147483647 := by simpa using hab.symm
              subst hab'
              clear hab
              go_wp2_with fail
              go_ret3
              exact ⟨by rw [HV.out]; rfl, hb5⟩
            · have b3 : (b == 12) = false := beq_eq_false_iff_ne.2 h12
              have hab' : a = wt := by rw [if_neg h12] at hab; exact hab
              subst hab'
              clear hab h12
              go_wp2_with fail
              go_ret3
              exact ⟨by rw [HV.out]; rfl, hb5⟩
          | false =>
            rw [hta] at cTA
            cases hu : Oct.unquote ar with
            | none =>
              have HV : Hid (dres (Ctl.directive l) = .tuple #[.string ⟨#[]⟩, .int .i64 0, .bool false]) := by rw [HD2.out, arg_none hta hu]; exact Lib.hid rfl
              rw [hu, show unqRes none = .tuple #[.string ⟨#[]⟩, .int .i64 0, .int .i64 10] from rfl] at cUA
              clear HD2 HX1 hta hu
              go_wp2_with fail
              refine (cL _).mono ?_
              rintro e w1 ⟨rfl, hb1⟩
              go_wp2_with fail
              refine (cT _).mono ?_
              rintro e w2 ⟨rfl, hb2⟩
              have hb3 := hb1.trans (hb2.mono hb1.size)
              go_wp2_with fail
              refine (cTA _).mono ?_
              rintro e w3 ⟨rfl, hb4⟩
              have hb5 := hb3.trans (hb4.mono hb3.size)
              clear hb1 hb2 hb3 hb4
              go_wp2_with fail
              refine (cUA _).mono ?_
              rintro e w4 ⟨rfl, hb6⟩
              have hb7 := hb5.trans (hb6.mono hb5.size)
              clear cL cT cTA cUA hb5 hb6
              go_wp2_with fail
              go_ret3
              exact ⟨by rw [HV.out]; rfl, hb7⟩
            | some x =>
              obtain ⟨t, n⟩ := x
              rw [hu, show unqRes (some (t, n)) = .tuple #[.string (str t), .int .i64 n, .int .i64 0] from rfl] at cUA
              have hal : (s.extract (k + 1) s.size).size = ar.length := by rw [← HX1.out, str_size]
              have hal2 : (s.extract (k + 1) s.size).size = s.size - (k + 1) := by simp
              by_cases hn : n = ar.length
              · have HV : Hid (dres (Ctl.directive l) = .tuple #[.string (str nm), .int .i64 (Ctl.worth t), .bool true]) := by
                  rw [HD2.out, arg_some hta hu hn]; exact Lib.hid rfl
                have htl : t.length ≤ 1000000 := by have := Ctl.unquote_len hu; omega
                have cN := fun w => rNumber_w t w htl
                have b4 : ((n : Int) != ((s.size - (k + 1) : Nat) : Int)) = false := by rw [bne, beq_iff_eq.2 (by omega)]; rfl
                have b5 : n = s.size - (k + 1) := by omega
                generalize Ctl.worth t = wt at *
                generalize str t = st at *
                clear HD2 HX1 hta hu hal hal2 hn htl
                go_wp2_with fail
                refine (cL _).mono ?_
                rintro e w1 ⟨rfl, hb1⟩
                go_wp2_with fail
                refine (cT _).mono ?_
                rintro e w2 ⟨rfl, hb2⟩
                have hb3 := hb1.trans (hb2.mono hb1.size)
                go_wp2_with fail
                refine (cTA _).mono ?_
                rintro e w3 ⟨rfl, hb4⟩
                have hb5 := hb3.trans (hb4.mono hb3.size)
                clear hb1 hb2 hb3 hb4
                go_wp2_with fail
                refine (cUA _).mono ?_
                rintro e w4 ⟨rfl, hb6⟩
                have hb7 := hb5.trans (hb6.mono hb5.size)
                clear cL cT cTA cUA hb5 hb6
                subst b5
                go_wp2_with fail
                refine (cN _).mono ?_
                rintro e w5 ⟨⟨a, b, rfl, hab⟩, rfl⟩
                by_cases h12 : b = 12
                · subst h12
                  have hab' : wt = 2147483647 := by simpa using hab.symm
                  subst hab'
                  clear hab
                  go_wp2_with fail
                  go_ret3
                  exact ⟨by rw [HV.out]; rfl, hb7⟩
                · have b3 : (b == 12) = false := beq_eq_false_iff_ne.2 h12
                  have hab' : a = wt := by rw [if_neg h12] at hab; exact hab
                  subst hab'
                  clear hab h12
                  go_wp2_with fail
                  go_ret3
                  exact ⟨by rw [HV.out]; rfl, hb7⟩
              · have HV : Hid (dres (Ctl.directive l) = .tuple #[.string ⟨#[]⟩, .int .i64 0, .bool false]) := by
                  rw [HD2.out, arg_more hta hu hn]; exact Lib.hid rfl
                have b4 : ((n : Int) != ((s.size - (k + 1) : Nat) : Int)) = true := by rw [bne, beq_eq_false_iff_ne.2 (by omega)]; rfl
                generalize str t = st at *
                clear HD2 HX1 hta hu hal hal2 hn
                go_wp2_with fail
                refine (cL _).mono ?_
                rintro e w1 ⟨rfl, hb1⟩
                go_wp2_with fail
                refine (cT _).mono ?_
                rintro e w2 ⟨rfl, hb2⟩
                have hb3 := hb1.trans (hb2.mono hb1.size)
                go_wp2_with fail
                refine (cTA _).mono ?_
                rintro e w3 ⟨rfl, hb4⟩
                have hb5 := hb3.trans (hb4.mono hb3.size)
                clear hb1 hb2 hb3 hb4
                go_wp2_with fail
                refine (cUA _).mono ?_
                rintro e w4 ⟨rfl, hb6⟩
                have hb7 := hb5.trans (hb6.mono hb5.size)
                clear cL cT cTA cUA hb5 hb6
                go_wp2_with fail
                go_ret3
                exact ⟨by rw [HV.out]; rfl, hb7⟩
      · have hke : (k : Int) = s.size := by omega
        have b2 : ((k : Int) == (s.size : Int)) = true := beq_iff_eq.2 hke
        have hkn : k = l.length := by have := HSZ.out; omega
        have e1 : l.take k = l := by rw [hkn, List.take_of_length_le (Nat.le_refl _)]
        have HD2 : Hid (Ctl.directive l = if Oct.token l = false then none else some (Oct.lower l, Ctl.bare (Oct.lower l))) := by have h := HD.out; rw [if_pos hkn, e1] at h; exact h
        rw [e1] at cL cT
        generalize Oct.lower l = nm at *
        generalize Oct.token l = tk at *
        clear HD HEQ HNE hkn hk hkE e1 cTA cUA hla HX1 hke
        cases tk with
        | false =>
          have HV : Hid (dres (Ctl.directive l) = .tuple #[.string ⟨#[]⟩, .int .i64 0, .bool false]) := by rw [HD2.out]; exact Lib.hid rfl
          clear HD2
          go_wp2_with fail
          refine (cL _).mono ?_
          rintro e w1 ⟨rfl, hb1⟩
          go_wp2_with fail
          refine (cT _).mono ?_
          rintro e w2 ⟨rfl, hb2⟩
          have hb3 := hb1.trans (hb2.mono hb1.size)
          go_wp2_with fail
          go_ret3
          exact ⟨by rw [HV.out]; rfl, hb3⟩
        | true =>
          by_cases hms : nm = Ctl.kMS
          · have HV : Hid (dres (Ctl.directive l) = .tuple #[.string ⟨#[109, 97, 120, 45, 115, 116, 97, 108, 101]⟩, .int .i64 2147483647, .bool true]) := by rw [HD2.out, hms]; exact Lib.hid rfl
            rw [hms, show str Ctl.kMS = ⟨#[109, 97, 120, 45, 115, 116, 97, 108, 101]⟩ from rfl] at cL cT
            clear HD2 hms
            go_wp2_with fail
            refine (cL _).mono ?_
            rintro e w1 ⟨rfl, hb1⟩
            go_wp2_with fail
            refine (cT _).mono ?_
            rintro e w2 ⟨rfl, hb2⟩
            have hb3 := hb1.trans (hb2.mono hb1.size)
            go_wp2_with fail
            go_ret3
            exact ⟨by rw [HV.out]; rfl, hb3⟩
          · have HV : Hid (dres (Ctl.directive l) = .tuple #[.string (str nm), .int .i64 0, .bool true]) := by rw [HD2.out]; unfold Ctl.bare; rw [if_neg hms]; exact Lib.hid rfl
            have b5 : ((str nm).toList == [109, 97, 120, 45, 115, 116, 97, 108, 101]) = false := by rw [str_toList, beq_eq_false_iff_ne]; exact hms
            generalize str nm = sn at *
            clear HD2 hms
            go_wp2_with fail
            refine (cL _).mono ?_
            rintro e w1 ⟨rfl, hb1⟩
            go_wp2_with fail
            refine (cT _).mono ?_
            rintro e w2 ⟨rfl, hb2⟩
            have hb3 := hb1.trans (hb2.mono hb1.size)
            go_wp2_with fail
            go_ret3
            exact ⟨by rw [HV.out]; rfl, hb3⟩
end Go.Proofs.YtolhhejhjjiefaaDoor
