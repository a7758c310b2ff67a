/- The document's own answer for package target: Parse, Of, Print, Right. -/
import Derived.Test.YtlikjfemkadciaaGreatDoorTg26
namespace Go.Proofs.YtlikjfemkadciaaGreatDoor
open Go.RowKit

theorem ahead_from (p : UInt8 → Bool) (s : ByteArray) (a : Nat) (ha : a ≤ s.size) (E : Nat) (hE : E = a + Tg.ahead p (s.data.toList.drop a)) :
    a ≤ E ∧ E ≤ s.size ∧ (∀ k (hk : k < s.size), a ≤ k → k < E → p s[k] = false) ∧ (∀ hk : E < s.size, p s[E] = true) := by
  have hz : s.data.toList.length = s.size := by simp
  have hle := Tg.ahead_le p (s.data.toList.drop a)
  rw [List.length_drop] at hle
  refine ⟨by omega, by omega, ?_, ?_⟩
  · intro k hk h1 h2
    refine Tg.ahead_take p (s.data.toList.drop a) s[k] ?_
    have h3 := Lib.data_getElem? s k hk
    refine List.mem_of_getElem? (i := k - a) ?_
    rw [List.getElem?_take_of_lt (by omega), List.getElem?_drop, show a + (k - a) = k by omega, h3]
  · intro hk
    rcases Tg.ahead_drop p (s.data.toList.drop a) with h | ⟨c, t, h, hc⟩
    · have := congrArg List.length h
      rw [List.length_drop, List.length_drop] at this; simp at this; omega
    · have h1 := Lib.data_getElem? s _ hk
      have h2 : ((s.data.toList.drop a).drop (Tg.ahead p (s.data.toList.drop a)))[0]? = some c := by rw [h]; rfl
      rw [List.getElem?_drop, Nat.add_zero, List.getElem?_drop, ← hE, h1] at h2
      rw [Option.some.inj h2]; exact hc
theorem sq_false {c : UInt8} (h : Tg.sq c = false) : ((c.toNat : Int) != 47) = true ∧ ((c.toNat : Int) != 63) = true :=
  ⟨ne8 c 47 47 rfl (fun e => by rw [e] at h; cases h), ne8 c 63 63 rfl (fun e => by rw [e] at h; cases h)⟩
theorem sq_true {c : UInt8} (h : Tg.sq c = true) : (c.toNat : Int) = 47 ∨ (c.toNat : Int) = 63 := by
  have : c = 47 ∨ c = 63 := by simpa [Tg.sq] using h
  rcases this with rfl | rfl
  · exact .inl rfl
  · exact .inr rfl
theorem begins_sq (l : List UInt8) : Tg.Begins (l.drop (Tg.ahead Tg.sq l)) := by
  rcases Tg.ahead_drop Tg.sq l with h | ⟨c, t, h, hc⟩
  · exact .inl h
  · rw [h]
    have : c = 47 ∨ c = 63 := by simpa [Tg.sq] using hc
    rcases this with rfl | rfl
    · exact .inr (.inl rfl)
    · exact .inr (.inr rfl)
theorem ures_u (ra : List UInt8) (rb : Int) (rc : List UInt8) (rd : Int) : ures (⟨ra, rb, rc⟩, rd) = .tuple #[.agg #[.string (str ra), .int .i64 rb, .string (str rc)], .int .i64 rd] := rfl

set_option maxHeartbeats 3200000 in
set_option maxRecDepth 100000 in
theorem rParse_s (l : List UInt8) (w : World) (hl : l.length ≤ 90000) :
    Calls Tryz.prog 9 #[.string (str l)] w fun e w' => e = .returned (ures (Tg.parse l)) ∧ Below w.heap.size w w' := by
  have cH := fun (W : World) => rhttp_s l W (by omega)
  obtain ⟨s, hs⟩ : ∃ s, s = str l := ⟨_, rfl⟩
  have hsd : s.data.toList = l := by rw [hs, str_list]
  have hsz : s.size = l.length := by rw [hs, str_size]
  rw [← hs] at cH ⊢
  have hR0 := Res.start w (.string ⟨#[]⟩) (.int .i64 0) (.string ⟨#[]⟩)
  by_cases h8 : 8000 < l.length
  · have HV : Hid (Tg.parse l = (Tg.zero, 12)) := by unfold Tg.parse; rw [if_pos h8]; exact Lib.hid rfl
    have h8i : (8000 : Int) < s.size := by omega
    clear hs hsd hsz cH h8 hl
    go_enter Tryz.func9, Tryz.ntmps9
    go_upto_region 1 with fail
    generalize w.alloc (.cells #[.string ⟨#[]⟩, .int .i64 0, .string ⟨#[]⟩] 24) = W0 at hR0 ⊢
    go_wp2_with (refine stU hR0 rfl (.tmp 2) (.tmp 11) rfl _ _ _ rfl rfl ?_; intro W9 hR9 _)
    (try simp only [Exit.inBlock, Exit.then])
    refine ret_uri rfl w.heap.size _ _ _ rfl hR9.cell rfl ?_
    exact ⟨by rw [HV.out]; rfl, hR9.below⟩
  have h8i : ¬ (8000 : Int) < s.size := by omega
  cases hh : Tg.http l with
  | false =>
    have HV : Hid (Tg.parse l = (Tg.zero, 10)) := by unfold Tg.parse; rw [if_neg h8, if_pos hh]; exact Lib.hid rfl
    rw [hh] at cH
    clear hs hsd hsz h8 hl hh
    go_enter Tryz.func9, Tryz.ntmps9
    go_upto_region 1 with fail
    generalize w.alloc (.cells #[.string ⟨#[]⟩, .int .i64 0, .string ⟨#[]⟩] 24) = W0 at hR0 ⊢
    go_wp2_with fail
    refine (cH _).mono ?_
    rintro e W1 ⟨rfl, hb1⟩
    have hR1 := hR0.later hb1
    go_wp2_with (refine stU hR1 rfl (.tmp 2) (.tmp 15) rfl _ _ _ rfl rfl ?_; intro W9 hR9 _)
    (try simp only [Exit.inBlock, Exit.then])
    refine ret_uri rfl w.heap.size _ _ _ rfl hR9.cell rfl ?_
    exact ⟨by rw [HV.out]; rfl, hR9.below⟩
  | true =>
    have h7 : 7 ≤ l.length := by unfold Tg.http at hh; simp at hh; exact hh.1
    obtain ⟨E, hE⟩ : ∃ E, E = 7 + Tg.ahead Tg.sq (s.data.toList.drop 7) := ⟨_, rfl⟩
    obtain ⟨f0, f1, f2, f3⟩ := ahead_from Tg.sq s 7 (by omega) E hE
    rw [hsd] at hE
    have hdE : (l.drop 7).drop (Tg.ahead Tg.sq (l.drop 7)) = l.drop E := by rw [List.drop_drop, hE]
    have htE : (l.drop 7).take (Tg.ahead Tg.sq (l.drop 7)) = (l.take E).drop 7 := by rw [List.drop_take, hE]; congr 1; omega
    have HP : Hid (∀ r, Tg.site ((l.take E).drop 7) = r → Tg.parse l = match r with | none => (Tg.zero, 10) | some x => Tg.atU x.1 x.2 (Tg.slash (l.drop E))) := Lib.hid (by
      rintro r rfl
      unfold Tg.parse
      rw [if_neg h8, if_neg (by rw [hh]; decide), hdE, htE]
      cases Tg.site ((l.take E).drop 7) <;> rfl)
    have hbg : Tg.Begins (l.drop E) := by rw [← hdE]; exact begins_sq _
    have e1 : s.extract 7 E = str ((l.take E).drop 7) := str_same (by rw [Lib.extract_data, hsd, List.drop_take])
    have e2 : s.extract E s.size = str (l.drop E) := str_same (by rw [Lib.extract_data, hsd, List.take_of_length_le]; rw [List.length_drop]; omega)
    have cS := fun (W : World) => seat_s ((l.take E).drop 7) W (by simp; omega)
    rw [← e1] at cS
    have cA := fun (h : List UInt8) (k : Int) (W : World) => rat_s h k (l.drop E) W (by rw [List.length_drop]; omega) hbg
    rw [← e2] at cA
    rw [hh] at cH
    have F2 := Lib.hid f2
    have F3 := Lib.hid f3
    have hEi : (E : Int) ≤ s.size := by omega
    have hE7 : (7 : Int) ≤ E := by omega
    have hE0 : (0 : Int) ≤ E := by omega
    have hs6 : s.size ≤ 90000 := by omega
    clear f2 f3 e1 e2 hbg hdE htE hE h7 h8 hs hsd hsz hl hh
    cases hsi : Tg.site ((l.take E).drop 7) with
    | none =>
      have HV : Hid (Tg.parse l = (Tg.zero, 10)) := Lib.hid (HP.out none hsi)
      have e0 : qres none = .tuple #[.string ⟨#[]⟩, .int .i64 0, .bool false] := rfl
      rw [hsi, e0] at cS
      clear HP hsi cA e0
      go_enter Tryz.func9, Tryz.ntmps9
      go_upto_region 1 with fail
      generalize w.alloc (.cells #[.string ⟨#[]⟩, .int .i64 0, .string ⟨#[]⟩] 24) = W0 at hR0 ⊢
      go_wp2_with fail
      refine (cH _).mono ?_
      rintro e W1 ⟨rfl, hb1⟩
      have hR1 := hR0.later hb1
      clear hR0 hb1
      go_upto_block 0 with fail
      go_cut [4] from 16 to 33 (fun i wx => i = .int .i64 E ∧ wx = W1)
      case first =>
        go_wp2_with fail
        go_loop [4] (fun i => ∃ k : Nat, 7 ≤ k ∧ k ≤ E ∧ i = .int .i64 k) (fun i => E - (intOf i).toNat)
        case atStart => exact ⟨7, by omega, by omega, rfl⟩
        case round =>
          obtain ⟨k, hk7, hk, rfl⟩ := hrel
          have hk0 : (0 : Int) ≤ k := by omega
          by_cases hlt : k < E
          · have hks : k < s.size := by omega
            obtain ⟨b47, b63⟩ := sq_false (F2.out k hks hk7 hlt)
            have hki : (k : Int) < s.size := by omega
            go_wp2_with fail
            go_round
            case rel => exact ⟨k + 1, by omega, by omega, by go_num⟩
            case measure => simp [intOf]; omega
          · obtain rfl : k = E := by omega
            by_cases hks : k < s.size
            · have hki : (k : Int) < s.size := by omega
              rcases sq_true (F3.out hks) with i47 | i63
              · go_wp2_with fail
                go_meet
                case rel => exact ⟨rfl, rfl⟩
              · go_wp2_with fail
                go_meet
                case rel => exact ⟨rfl, rfl⟩
            · have hki : ¬ ((k : Int) < s.size) := by omega
              go_wp2_with fail
              go_meet
              case rel => exact ⟨rfl, rfl⟩
      case rest =>
        obtain ⟨rfl, rfl⟩ := hcut
        go_wp2_with fail
        refine (cS _).mono ?_
        rintro e W2 ⟨rfl, hb2⟩
        have hR2 := hR1.later hb2
        go_wp2_with (refine stU hR2 rfl (.tmp 2) (.tmp 44) rfl _ _ _ rfl rfl ?_; intro W9 hR9 _)
        (try simp only [Exit.inBlock, Exit.then])
        refine ret_uri rfl w.heap.size _ _ _ rfl hR9.cell rfl ?_
        exact ⟨by rw [HV.out]; rfl, hR9.below⟩
    | some x =>
      obtain ⟨xh, xk⟩ := x
      have HV : Hid (Tg.parse l = Tg.atU xh xk (Tg.slash (l.drop E))) := Lib.hid (HP.out (some (xh, xk)) hsi)
      have e0 : qres (some (xh, xk)) = .tuple #[.string (str xh), .int .i64 xk, .bool true] := rfl
      rw [hsi, e0] at cS
      have cA := cA xh xk
      obtain ⟨⟨⟨ra, rb, rc⟩, rd⟩, hr⟩ : ∃ r, Tg.atU xh xk (Tg.slash (l.drop E)) = r := ⟨_, rfl⟩
      rw [hr, ures_u] at cA
      rw [hr] at HV
      generalize str xh = sh at *
      clear HP hsi hr e0
      go_enter Tryz.func9, Tryz.ntmps9
      go_upto_region 1 with fail
      generalize w.alloc (.cells #[.string ⟨#[]⟩, .int .i64 0, .string ⟨#[]⟩] 24) = W0 at hR0 ⊢
      go_wp2_with fail
      refine (cH _).mono ?_
      rintro e W1 ⟨rfl, hb1⟩
      have hR1 := hR0.later hb1
      clear hR0 hb1
      go_upto_block 0 with fail
      go_cut [4] from 16 to 33 (fun i wx => i = .int .i64 E ∧ wx = W1)
      case first =>
        go_wp2_with fail
        go_loop [4] (fun i => ∃ k : Nat, 7 ≤ k ∧ k ≤ E ∧ i = .int .i64 k) (fun i => E - (intOf i).toNat)
        case atStart => exact ⟨7, by omega, by omega, rfl⟩
        case round =>
          obtain ⟨k, hk7, hk, rfl⟩ := hrel
          have hk0 : (0 : Int) ≤ k := by omega
          by_cases hlt : k < E
          · have hks : k < s.size := by omega
            obtain ⟨b47, b63⟩ := sq_false (F2.out k hks hk7 hlt)
            have hki : (k : Int) < s.size := by omega
            go_wp2_with fail
            go_round
            case rel => exact ⟨k + 1, by omega, by omega, by go_num⟩
            case measure => simp [intOf]; omega
          · obtain rfl : k = E := by omega
            by_cases hks : k < s.size
            · have hki : (k : Int) < s.size := by omega
              rcases sq_true (F3.out hks) with i47 | i63
              · go_wp2_with fail
                go_meet
                case rel => exact ⟨rfl, rfl⟩
              · go_wp2_with fail
                go_meet
                case rel => exact ⟨rfl, rfl⟩
            · have hki : ¬ ((k : Int) < s.size) := by omega
              go_wp2_with fail
              go_meet
              case rel => exact ⟨rfl, rfl⟩
      case rest =>
        obtain ⟨rfl, rfl⟩ := hcut
        go_wp2_with fail
        refine (cS _).mono ?_
        rintro e W2 ⟨rfl, hb2⟩
        have hR2 := hR1.later hb2
        go_wp2_with fail
        refine (cA _).mono ?_
        rintro e W3 ⟨rfl, hb3⟩
        have hR3 := hR2.later hb3
        go_wp2_with (refine stU hR3 rfl (.tmp 2) (.tmp 51) rfl _ _ _ rfl rfl ?_; intro W9 hR9 _)
        (try simp only [Exit.inBlock, Exit.then])
        refine ret_uri rfl w.heap.size _ _ _ rfl hR9.cell rfl ?_
        exact ⟨by rw [HV.out]; rfl, hR9.below⟩

set_option maxHeartbeats 1600000 in
set_option maxRecDepth 100000 in
theorem rOf_s (t h : List UInt8) (w : World) (ht : t.length ≤ 90000) (hh : h.length ≤ 90000) :
    Calls Tryz.prog 11 #[.string (str t), .string (str h)] w fun e w' => e = .returned (ures (Tg.ofT t h)) ∧ Below w.heap.size w w' := by
  have cS := fun (W : World) => seat_s h W (by omega)
  have cQ := fun (W : World) => rParse_s t W ht
  have hR0 := Res.start w (.string ⟨#[]⟩) (.int .i64 0) (.string ⟨#[]⟩)
  have HP : Hid (∀ r, Tg.site h = r → Tg.ofT t h = if 8000 < t.length ∨ 8000 < h.length then (Tg.zero, 12) else match r with | none => (Tg.zero, 10) | some x => if t.head? = some 47 then Tg.atU x.1 x.2 t else Tg.parse t) := Lib.hid (by rintro r rfl; rfl)
  have hz1 : (str t).size = t.length := str_size t
  have hz2 : (str h).size = h.length := str_size h
  by_cases h8 : 8000 < t.length
  · have HV : Hid (Tg.ofT t h = (Tg.zero, 12)) := by rw [HP.out _ rfl, if_pos (.inl h8)]; exact Lib.hid rfl
    have i8 : (8000 : Int) < (str t).size := by omega
    generalize str t = s at *
    generalize str h = s2 at *
    clear HP h8 cS cQ hz1 hz2
    go_enter Tryz.func11, Tryz.ntmps11
    go_upto_region 1 with fail
    generalize w.alloc (.cells #[.string ⟨#[]⟩, .int .i64 0, .string ⟨#[]⟩] 24) = W0 at hR0 ⊢
    go_wp2_with (refine stU hR0 rfl (.tmp 4) (.tmp 17) rfl _ _ _ rfl rfl ?_; intro W9 hR9 _)
    (try simp only [Exit.inBlock, Exit.then])
    refine ret_uri rfl w.heap.size _ _ _ rfl hR9.cell rfl ?_
    exact ⟨by rw [HV.out]; rfl, hR9.below⟩
  have i8 : ¬ (8000 : Int) < (str t).size := by omega
  by_cases h9 : 8000 < h.length
  · have HV : Hid (Tg.ofT t h = (Tg.zero, 12)) := by rw [HP.out _ rfl, if_pos (.inr h9)]; exact Lib.hid rfl
    have i9 : (8000 : Int) < (str h).size := by omega
    generalize str t = s at *
    generalize str h = s2 at *
    clear HP h8 h9 cS cQ hz1 hz2
    go_enter Tryz.func11, Tryz.ntmps11
    go_upto_region 1 with fail
    generalize w.alloc (.cells #[.string ⟨#[]⟩, .int .i64 0, .string ⟨#[]⟩] 24) = W0 at hR0 ⊢
    go_wp2_with (refine stU hR0 rfl (.tmp 4) (.tmp 17) rfl _ _ _ rfl rfl ?_; intro W9 hR9 _)
    (try simp only [Exit.inBlock, Exit.then])
    refine ret_uri rfl w.heap.size _ _ _ rfl hR9.cell rfl ?_
    exact ⟨by rw [HV.out]; rfl, hR9.below⟩
  have i9 : ¬ (8000 : Int) < (str h).size := by omega
  have h89 : ¬ (8000 < t.length ∨ 8000 < h.length) := fun e => e.elim h8 h9
  cases hsi : Tg.site h with
  | none =>
    have HV : Hid (Tg.ofT t h = (Tg.zero, 10)) := by rw [HP.out _ hsi, if_neg h89]; exact Lib.hid rfl
    have e0 : qres none = .tuple #[.string ⟨#[]⟩, .int .i64 0, .bool false] := rfl
    rw [hsi, e0] at cS
    generalize str t = s at *
    generalize str h = s2 at *
    clear HP h8 h9 h89 hsi cQ hz1 hz2 e0
    go_enter Tryz.func11, Tryz.ntmps11
    go_upto_region 1 with fail
    generalize w.alloc (.cells #[.string ⟨#[]⟩, .int .i64 0, .string ⟨#[]⟩] 24) = W0 at hR0 ⊢
    go_wp2_with fail
    refine (cS _).mono ?_
    rintro e W1 ⟨rfl, hb1⟩
    have hR1 := hR0.later hb1
    go_wp2_with (refine stU hR1 rfl (.tmp 4) (.tmp 26) rfl _ _ _ rfl rfl ?_; intro W9 hR9 _)
    (try simp only [Exit.inBlock, Exit.then])
    refine ret_uri rfl w.heap.size _ _ _ rfl hR9.cell rfl ?_
    exact ⟨by rw [HV.out]; rfl, hR9.below⟩
  | some x =>
    obtain ⟨xh, xk⟩ := x
    have e0 : qres (some (xh, xk)) = .tuple #[.string (str xh), .int .i64 xk, .bool true] := rfl
    rw [hsi, e0] at cS
    by_cases h47 : t.head? = some 47
    · have HV : Hid (Tg.ofT t h = Tg.atU xh xk t) := by rw [HP.out _ hsi, if_neg h89]; exact Lib.hid (if_pos h47)
      have hbg : Tg.Begins t := .inr (.inl h47)
      have hst : Tg.slash t = t := by unfold Tg.slash; rw [if_pos h47]
      have cA := fun (W : World) => rat_s xh xk t W ht hbg
      rw [hst] at cA
      obtain ⟨t2, rfl⟩ : ∃ t2, t = 47 :: t2 := by
        cases t with
        | nil => cases h47
        | cons c r =>
          obtain rfl : c = 47 := by simpa using h47
          exact ⟨r, rfl⟩
      have hp : 0 < (str (47 :: t2)).size := by rw [str_size]; simp
      have hpi : (0 : Int) < (str (47 :: t2)).size := by omega
      have i47 : (((str (47 :: t2))[0]'hp).toNat : Int) = 47 := rfl
      obtain ⟨⟨⟨ra, rb, rc⟩, rd⟩, hr⟩ : ∃ r, Tg.atU xh xk (47 :: t2) = r := ⟨_, rfl⟩
      rw [hr, ures_u] at cA
      rw [hr] at HV
      generalize str xh = sh at *
      generalize str (47 :: t2) = s at *
      generalize str h = s2 at *
      clear HP h8 h9 h89 hsi cQ hz1 hz2 e0 hbg hst hr h47
      go_enter Tryz.func11, Tryz.ntmps11
      go_upto_region 1 with fail
      generalize w.alloc (.cells #[.string ⟨#[]⟩, .int .i64 0, .string ⟨#[]⟩] 24) = W0 at hR0 ⊢
      go_wp2_with fail
      refine (cS _).mono ?_
      rintro e W1 ⟨rfl, hb1⟩
      have hR1 := hR0.later hb1
      go_wp2_with fail
      refine (cA _).mono ?_
      rintro e W2 ⟨rfl, hb2⟩
      have hR2 := hR1.later hb2
      go_wp2_with (refine stU hR2 rfl (.tmp 4) (.tmp 39) rfl _ _ _ rfl rfl ?_; intro W9 hR9 _)
      (try simp only [Exit.inBlock, Exit.then])
      refine ret_uri rfl w.heap.size _ _ _ rfl hR9.cell rfl ?_
      exact ⟨by rw [HV.out]; rfl, hR9.below⟩
    · have HV : Hid (Tg.ofT t h = Tg.parse t) := by rw [HP.out _ hsi, if_neg h89]; exact Lib.hid (if_neg h47)
      obtain ⟨⟨⟨ra, rb, rc⟩, rd⟩, hr⟩ : ∃ r, Tg.parse t = r := ⟨_, rfl⟩
      rw [hr, ures_u] at cQ
      rw [hr] at HV
      generalize str xh = sh at *
      cases t with
      | nil =>
        have hp : ¬ (0 : Int) < (str []).size := by rw [str_size]; simp
        generalize str [] = s at *
        generalize str h = s2 at *
        clear HP h8 h9 h89 hsi hz1 hz2 e0 hr h47
        go_enter Tryz.func11, Tryz.ntmps11
        go_upto_region 1 with fail
        generalize w.alloc (.cells #[.string ⟨#[]⟩, .int .i64 0, .string ⟨#[]⟩] 24) = W0 at hR0 ⊢
        go_wp2_with fail
        refine (cS _).mono ?_
        rintro e W1 ⟨rfl, hb1⟩
        have hR1 := hR0.later hb1
        go_wp2_with fail
        refine (cQ _).mono ?_
        rintro e W2 ⟨rfl, hb2⟩
        have hR2 := hR1.later hb2
        go_wp2_with (refine stU hR2 rfl (.tmp 4) (.tmp 43) rfl _ _ _ rfl rfl ?_; intro W9 hR9 _)
        (try simp only [Exit.inBlock, Exit.then])
        refine ret_uri rfl w.heap.size _ _ _ rfl hR9.cell rfl ?_
        exact ⟨by rw [HV.out]; rfl, hR9.below⟩
      | cons c t2 =>
        have hp : 0 < (str (c :: t2)).size := by rw [str_size]; simp
        have hpi : (0 : Int) < (str (c :: t2)).size := by omega
        have i47 := nq8 ((str (c :: t2))[0]'hp) 47 47 rfl (by rw [idx0 _ c t2 rfl hp]; rintro rfl; exact h47 rfl)
        have n47 : ¬ ((((str (c :: t2))[0]'hp).toNat : Int) = 47) := beq_eq_false_iff_ne.1 i47
        generalize str (c :: t2) = s at *
        generalize str h = s2 at *
        clear HP h8 h9 h89 hsi hz1 hz2 e0 hr h47
        go_enter Tryz.func11, Tryz.ntmps11
        go_upto_region 1 with fail
        generalize w.alloc (.cells #[.string ⟨#[]⟩, .int .i64 0, .string ⟨#[]⟩] 24) = W0 at hR0 ⊢
        go_wp2_with fail
        refine (cS _).mono ?_
        rintro e W1 ⟨rfl, hb1⟩
        have hR1 := hR0.later hb1
        go_wp2_with fail
        refine (cQ _).mono ?_
        rintro e W2 ⟨rfl, hb2⟩
        have hR2 := hR1.later hb2
        go_wp2_with (refine stU hR2 rfl (.tmp 4) (.tmp 43) rfl _ _ _ rfl rfl ?_; intro W9 hR9 _)
        (try simp only [Exit.inBlock, Exit.then])
        refine ret_uri rfl w.heap.size _ _ _ rfl hR9.cell rfl ?_
        exact ⟨by rw [HV.out]; rfl, hR9.below⟩

set_option maxHeartbeats 1600000 in
set_option maxRecDepth 100000 in
theorem rPrint_u (u : Tg.U) (w : World) (h1 : u.host.length ≤ 1000000) (h2 : u.path.length ≤ 1000000) (h3 : u.port ≤ 9223372036854775807) :
    Calls Tryz.prog 13 #[uval u] w fun e w' => e = .returned (.string (str (Tg.print u))) ∧ Below w.heap.size w w' := by
  rw [uval_u]
  have hU0 := Res.start w (.string (str u.host)) (.int .i64 u.port) (.string (str u.path))
  have hz1 : (str u.host).size ≤ 1000000 := by rw [str_size]; exact h1
  have hz2 : (str u.path).size ≤ 1000000 := by rw [str_size]; exact h2
  by_cases h80 : u.port = 80
  · have HV : Hid ((⟨#[104, 116, 116, 112, 58, 47, 47]⟩ : ByteArray) ++ str u.host ++ str u.path = str (Tg.print u)) := by
      refine Lib.hid (str_same ?_)
      rw [app_data, app_data, str_list, str_list]
      unfold Tg.print Tg.portT; rw [if_pos h80, List.append_nil]; rfl
    rw [h80] at hU0 ⊢
    generalize str u.host = H at *
    generalize str u.path = P at *
    clear h1 h2 h3 h80
    go_enter Tryz.func13, Tryz.ntmps13
    go_upto_region 1 with fail
    generalize w.alloc (.cells #[.string H, .int .i64 80, .string P] 24) = W0 at hU0 ⊢
    obtain ⟨c0, c1, c2⟩ := box_cell hU0.cell
    have hB := hU0.below
    have hzs : (⟨#[104, 116, 116, 112, 58, 47, 47]⟩ ++ H : ByteArray).size ≤ 1000007 := by rw [ByteArray.size_append]; show 7 + H.size ≤ _; omega
    clear hU0
    go_wp2_with fail
    go_ret
    exact ⟨by rw [← HV.out]; rfl, hB⟩
  · have b80 : (u.port != 80) = true := by rw [bne, beq_eq_false_iff_ne.2 h80]; rfl
    have HV : Hid ((⟨#[104, 116, 116, 112, 58, 47, 47]⟩ : ByteArray) ++ str u.host ++ ⟨#[58]⟩ ++ str (Oct.print u.port 10) ++ str u.path = str (Tg.print u)) := by
      refine Lib.hid (str_same ?_)
      rw [app_data, app_data, app_data, app_data, str_list, str_list, str_list]
      unfold Tg.print Tg.portT; rw [if_neg h80]
      simp [Tg.httpT]
    have cP := fun (W : World) => rPrint_is u.port 10 _ W h3 rfl
    have hz3 : (str (Oct.print u.port 10)).size ≤ 100 := by rw [str_size]; exact Oct.dgs_len10 u.port.toNat (by omega)
    generalize str u.host = H at *
    generalize str u.path = P at *
    generalize str (Oct.print u.port 10) = D at *
    generalize u.port = K at *
    clear h1 h2 h3 h80
    go_enter Tryz.func13, Tryz.ntmps13
    go_upto_region 1 with fail
    generalize w.alloc (.cells #[.string H, .int .i64 K, .string P] 24) = W0 at hU0 ⊢
    obtain ⟨c0, c1, c2⟩ := box_cell hU0.cell
    have hzs : (⟨#[104, 116, 116, 112, 58, 47, 47]⟩ ++ H : ByteArray).size ≤ 1000007 := by rw [ByteArray.size_append]; show 7 + H.size ≤ _; omega
    have hzs2 : (⟨#[104, 116, 116, 112, 58, 47, 47]⟩ ++ H ++ ⟨#[58]⟩ : ByteArray).size ≤ 1000008 := by rw [ByteArray.size_append]; show _ + 1 ≤ _; omega
    have hzs3 : (⟨#[104, 116, 116, 112, 58, 47, 47]⟩ ++ H ++ ⟨#[58]⟩ ++ D : ByteArray).size ≤ 1000108 := by rw [ByteArray.size_append]; omega
    go_wp2_with fail
    refine (cP _).mono ?_
    rintro e W1 ⟨rfl, hb1⟩
    have hU1 := hU0.later hb1
    obtain ⟨d0, d1, d2⟩ := box_cell hU1.cell
    have hB := hU1.below
    clear c0 c1 c2 hU0 hU1 cP hb1
    go_wp2_with fail
    go_ret
    exact ⟨by rw [← HV.out]; rfl, hB⟩

set_option maxHeartbeats 1600000 in
set_option maxRecDepth 100000 in
theorem rRight_u (u : Tg.U) (w : World) (h1 : u.host.length ≤ 40000) (h2 : u.path.length ≤ 40000) (h3 : u.port ≤ 9223372036854775807) :
    Calls Tryz.prog 15 #[uval u] w fun e w' => e = .returned (.bool (Tg.right u)) ∧ Below w.heap.size w w' := by
  have hpl : (Tg.print u).length ≤ 90000 := by
    unfold Tg.print Tg.portT
    have h4 : Tg.httpT.length = 7 := rfl
    have h5 := Oct.dgs_len10 u.port.toNat (by omega)
    have h6 : (Oct.print u.port 10).length ≤ 100 := h5
    split <;> simp <;> omega
  have cP := fun (W : World) => rPrint_u u W (by omega) (by omega) h3
  have cQ := fun (W : World) => rParse_s (Tg.print u) W hpl
  obtain ⟨⟨v, e⟩, hve⟩ : ∃ r, Tg.parse (Tg.print u) = r := ⟨_, rfl⟩
  have HV : Hid (Tg.right u = (decide (e = 0) && decide (v = u))) := by
    have : Tg.right u = (decide (e = 0) && decide (v = u)) := by
      unfold Tg.right; rw [hve, Bool.eq_iff_iff]; simp [and_comm]
    exact Lib.hid this
  rw [hve] at cQ
  have e1 : ures (v, e) = .tuple #[.agg #[.string (str v.host), .int .i64 v.port, .string (str v.path)], .int .i64 e] := rfl
  rw [e1] at cQ
  have hG := fun (x y : Nat) (W : World) => guard_uri .eql (.inl rfl) x y v u W
  have hE := fun (W : World) => eql_uri v u W
  rw [uval_u, uval_u] at hE
  simp only [uval_u] at hG
  rw [uval_u] at cP
  have hU0 := Res.start w (.string (str u.host)) (.int .i64 u.port) (.string (str u.path))
  clear e1 hve hpl h1 h2 h3
  rw [uval_u]
  generalize str (Tg.print u) = PR at *
  generalize decide (v = u) = q at *
  generalize str u.host = H at *
  generalize str u.path = P at *
  generalize u.port = K at *
  generalize str v.host = H2 at *
  generalize str v.path = P2 at *
  generalize v.port = K2 at *
  go_enter Tryz.func15, Tryz.ntmps15
  go_upto_region 1 with fail
  generalize w.alloc (.cells #[.string H, .int .i64 K, .string P] 24) = W0 at hU0 ⊢
  go_wp2_with (refine ldU hU0.cell rfl (.tmp 1) rfl rfl ?_)
  refine (cP _).mono ?_
  rintro e' W1 ⟨rfl, hb1⟩
  have hU1 := hU0.later hb1
  go_wp2_with fail
  refine (cQ _).mono ?_
  rintro e' W2 ⟨rfl, hb2⟩
  have hU2 := (hU1.later hb2).alloc (.cells #[.string H2, .int .i64 K2, .string P2] 24)
  have hS2 := Res.start W2 (.string H2) (.int .i64 K2) (.string P2)
  clear hU0 hU1 hb1 hb2 cP cQ
  go_upto_region 2 with fail
  generalize W2.alloc (.cells #[.string H2, .int .i64 K2, .string P2] 24) = W3 at hU2 hS2 ⊢
  generalize W2.heap.size = G at hS2 ⊢
  obtain ⟨c0, c1, c2⟩ := box_cell hU2.cell
  obtain ⟨d0, d1, d2⟩ := box_cell hS2.cell
  have hB := hU2.below
  clear hU2 hS2
  by_cases he : e = 0
  · subst he
    have HV2 : Hid (Tg.right u = q) := by rw [HV.out]; exact Lib.hid (by simp)
    go_wp2_with fail
    go_ret
    exact ⟨ret_bool HV2.out.symm, hB⟩
  · have b0 : (e == 0) = false := beq_eq_false_iff_ne.2 he
    have HV2 : Hid (Tg.right u = false) := by rw [HV.out]; exact Lib.hid (by simp [he])
    clear he
    go_wp2_with fail
    go_ret
    exact ⟨ret_bool HV2.out.symm, hB⟩

end Go.Proofs.YtlikjfemkadciaaGreatDoor
