/- The statements of layer 11: RulesInvalidates. -/
import Derived.Test.YtoanelobggledaaGreatDoorVRl8
import Derived.Test.YtoanelobggledaaGreatDoorVRlI
import Derived.Lib.ConvBytes
namespace Go.Proofs.YtoanelobggledaaGreatDoor
open Go.RowKit

theorem addU_len9 (us : List Tg.U) (o : Option Tg.U) : (Rl.addU us o).length ≤ us.length + 1 := by
  unfold Rl.addU
  split
  · omega
  · split
    · omega
    · simp
theorem invalid_len (u : Tg.U) (m : List UInt8) (st : Int) (fs : List Fld.F) : (Rl.invalid u m st fs).length ≤ 3 := by
  unfold Rl.invalid
  split
  · simp
  · have h1 := addU_len9 [u] (Rl.lead u fs Rl.kLoc)
    have h2 := addU_len9 (Rl.addU [u] (Rl.lead u fs Rl.kLoc)) (Rl.lead u fs Rl.kCLoc)
    simp only [List.length_singleton] at h1
    omega
set_option maxHeartbeats 6400000 in
set_option maxRecDepth 100000 in
theorem invalidates_w {Env : World → Prop} (R : Prog11 D0 Env) (u : Tg.U) (m n : Msg) (w : World) (he : Env w) (hh : u.host.length ≤ 9223372036854775807) (hp : u.path.length ≤ 9223372036854775807) (ho : u.port ≤ 9223372036854775807) (hm : MOk w m) (hn : MOk w n) :
    Calls Tryz.prog 6 #[uval u, m.val, n.val] w fun e w' => e = .returned (.bool true) ∧ Below w.heap.size w w' := by
  have cA : Hid (∀ W', Below w.heap.size w W' → Calls Tryz.prog 10 #[] W' fun e w' => e = .returned (.bool true) ∧ Below W'.heap.size W' w') := Lib.hid fun W' hb => awake_w R W' (R.later he hb)
  have HE := Lib.hid (fun (W' : World) (hb : Below w.heap.size w W') => R.later he hb)
  rw [uval_u]
  obtain ⟨a, b, c, st, mi, fv, bv, fs, bl⟩ := m
  obtain ⟨a', b', c', st', mi', fv', bv', fs', bl'⟩ := n
  obtain ⟨fa, fc, hfv, hx8⟩ := hm.fin
  obtain ⟨ba, bc, hbv⟩ := hm.body
  obtain ⟨fa', fc', hfv', hx9⟩ := hn.fin
  obtain ⟨ba', bc', hbv'⟩ := hn.body
  clear hx8 hx9
  dsimp only at hfv hbv hfv' hbv'
  subst hfv hbv hfv' hbv'
  unfold Msg.val
  dsimp only
  have cS : Hid (∀ (g : Nat) W', Below w.heap.size w W' → W'.heap[g]? = some (.cells #[.string a, .string b, .int .i64 st, .string c, .int .i64 mi, .slice fa fs.length fc, .slice ba bl bc, .string a', .string b', .int .i64 st', .string c', .int .i64 mi', .slice fa' fs'.length fc', .slice ba' bl' bc'] 27 (0, 0)) → Calls Tryz.prog 11 #[.slice (some ⟨g, 0, none⟩) 2 2] W' fun e w' => e = .returned (.bool ([(⟨a, b, c, st, mi, .slice fa fs.length fc, .slice ba bl bc, fs, bl⟩ : Msg), ⟨a', b', c', st', mi', .slice fa' fs'.length fc', .slice ba' bl' bc', fs', bl'⟩].all shortB)) ∧ Below W'.heap.size W' w') := Lib.hid fun g W' hb h =>
    short_w g 2 [⟨a, b, c, st, mi, .slice fa fs.length fc, .slice ba bl bc, fs, bl⟩, ⟨a', b', c', st', mi', .slice fa' fs'.length fc', .slice ba' bl' bc', fs', bl'⟩] W' rfl (by decide) (MRow.two (m := ⟨a, b, c, st, mi, .slice fa fs.length fc, .slice ba bl bc, fs, bl⟩) (n := ⟨a', b', c', st', mi', .slice fa' fs'.length fc', .slice ba' bl' bc', fs', bl'⟩) h) (fun q hq => by
      rcases List.mem_cons.1 hq with rfl | hq
      · exact hm.later hb
      · obtain rfl := List.mem_singleton.1 hq; exact hn.later hb)
  have HSH : Hid ([(⟨a, b, c, st, mi, .slice fa fs.length fc, .slice ba bl bc, fs, bl⟩ : Msg), ⟨a', b', c', st', mi', .slice fa' fs'.length fc', .slice ba' bl' bc', fs', bl'⟩].all shortB = true → ((Mid fs ∧ bl ≤ 1000 ∧ a.size ≤ 100) ∧ (Mid fs' ∧ bl' ≤ 1000 ∧ a'.size ≤ 100)) ∧ Mid (Rl.update (Rl.kept fs) fs') ∧ Mid (Rl.update fs fs')) := Lib.hid fun h => by
    have h2 : shortB ⟨a, b, c, st, mi, .slice fa fs.length fc, .slice ba bl bc, fs, bl⟩ = true ∧ shortB ⟨a', b', c', st', mi', .slice fa' fs'.length fc', .slice ba' bl' bc', fs', bl'⟩ = true := by simpa using h
    have h3 : (Rl.kept fs).length ≤ 30 := by rw [Rl.kept_drop]; exact Nat.le_trans (Fld.drop_length _ _) (shortB_few h2.1)
    have h4 : fs'.length ≤ 30 := shortB_few h2.2
    have h5 : fs.length ≤ 30 := shortB_few h2.1
    exact ⟨⟨shortB_spec h2.1, shortB_spec h2.2⟩, update_mid (shortB_spec h2.1).1.kept (shortB_spec h2.2).1 (by omega), update_mid (shortB_spec h2.1).1 (shortB_spec h2.2).1 (by omega)⟩
  generalize [(⟨a, b, c, st, mi, .slice fa fs.length fc, .slice ba bl bc, fs, bl⟩ : Msg), ⟨a', b', c', st', mi', .slice fa' fs'.length fc', .slice ba' bl' bc', fs', bl'⟩].all shortB = sh at *
  have HF1 := Lib.hid hm.fin
  have HF2 := Lib.hid hn.fin
  obtain ⟨x1, hx1, hxl1⟩ := hm.bin
  obtain ⟨x2, hx2, hxl2⟩ := hn.bin
  have HN1 := Lib.hid hm.nil
  have HS1 := Lib.hid hm.blim
  change Hid (b.size ≤ 281474976710656 ∧ c.size ≤ 281474976710656) at HS1
  dsimp only at hx1 hxl1 hx2 hxl2
  have HX1 := Lib.hid hx1
  have HX2 := Lib.hid hx2
  have HL1 := Lib.hid hxl1
  have HL2 := Lib.hid hxl2
  change Hid (FIn w (.slice fa fs.length fc) fs) at HF1
  change Hid (FIn w (.slice fa' fs'.length fc') fs') at HF2
  change Hid (NilOk (.slice fa fs.length fc)) at HN1
  clear hm hn hx1 hx2 hxl1 hxl2 he
  generalize fs.length = fl at *
  generalize fs'.length = fl' at *
  obtain ⟨W, hW⟩ : ∃ W, W = ((w.alloc (.cells #[.string (str u.host), .int .i64 u.port, .string (str u.path)] 46)).alloc (.cells #[.string a, .string b, .int .i64 st, .string c, .int .i64 mi, .slice fa fl fc, .slice ba bl bc] 27)).alloc (.cells #[.string a', .string b', .int .i64 st', .string c', .int .i64 mi', .slice fa' fl' fc', .slice ba' bl' bc'] 27) := ⟨_, rfl⟩
  have hbw : Below w.heap.size w W := by rw [hW]; exact (((Below.refl _ w).alloc (Nat.le_refl _) _).alloc (by simp) _).alloc (by simp; omega) _
  have qU : W.heap[w.heap.size]? = some (.cells #[.string (str u.host), .int .i64 u.port, .string (str u.path)] 46 (0, 0)) := by rw [hW]; exact blk_stay (blk_stay (heap_alloc_new w _) ((Below.refl _ _).alloc (Nat.le_refl _) _)) ((Below.refl _ _).alloc (Nat.le_refl _) _)
  have q0 : W.heap[w.heap.size + 1]? = some (.cells #[.string a, .string b, .int .i64 st, .string c, .int .i64 mi, .slice fa fl fc, .slice ba bl bc] 27 (0, 0)) := by rw [hW]; exact blk_stay (heap_alloc2_new w _ _) ((Below.refl _ _).alloc (Nat.le_refl _) _)
  have q1 : W.heap[w.heap.size + 2]? = some (.cells #[.string a', .string b', .int .i64 st', .string c', .int .i64 mi', .slice fa' fl' fc', .slice ba' bl' bc'] 27 (0, 0)) := by
    have e : ((w.alloc (.cells #[.string (str u.host), .int .i64 u.port, .string (str u.path)] 46)).alloc (.cells #[.string a, .string b, .int .i64 st, .string c, .int .i64 mi, .slice fa fl fc, .slice ba bl bc] 27)).heap.size = w.heap.size + 2 := by simp
    rw [hW, ← e]; exact heap_alloc_new _ _
  have HO := Lib.hid (fun (W' : World) (hb : Below W.heap.size W W') => tri_cells (blk_stay qU hb))
  have HM := Lib.hid (fun (W' : World) (hb : Below W.heap.size W W') => set7' (blk_stay q0 hb))
  have HN := Lib.hid (fun (W' : World) (hb : Below W.heap.size W W') => set7' (blk_stay q1 hb))
  have hWW := Below.refl W.heap.size W
  clear qU q0 q1
  unfold mv mcell at *
  obtain ⟨m0, m1, m2, m3, m4, m5, m6⟩ := HM.out W hWW
  obtain ⟨n0, n1, n2, n3, n4, n5, n6⟩ := HN.out W hWW
  go_enter Tryz.func6, Tryz.ntmps6
  go_upto_region 1 with fail
  rw [← hW]
  clear hW
  go_wp2_with fail
  refine (cA.out W hbw).mono ?_
  rintro e w1 ⟨rfl, hx1⟩
  have hbw1 := hbw.trans (hx1.mono hbw.size)
  have hWw1 := hWW.trans (hx1.mono hWW.size)
  clear hx1 m0 m1 m2 m3 m4 m5 m6 n0 n1 n2 n3 n4 n5 n6
  obtain ⟨m0, m1, m2, m3, m4, m5, m6⟩ := HM.out w1 hWw1
  obtain ⟨n0, n1, n2, n3, n4, n5, n6⟩ := HN.out w1 hWw1
  have hr2 := heap_alloc_new w1 (.cells #[.string a, .string b, .int .i64 st, .string c, .int .i64 mi, .slice fa fl fc, .slice ba bl bc, .string a', .string b', .int .i64 st', .string c', .int .i64 mi', .slice fa' fl' fc', .slice ba' bl' bc'] 27)
  have hx2 : Below w1.heap.size w1 (w1.alloc (.cells #[.string a, .string b, .int .i64 st, .string c, .int .i64 mi, .slice fa fl fc, .slice ba bl bc, .string a', .string b', .int .i64 st', .string c', .int .i64 mi', .slice fa' fl' fc', .slice ba' bl' bc'] 27)) := (Below.refl _ _).alloc (Nat.le_refl _) _
  have hbw2 := hbw1.trans (hx2.mono hbw1.size)
  have hWw2 := hWw1.trans (hx2.mono hWw1.size)
  have cS2 := cS.out w1.heap.size _ hbw2 hr2
  clear hx2 hr2
  go_wp2_with fail
  refine cS2.mono ?_
  rintro e w3 ⟨rfl, hx3⟩
  have hbw3 := hbw2.trans (hx3.mono hbw2.size)
  have hWw3 := hWw2.trans (hx3.mono hWw2.size)
  clear hx3 cS2 cS hbw2 hWw2 hbw1 hWw1 m0 m1 m2 m3 m4 m5 m6 n0 n1 n2 n3 n4 n5 n6
  cases sh with
  | false =>
    go_wp2_with fail
    refine (cA.out w3 hbw3).mono ?_
    rintro e w4 ⟨rfl, hx4⟩
    go_wp2_with fail
    go_ret
    exact ⟨rfl, hbw3.trans (hx4.mono hbw3.size)⟩
  | true =>
    obtain ⟨⟨⟨p1, p2, p3⟩, q1, q2, q3⟩, p4, q4⟩ := HSH.out rfl
    clear HSH p4 q4
    obtain ⟨o0, o1, o2⟩ := HO.out w3 hWw3
    have hs9 : (str u.host).size = u.host.length := str_size _
    have hs8 : (str u.path).size = u.path.length := str_size _
    generalize hsh : str u.host = sh9 at *
    generalize hsp : str u.path = sp9 at *
    have HSE := Lib.hid (And.intro hsh hsp)
    have HS9 := Lib.hid (And.intro hs9 hs8)
    clear hsh hsp
    have hz1 : sh9.size ≤ 9223372036854775807 := by omega
    have hz2 : sp9.size ≤ 9223372036854775807 := by omega
    clear hs9 hs8
    by_cases hH : 300 < sh9.size
    · have hH2 : ((sh9.size : Int) > 300) := by omega
      clear hH
      go_wp2_with fail
      refine (cA.out w3 hbw3).mono ?_
      rintro e w4 ⟨rfl, hx4⟩
      go_wp2_with fail
      go_ret
      exact ⟨rfl, hbw3.trans (hx4.mono hbw3.size)⟩
    have hH2 : ¬ ((sh9.size : Int) > 300) := by omega
    by_cases hQ : 1000 < sp9.size
    · have hQ2 : ((sp9.size : Int) > 1000) := by omega
      clear hQ
      go_wp2_with fail
      refine (cA.out w3 hbw3).mono ?_
      rintro e w4 ⟨rfl, hx4⟩
      go_wp2_with fail
      go_ret
      exact ⟨rfl, hbw3.trans (hx4.mono hbw3.size)⟩
    have hQ2 : ¬ ((sp9.size : Int) > 1000) := by omega
    clear cA
    go_upto_region 3 with fail
    have hh3 : u.host.length ≤ 300 := by have := HS9.out.1; omega
    have hp3 : u.path.length ≤ 1000 := by have := HS9.out.2; omega
    clear HS9 hH hQ hH2 hQ2 hz1 hz2 o0 o1 o2 HS1
    obtain ⟨I, hI⟩ : ∃ I, I = Rl.invalid u a.data.toList st' fs' := ⟨_, rfl⟩
    have hIl : I.length ≤ 3 := by rw [hI]; exact invalid_len _ _ _ _
    have DI1 := Lib.hid (fun W' (hb : Below w.heap.size w W') => R.invalid u a.data.toList a' b' c' st' mi' (.slice fa' fl' fc') (.slice ba' bl' bc') fs' W' (HE.out W' hb) (HF2.out.later hb) ⟨_, _, _, rfl⟩ q1 hh3 hp3 ho (by rw [Oct.length_size]; exact p3))
    have DI2 := Lib.hid (fun W' (hb : Below w.heap.size w W') => rInvalid_w u a.data.toList a' b' c' st' mi' (.slice fa' fl' fc') (.slice ba' bl' bc') fs' W' (HF2.out.later hb) ⟨_, _, _, rfl⟩ q1 hh3 hp3 ho)
    rw [← hI, str_of, uval_u, HSE.out.1, HSE.out.2] at DI1 DI2
    have DU1 := Lib.hid (fun W' (hb : Below w.heap.size w W') => R.unchanged a b c a' b' c' st mi st' mi' (.slice fa fl fc) (.slice ba bl bc) (.slice fa' fl' fc') (.slice ba' bl' bc') fs fs' W' (HE.out W' hb) (HF1.out.later hb) ⟨_, _, _, rfl⟩ p1 (HF2.out.later hb) ⟨_, _, _, rfl⟩ q1 p3)
    have DU2 := Lib.hid (fun W' (hb : Below w.heap.size w W') => rUnchanged_w a b c a' b' c' st mi st' mi' (.slice fa fl fc) (.slice ba bl bc) (.slice fa' fl' fc') (.slice ba' bl' bc') fs fs' W' (HF1.out.later hb) p1 (HF2.out.later hb) q1)
    generalize Rl.unchanged D0 a.data.toList fs st' fs' = ub at *
    clear hI HX1 HX2 HL1 HL2 R p1 p2 p3 q1 q2 q3 HE HF1 HF2 HN1 hh3 hp3 ho hh hp
    unfold mv mcell at *
    have HS : Hid (∀ w', Below w3.heap.size w3 w' → (w'.cell? ⟨w.heap.size, 0, none⟩ = some (.string sh9) ∧ w'.cell? ⟨w.heap.size, 1, none⟩ = some (.int .i64 u.port) ∧ w'.cell? ⟨w.heap.size, 2, none⟩ = some (.string sp9) ∧ w'.cell? ⟨w.heap.size + 1, 0, none⟩ = some (.string a) ∧ w'.cell? ⟨w.heap.size + 1, 1, none⟩ = some (.string b) ∧ w'.cell? ⟨w.heap.size + 1, 2, none⟩ = some (.int .i64 st) ∧ w'.cell? ⟨w.heap.size + 1, 3, none⟩ = some (.string c) ∧ w'.cell? ⟨w.heap.size + 1, 4, none⟩ = some (.int .i64 mi) ∧ w'.cell? ⟨w.heap.size + 1, 5, none⟩ = some (.slice fa fl fc) ∧ w'.cell? ⟨w.heap.size + 1, 6, none⟩ = some (.slice ba bl bc) ∧ w'.cell? ⟨w.heap.size + 2, 0, none⟩ = some (.string a') ∧ w'.cell? ⟨w.heap.size + 2, 1, none⟩ = some (.string b') ∧ w'.cell? ⟨w.heap.size + 2, 2, none⟩ = some (.int .i64 st') ∧ w'.cell? ⟨w.heap.size + 2, 3, none⟩ = some (.string c') ∧ w'.cell? ⟨w.heap.size + 2, 4, none⟩ = some (.int .i64 mi') ∧ w'.cell? ⟨w.heap.size + 2, 5, none⟩ = some (.slice fa' fl' fc') ∧ w'.cell? ⟨w.heap.size + 2, 6, none⟩ = some (.slice ba' bl' bc'))) := Lib.hid fun w' hb => by
      obtain ⟨o0, o1, o2⟩ := HO.out w' (hWw3.trans (hb.mono hWw3.size))
      obtain ⟨i0, i1, i2, i3, i4, i5, i6⟩ := HM.out w' (hWw3.trans (hb.mono hWw3.size))
      obtain ⟨j0, j1, j2, j3, j4, j5, j6⟩ := HN.out w' (hWw3.trans (hb.mono hWw3.size))
      exact ⟨o0, o1, o2, i0, i1, i2, i3, i4, i5, i6, j0, j1, j2, j3, j4, j5, j6⟩
    have cI1 := Lib.hid (fun W' (hb : Below w3.heap.size w3 W') => DI1.out W' (hbw3.trans (hb.mono hbw3.size)))
    have cI2 := Lib.hid (fun W' (hb : Below w3.heap.size w3 W') => DI2.out W' (hbw3.trans (hb.mono hbw3.size)))
    have K0 : Hid (Below w3.heap.size w3 w3.drew) := Lib.hid (Below.refl _ _).drew
    have HZ := Lib.hid (And.intro hbw3 hWw3)
    clear DI1 DI2 hbw3 hWw3
    go_region_held3 (fun w' => w'.cell? ⟨w.heap.size, 0, none⟩ = some (.string sh9) ∧ w'.cell? ⟨w.heap.size, 1, none⟩ = some (.int .i64 u.port) ∧ w'.cell? ⟨w.heap.size, 2, none⟩ = some (.string sp9) ∧ w'.cell? ⟨w.heap.size + 1, 0, none⟩ = some (.string a) ∧ w'.cell? ⟨w.heap.size + 1, 1, none⟩ = some (.string b) ∧ w'.cell? ⟨w.heap.size + 1, 2, none⟩ = some (.int .i64 st) ∧ w'.cell? ⟨w.heap.size + 1, 3, none⟩ = some (.string c) ∧ w'.cell? ⟨w.heap.size + 1, 4, none⟩ = some (.int .i64 mi) ∧ w'.cell? ⟨w.heap.size + 1, 5, none⟩ = some (.slice fa fl fc) ∧ w'.cell? ⟨w.heap.size + 1, 6, none⟩ = some (.slice ba bl bc) ∧ w'.cell? ⟨w.heap.size + 2, 0, none⟩ = some (.string a') ∧ w'.cell? ⟨w.heap.size + 2, 1, none⟩ = some (.string b') ∧ w'.cell? ⟨w.heap.size + 2, 2, none⟩ = some (.int .i64 st') ∧ w'.cell? ⟨w.heap.size + 2, 3, none⟩ = some (.string c') ∧ w'.cell? ⟨w.heap.size + 2, 4, none⟩ = some (.int .i64 mi') ∧ w'.cell? ⟨w.heap.size + 2, 5, none⟩ = some (.slice fa' fl' fc') ∧ w'.cell? ⟨w.heap.size + 2, 6, none⟩ = some (.slice ba' bl' bc'))
      (first | with_reducible exact HS.out _ K0.out | with_reducible exact HS.out _ K2.out | with_reducible exact HS.out _ K1.out)
      (first
        | (go_at_call 33; (with_reducible refine (cI2.out y1 K1.out).mono ?_); rintro e y2 ⟨⟨v2, rfl, hf⟩, hb⟩; have K2 := Lib.hid (K1.out.trans (hb.mono K1.out.size)); have F2 := Lib.hid hf; replace F1 := Lib.hid (F1.out.later hb); clear hf hb)
        | (go_at_call 32; (with_reducible refine (cI1.out _ K0.out).mono ?_); rintro e y1 ⟨⟨v1, rfl, hf⟩, hb⟩; have K1 := Lib.hid (K0.out.trans (hb.mono K0.out.size)); have F1 := Lib.hid hf; clear hf hb))
    obtain ⟨hb3, hW3⟩ := HZ.out
    have hbz := hb3.trans (K2.out.mono hb3.size)
    have hWz := hW3.trans (K2.out.mono hW3.size)
    obtain ⟨ao1, co1, hv1, hc1⟩ := F1.out
    obtain ⟨ao2, co2, hv2, hc2⟩ := F2.out
    have HC1 := Lib.hid hc1
    have HC2 := Lib.hid hc2
    obtain ⟨n, hn⟩ : ∃ n, n = I.length := ⟨_, rfl⟩
    have HNN := Lib.hid hn
    rw [← hn] at hv1 hv2
    subst hv1 hv2
    clear hn hc1 hc2 hb3 hW3 HZ HS K0 K1 K2 cI1 cI2 F1 F2
    have hn9 : n ≤ 3 := by have := HNN.out; omega
    have HBZ := Lib.hid hbz
    have HWZ := Lib.hid hWz
    clear hbz hWz
    go_wp2_with fail
    go_loopw [9] (fun i wr => ∃ k : Nat, k ≤ n ∧ i = .int .i64 k ∧ Below y2.heap.size y2 wr) (fun i _ => n - (intOf i).toNat)
    case atStart => exact ⟨0, by omega, rfl, Below.refl _ _⟩
    case round =>
      obtain ⟨k, hk9, rfl, hbr⟩ := hrel
      by_cases hlt : k < n
      · have hkl : k < I.length := by have := HNN.out; omega
        obtain ⟨b1, o1, rfl, d0, d1, d2⟩ : ∃ b o, ao1 = some ⟨b, o, none⟩ ∧ wr.cell? ⟨b, o + k * 3, none⟩ = some (.string (str I[k].host)) ∧ wr.cell? ⟨b, o + k * 3 + 1, none⟩ = some (.int .i64 I[k].port) ∧ wr.cell? ⟨b, o + k * 3 + 2, none⟩ = some (.string (str I[k].path)) := by
          rcases HC1.out with h | ⟨b, o, h4, h5, h6⟩
          · exfalso; rw [h] at hkl; cases hkl
          · exact ⟨b, o, h4, (hbr.cell (p := ⟨b, o + k * 3, none⟩) h5).trans (h6 k hkl).1, (hbr.cell (p := ⟨b, o + k * 3 + 1, none⟩) h5).trans (h6 k hkl).2.1, (hbr.cell (p := ⟨b, o + k * 3 + 2, none⟩) h5).trans (h6 k hkl).2.2⟩
        obtain ⟨b2, o2, rfl, e0, e1, e2⟩ : ∃ b o, ao2 = some ⟨b, o, none⟩ ∧ wr.cell? ⟨b, o + k * 3, none⟩ = some (.string (str I[k].host)) ∧ wr.cell? ⟨b, o + k * 3 + 1, none⟩ = some (.int .i64 I[k].port) ∧ wr.cell? ⟨b, o + k * 3 + 2, none⟩ = some (.string (str I[k].path)) := by
          rcases HC2.out with h | ⟨b, o, h4, h5, h6⟩
          · exfalso; rw [h] at hkl; cases hkl
          · exact ⟨b, o, h4, (hbr.cell (p := ⟨b, o + k * 3, none⟩) h5).trans (h6 k hkl).1, (hbr.cell (p := ⟨b, o + k * 3 + 1, none⟩) h5).trans (h6 k hkl).2.1, (hbr.cell (p := ⟨b, o + k * 3 + 2, none⟩) h5).trans (h6 k hkl).2.2⟩
        have hQ := fun W => neq_uri I[k] I[k] W
        have hG := fun x y W => guard_uri .neq (.inr rfl) x y I[k] I[k] W
        rw [uval_u, decide_eq_false (by simp)] at hQ
        simp only [uval_u] at hG
        have hdn : ∀ m, Below y2.heap.size y2 (wr.drewN m) := fun m => hbr.trans ((bdrewN wr m).mono hbr.size)
        generalize str I[k].host = l0 at *
        generalize I[k].port = l1 at *
        generalize str I[k].path = l2 at *
        clear hkl hbr HC1 HC2
        go_wp2_with fail
        go_quiet (fail)
        go_wp2_with fail
        go_roundw
        case rel => exact ⟨k + 1, by omega, by go_num, hdn _⟩
        case measure => simp [intOf]; omega
      · have hb9 := HBZ.out.trans (hbr.mono HBZ.out.size)
        have hW9 := HWZ.out.trans (hbr.mono HWZ.out.size)
        have HS : Hid (∀ w', Below wr.heap.size wr w' → (w'.cell? ⟨w.heap.size + 1, 0, none⟩ = some (.string a) ∧ w'.cell? ⟨w.heap.size + 1, 1, none⟩ = some (.string b) ∧ w'.cell? ⟨w.heap.size + 1, 2, none⟩ = some (.int .i64 st) ∧ w'.cell? ⟨w.heap.size + 1, 3, none⟩ = some (.string c) ∧ w'.cell? ⟨w.heap.size + 1, 4, none⟩ = some (.int .i64 mi) ∧ w'.cell? ⟨w.heap.size + 1, 5, none⟩ = some (.slice fa fl fc) ∧ w'.cell? ⟨w.heap.size + 1, 6, none⟩ = some (.slice ba bl bc) ∧ w'.cell? ⟨w.heap.size + 2, 0, none⟩ = some (.string a') ∧ w'.cell? ⟨w.heap.size + 2, 1, none⟩ = some (.string b') ∧ w'.cell? ⟨w.heap.size + 2, 2, none⟩ = some (.int .i64 st') ∧ w'.cell? ⟨w.heap.size + 2, 3, none⟩ = some (.string c') ∧ w'.cell? ⟨w.heap.size + 2, 4, none⟩ = some (.int .i64 mi') ∧ w'.cell? ⟨w.heap.size + 2, 5, none⟩ = some (.slice fa' fl' fc') ∧ w'.cell? ⟨w.heap.size + 2, 6, none⟩ = some (.slice ba' bl' bc'))) := Lib.hid fun w' hb => by
          obtain ⟨i0, i1, i2, i3, i4, i5, i6⟩ := HM.out w' (hW9.trans (hb.mono hW9.size))
          obtain ⟨j0, j1, j2, j3, j4, j5, j6⟩ := HN.out w' (hW9.trans (hb.mono hW9.size))
          exact ⟨i0, i1, i2, i3, i4, i5, i6, j0, j1, j2, j3, j4, j5, j6⟩
        have cU1 := Lib.hid (fun W' (hb : Below wr.heap.size wr W') => DU1.out W' (hb9.trans (hb.mono hb9.size)))
        have cU2 := Lib.hid (fun W' (hb : Below wr.heap.size wr W') => DU2.out W' (hb9.trans (hb.mono hb9.size)))
        have K0 : Hid (Below wr.heap.size wr wr.drew) := Lib.hid (Below.refl _ _).drew
        have HZ := Lib.hid hb9
        clear DU1 DU2 hb9 hW9 HC1 HC2 HBZ HWZ
        go_upto_region 11 with fail
        go_region_held3 (fun w' => w'.cell? ⟨w.heap.size + 1, 0, none⟩ = some (.string a) ∧ w'.cell? ⟨w.heap.size + 1, 1, none⟩ = some (.string b) ∧ w'.cell? ⟨w.heap.size + 1, 2, none⟩ = some (.int .i64 st) ∧ w'.cell? ⟨w.heap.size + 1, 3, none⟩ = some (.string c) ∧ w'.cell? ⟨w.heap.size + 1, 4, none⟩ = some (.int .i64 mi) ∧ w'.cell? ⟨w.heap.size + 1, 5, none⟩ = some (.slice fa fl fc) ∧ w'.cell? ⟨w.heap.size + 1, 6, none⟩ = some (.slice ba bl bc) ∧ w'.cell? ⟨w.heap.size + 2, 0, none⟩ = some (.string a') ∧ w'.cell? ⟨w.heap.size + 2, 1, none⟩ = some (.string b') ∧ w'.cell? ⟨w.heap.size + 2, 2, none⟩ = some (.int .i64 st') ∧ w'.cell? ⟨w.heap.size + 2, 3, none⟩ = some (.string c') ∧ w'.cell? ⟨w.heap.size + 2, 4, none⟩ = some (.int .i64 mi') ∧ w'.cell? ⟨w.heap.size + 2, 5, none⟩ = some (.slice fa' fl' fc') ∧ w'.cell? ⟨w.heap.size + 2, 6, none⟩ = some (.slice ba' bl' bc'))
          (first | with_reducible exact HS.out _ K0.out | with_reducible exact HS.out _ K2.out | with_reducible exact HS.out _ K1.out)
          (first
            | (go_at_call 35; (with_reducible refine (cU2.out y1 K1.out).mono ?_); rintro e y2 ⟨rfl, hb⟩; have K2 := Lib.hid (K1.out.trans (hb.mono K1.out.size)); clear hb)
            | (go_at_call 34; (with_reducible refine (cU1.out _ K0.out).mono ?_); rintro e y1 ⟨rfl, hb⟩; have K1 := Lib.hid (K0.out.trans (hb.mono K0.out.size)); clear hb))
        all_goals
          go_wp2_with fail
          go_ret
          exact ⟨rfl, HZ.out.trans (K2.out.mono HZ.out.size)⟩
end Go.Proofs.YtoanelobggledaaGreatDoor

