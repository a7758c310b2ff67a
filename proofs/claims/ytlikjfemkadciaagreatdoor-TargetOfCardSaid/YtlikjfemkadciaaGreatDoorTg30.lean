/- The statements of layer 5: TargetParses, TargetOf. -/
import Derived.Test.YtlikjfemkadciaaGreatDoorTg27
namespace Go.Proofs.YtlikjfemkadciaaGreatDoor
open Go.RowKit

set_option maxHeartbeats 3200000 in
set_option maxRecDepth 100000 in
theorem tparses_w (s : ByteArray) (w : World) (hs : s.size ≤ 9223372036854775807) (hm : MaxOk w) (hT : Tabs w) :
    Calls Tryz.prog 3 #[.string s] w fun e w' => e = .returned (.bool true) ∧ Below w.heap.size w w' := by
  have cA := fun (W : World) (hb : Below w.heap.size w W) => tawake_w W (hm.later hb) (hT.later hb)
  by_cases h1 : (9000 : Int) < s.size
  · clear hm hT hs
    go_enter Tryz.func3, Tryz.ntmps3
    go_wp2_with fail
    refine (cA _ (Below.refl _ _)).mono ?_
    rintro e1 w1 ⟨rfl, hb1⟩
    go_wp2_with fail
    refine (cA _ hb1).mono ?_
    rintro e2 w2 ⟨rfl, hb2⟩
    go_wp2_with fail
    go_ret
    exact ⟨rfl, bt' hb1 hb2⟩
  obtain ⟨l, rfl⟩ : ∃ l, s = str l := ⟨s.data.toList, (str_of s).symm⟩
  have hl : l.length ≤ 9000 := by rw [str_size] at h1; omega
  have cP := fun (W : World) (hb : Below w.heap.size w W) => Parse_s l W (by omega) (hm.later hb) (hT.later hb)
  have cQ := fun (W : World) => rParse_s l W (by omega)
  obtain ⟨⟨⟨ra, K, rc⟩, E⟩, hr⟩ : ∃ r, Tg.parse l = r := ⟨_, rfl⟩
  rw [hr, ures_u] at cP cQ
  generalize str ra = H at *
  generalize str rc = P at *
  generalize str l = s at *
  clear hr hm hT hs hl
  go_enter Tryz.func3, Tryz.ntmps3
  go_wp2_with fail
  refine (cA _ (Below.refl _ _)).mono ?_
  rintro e1 w1 ⟨rfl, hb1⟩
  go_wp2_with fail
  refine (cP _ hb1).mono ?_
  rintro e2 w2 ⟨rfl, hb2⟩
  have hU3 := Res.fresh (bt' hb1 hb2) (.string H) (.int .i64 K) (.string P)
  clear cA cP hb1 hb2
  go_upto_region 4 with fail
  generalize w2.alloc (.cells #[.string H, .int .i64 K, .string P] 24) = w3 at hU3 ⊢
  generalize w2.heap.size = gU at hU3 ⊢
  go_wp2_with fail
  refine (cQ _).mono ?_
  rintro e3 w4 ⟨rfl, hb4⟩
  have hU4 := hU3.later hb4
  have hV5 := Res.fresh hU4.below (.string H) (.int .i64 K) (.string P)
  have hU5 := hU4.alloc (.cells #[.string H, .int .i64 K, .string P] 24)
  clear cQ hU3 hU4 hb4
  go_upto_region 5 with fail
  generalize w4.alloc (.cells #[.string H, .int .i64 K, .string P] 24) = w5 at hU5 hV5 ⊢
  generalize w4.heap.size = gV at hV5 ⊢
  obtain ⟨u0, u1, u2⟩ := box_cell hU5.cell
  obtain ⟨v0, v1, v2⟩ := box_cell hV5.cell
  have hB := hU5.below
  clear hU5 hV5
  go_wp2_with fail
  go_ret
  exact ⟨rfl, hB⟩

set_option maxHeartbeats 6400000 in
set_option maxRecDepth 100000 in
theorem tof_w (s t : ByteArray) (u : Tg.U) (w : World) (hs : s.size ≤ 9223372036854775807) (ht : t.size ≤ 9223372036854775807) (hu1 : u.host.length ≤ 9223372036854775807) (hu2 : u.path.length ≤ 9223372036854775807) (hu3 : u.port ≤ 9223372036854775807) (hm : MaxOk w) (hT : Tabs w) :
    Calls Tryz.prog 4 #[.string s, .string t, uval u] w fun e w' => e = .returned (.bool true) ∧ Below w.heap.size w w' := by
  have cA := fun (W : World) (hb : Below w.heap.size w W) => tawake_w W (hm.later hb) (hT.later hb)
  have hR0 := Res.start w (.string (str u.host)) (.int .i64 u.port) (.string (str u.path))
  have hz1 := str_size u.host
  have hz2 := str_size u.path
  have cP := fun (W : World) (hb : Below w.heap.size w W) (h1 : u.host.length ≤ 1000) (h2 : u.path.length ≤ 2000) => Print_u u W (by omega) (by omega) hu3 (hT.later hb)
  have cQ := fun (W : World) (h1 : u.host.length ≤ 1000) (h2 : u.path.length ≤ 2000) => rPrint_u u W (by omega) (by omega) hu3
  have cR := fun (W : World) (hb : Below w.heap.size w W) (h1 : u.host.length ≤ 1000) (h2 : u.path.length ≤ 2000) => Right_u u W (by omega) (by omega) hu3 (hm.later hb) (hT.later hb)
  have cS := fun (W : World) (h1 : u.host.length ≤ 1000) (h2 : u.path.length ≤ 2000) => rRight_u u W (by omega) (by omega) hu3
  rw [uval_u] at cP cQ cR cS ⊢
  generalize str (Tg.print u) = TU at *
  generalize Tg.right u = q at *
  generalize str u.host = HU at *
  generalize str u.path = PU at *
  generalize u.port = KU at *
  by_cases h1 : (9000 : Int) < s.size
  · clear hm hT hs ht hu1 hu2 hu3
    go_enter Tryz.func4, Tryz.ntmps4
    go_upto_region 1 with fail
    generalize w.alloc (.cells #[.string HU, .int .i64 KU, .string PU] 24) = W0 at hR0 ⊢
    go_wp2_with fail
    refine (cA _ hR0.below).mono ?_
    rintro e1 w1 ⟨rfl, hb1⟩
    have hR1 := hR0.later hb1
    obtain ⟨c0, c1, c2⟩ := box_cell hR1.cell
    have hB := hR1.below
    clear hR0 hR1 hb1
    go_wp2_with fail
    refine (cA _ hB).mono ?_
    rintro e2 w2 ⟨rfl, hb2⟩
    go_wp2_with fail
    go_ret
    exact ⟨rfl, hB.trans (hb2.mono hB.size)⟩
  by_cases h2 : (9000 : Int) < t.size
  · clear hm hT hs ht hu1 hu2 hu3
    go_enter Tryz.func4, Tryz.ntmps4
    go_upto_region 1 with fail
    generalize w.alloc (.cells #[.string HU, .int .i64 KU, .string PU] 24) = W0 at hR0 ⊢
    go_wp2_with fail
    refine (cA _ hR0.below).mono ?_
    rintro e1 w1 ⟨rfl, hb1⟩
    have hR1 := hR0.later hb1
    obtain ⟨c0, c1, c2⟩ := box_cell hR1.cell
    have hB := hR1.below
    clear hR0 hR1 hb1
    go_wp2_with fail
    refine (cA _ hB).mono ?_
    rintro e2 w2 ⟨rfl, hb2⟩
    go_wp2_with fail
    go_ret
    exact ⟨rfl, hB.trans (hb2.mono hB.size)⟩
  by_cases h3 : (1000 : Int) < HU.size
  · clear hm hT hs ht hu1 hu2 hu3
    go_enter Tryz.func4, Tryz.ntmps4
    go_upto_region 1 with fail
    generalize w.alloc (.cells #[.string HU, .int .i64 KU, .string PU] 24) = W0 at hR0 ⊢
    go_wp2_with fail
    refine (cA _ hR0.below).mono ?_
    rintro e1 w1 ⟨rfl, hb1⟩
    have hR1 := hR0.later hb1
    obtain ⟨c0, c1, c2⟩ := box_cell hR1.cell
    have hB := hR1.below
    clear hR0 hR1 hb1
    go_wp2_with fail
    refine (cA _ hB).mono ?_
    rintro e2 w2 ⟨rfl, hb2⟩
    go_wp2_with fail
    go_ret
    exact ⟨rfl, hB.trans (hb2.mono hB.size)⟩
  by_cases h4 : (2000 : Int) < PU.size
  · clear hm hT hs ht hu1 hu2 hu3
    go_enter Tryz.func4, Tryz.ntmps4
    go_upto_region 1 with fail
    generalize w.alloc (.cells #[.string HU, .int .i64 KU, .string PU] 24) = W0 at hR0 ⊢
    go_wp2_with fail
    refine (cA _ hR0.below).mono ?_
    rintro e1 w1 ⟨rfl, hb1⟩
    have hR1 := hR0.later hb1
    obtain ⟨c0, c1, c2⟩ := box_cell hR1.cell
    have hB := hR1.below
    clear hR0 hR1 hb1
    go_wp2_with fail
    refine (cA _ hB).mono ?_
    rintro e2 w2 ⟨rfl, hb2⟩
    go_wp2_with fail
    go_ret
    exact ⟨rfl, hB.trans (hb2.mono hB.size)⟩
  have k1 : u.host.length ≤ 1000 := by omega
  have k2 : u.path.length ≤ 2000 := by omega
  have cP := fun (W : World) (hb : Below w.heap.size w W) => cP W hb k1 k2
  have cQ := fun (W : World) => cQ W k1 k2
  have cR := fun (W : World) (hb : Below w.heap.size w W) => cR W hb k1 k2
  have cS := fun (W : World) => cS W k1 k2
  obtain ⟨l, rfl⟩ : ∃ l, s = str l := ⟨s.data.toList, (str_of s).symm⟩
  obtain ⟨m, rfl⟩ : ∃ m, t = str m := ⟨t.data.toList, (str_of t).symm⟩
  have hl : l.length ≤ 9000 := by rw [str_size] at h1; omega
  have hml : m.length ≤ 9000 := by rw [str_size] at h2; omega
  have cO := fun (W : World) (hb : Below w.heap.size w W) => Of_s l m W (by omega) (by omega) (hm.later hb) (hT.later hb)
  have cX := fun (W : World) => rOf_s l m W (by omega) (by omega)
  obtain ⟨⟨⟨ra, K, rc⟩, E⟩, hr⟩ : ∃ r, Tg.ofT l m = r := ⟨_, rfl⟩
  rw [hr, ures_u] at cO cX
  generalize str ra = H at *
  generalize str rc = P at *
  generalize str l = s at *
  generalize str m = t at *
  clear hr hm hT hs ht hl hml hu1 hu2 hu3 hz1 hz2 k1 k2
  go_enter Tryz.func4, Tryz.ntmps4
  go_upto_region 1 with fail
  generalize w.alloc (.cells #[.string HU, .int .i64 KU, .string PU] 24) = W0 at hR0 ⊢
  go_wp2_with fail
  refine (cA _ hR0.below).mono ?_
  rintro e1 w1 ⟨rfl, hb1⟩
  have hR1 := hR0.later hb1
  obtain ⟨c0, c1, c2⟩ := box_cell hR1.cell
  clear cA hR0 hb1
  go_wp2_with fail
  refine (cO _ hR1.below).mono ?_
  rintro e2 w2 ⟨rfl, hb2⟩
  have hR2 := hR1.later hb2
  have hU3 := Res.fresh hR2.below (.string H) (.int .i64 K) (.string P)
  have hR3 := hR2.alloc (.cells #[.string H, .int .i64 K, .string P] 24)
  clear c0 c1 c2 cO hb2 hR1 hR2
  go_upto_region 4 with fail
  generalize w2.alloc (.cells #[.string H, .int .i64 K, .string P] 24) = w3 at hU3 hR3 ⊢
  generalize w2.heap.size = gU at hU3 ⊢
  go_wp2_with fail
  refine (cX _).mono ?_
  rintro e3 w4 ⟨rfl, hb4⟩
  have hU4 := hU3.later hb4
  have hR4 := hR3.later hb4
  have hV5 := Res.fresh hU4.below (.string H) (.int .i64 K) (.string P)
  have hU5 := hU4.alloc (.cells #[.string H, .int .i64 K, .string P] 24)
  have hR5 := hR4.alloc (.cells #[.string H, .int .i64 K, .string P] 24)
  clear cX hU3 hU4 hR3 hR4 hb4
  go_upto_region 5 with fail
  generalize w4.alloc (.cells #[.string H, .int .i64 K, .string P] 24) = w5 at hU5 hV5 hR5 ⊢
  generalize w4.heap.size = gV at hV5 ⊢
  have hcu := box_cell hU5.cell
  have hcv := box_cell hV5.cell
  have hcr := box_cell hR5.cell
  have u0 := fun p : LateOf w5 => p.cell hcu.1
  have u1 := fun p : LateOf w5 => p.cell hcu.2.1
  have u2 := fun p : LateOf w5 => p.cell hcu.2.2
  have v0 := fun p : LateOf w5 => p.cell hcv.1
  have v1 := fun p : LateOf w5 => p.cell hcv.2.1
  have v2 := fun p : LateOf w5 => p.cell hcv.2.2
  have r0 := fun p : LateOf w5 => p.cell hcr.1
  have r1 := fun p : LateOf w5 => p.cell hcr.2.1
  have r2 := fun p : LateOf w5 => p.cell hcr.2.2
  have GP := fun p : LateOf w5 => late p (cP p.w (hR5.below.trans (p.h.mono hR5.below.size)))
  have GQ := fun p : LateOf w5 => late p (cQ p.w)
  have GR := fun p : LateOf w5 => late p (cR p.w (hR5.below.trans (p.h.mono hR5.below.size)))
  have GS := fun p : LateOf w5 => late p (cS p.w)
  have HB := Lib.hid (fun p : LateOf w5 => hR5.below.trans (p.h.mono hR5.below.size))
  clear hU5 hV5 hR5 hcu hcv hcr cP cQ cR cS
  refine wp_region_late (by kernel_rfl) (by kernel_rfl) ?_
  quiet_step (fail)
  quiet_step (fail)
  quiet_step (fail)
  quiet_step (fail)
  quiet_step (fail)
  quiet_step (fail)
  quiet_step (fail)
  quiet_step (fail)
  quiet_step (fail)
  quiet_step (fail)
  quiet_step ((go_at_call 12; exact GP _))
  quiet_step (fail)
  quiet_step ((go_at_call 13; exact GQ _))
  quiet_step (fail)
  quiet_step (fail)
  quiet_step (fail)
  quiet_step (fail)
  quiet_step ((go_at_call 14; exact GR _))
  quiet_step (fail)
  quiet_step ((go_at_call 15; exact GS _))
  quiet_step (fail)
  quiet_step (fail)
  quiet_step (fail)
  refine wpQuiet_nil ?_
  intro w6 hw'
  obtain ⟨p, rfl⟩ := hw'
  have hB := HB.out p
  go_wp2_with fail
  go_ret
  exact ⟨rfl, hB⟩
end Go.Proofs.YtlikjfemkadciaaGreatDoor
