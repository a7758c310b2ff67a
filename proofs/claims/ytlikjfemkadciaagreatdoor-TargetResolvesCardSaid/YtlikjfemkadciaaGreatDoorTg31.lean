/- The statements of layer 5: TargetResolves. -/
import Derived.Test.YtlikjfemkadciaaGreatDoorTg29
namespace Go.Proofs.YtlikjfemkadciaaGreatDoor
open Go.RowKit

set_option maxHeartbeats 6400000 in
set_option maxRecDepth 100000 in
theorem tresolves_w (u : Tg.U) (s : ByteArray) (w : World) (hu1 : u.host.length ≤ 9223372036854775807) (hu2 : u.path.length ≤ 9223372036854775807) (hu3 : u.port ≤ 9223372036854775807) (hs : s.size ≤ 9223372036854775807) (hm : MaxOk w) (hT : Tabs w) :
    Calls Tryz.prog 5 #[uval u, .string s] w fun e w' => e = .returned (.bool true) ∧ Below w.heap.size w w' := by
  have cA := fun (W : World) (hb : Below w.heap.size w W) => tawake_w W (hm.later hb) (hT.later hb)
  have hR0 := Res.start w (.string (str u.host)) (.int .i64 u.port) (.string (str u.path))
  have hz1 := str_size u.host
  have hz2 := str_size u.path
  obtain ⟨l, rfl⟩ : ∃ l, s = str l := ⟨s.data.toList, (str_of s).symm⟩
  have hz3 := str_size l
  have cR := fun (W : World) (hb : Below w.heap.size w W) (h1 : u.host.length ≤ 500) (h2 : u.path.length ≤ 3000) (h3 : l.length ≤ 9000) => Resolve_s u l W (by omega) (by omega) hu3 (by omega) (hm.later hb) (hT.later hb)
  have cS := fun (W : World) (h1 : u.host.length ≤ 500) (h2 : u.path.length ≤ 3000) (h3 : l.length ≤ 9000) => rResolve_s u l W (by omega) (by omega) hu3 (by omega)
  obtain ⟨⟨⟨ra, K, rc⟩, E⟩, hr⟩ : ∃ r, Tg.resolve u l = r := ⟨_, rfl⟩
  rw [hr, ures_u] at cR cS
  rw [uval_u] at cR cS ⊢
  clear hr
  generalize str ra = H at *
  generalize str rc = P at *
  generalize str l = s at *
  generalize str u.host = HU at *
  generalize str u.path = PU at *
  generalize u.port = KU at *
  by_cases h3 : (500 : Int) < HU.size
  · clear hm hT hs hu1 hu2 hu3 cR cS
    go_enter Tryz.func5, Tryz.ntmps5
    go_upto_region 1 with fail
    generalize w.alloc (.cells #[.string HU, .int .i64 KU, .string PU] 24) = W0 at hR0 ⊢
    go_wp2_with fail
    refine (cA _ hR0.below).mono ?_
    rintro e1 w1 ⟨rfl, hb1⟩
    have hR1 := hR0.later hb1
    obtain ⟨c0, c1, c2⟩ := box_cell hR1.cell
    have hB := hR1.below
    clear hR0 hR1 hb1
    go_wp2_with fail
    refine (cA _ hB).mono ?_
    rintro e2 w2 ⟨rfl, hb2⟩
    go_wp2_with fail
    go_ret
    exact ⟨rfl, hB.trans (hb2.mono hB.size)⟩
  by_cases h4 : (3000 : Int) < PU.size
  · clear hm hT hs hu1 hu2 hu3 cR cS
    go_enter Tryz.func5, Tryz.ntmps5
    go_upto_region 1 with fail
    generalize w.alloc (.cells #[.string HU, .int .i64 KU, .string PU] 24) = W0 at hR0 ⊢
    go_wp2_with fail
    refine (cA _ hR0.below).mono ?_
    rintro e1 w1 ⟨rfl, hb1⟩
    have hR1 := hR0.later hb1
    obtain ⟨c0, c1, c2⟩ := box_cell hR1.cell
    have hB := hR1.below
    clear hR0 hR1 hb1
    go_wp2_with fail
    refine (cA _ hB).mono ?_
    rintro e2 w2 ⟨rfl, hb2⟩
    go_wp2_with fail
    go_ret
    exact ⟨rfl, hB.trans (hb2.mono hB.size)⟩
  by_cases h1 : (9000 : Int) < s.size
  · clear hm hT hs hu1 hu2 hu3 cR cS
    go_enter Tryz.func5, Tryz.ntmps5
    go_upto_region 1 with fail
    generalize w.alloc (.cells #[.string HU, .int .i64 KU, .string PU] 24) = W0 at hR0 ⊢
    go_wp2_with fail
    refine (cA _ hR0.below).mono ?_
    rintro e1 w1 ⟨rfl, hb1⟩
    have hR1 := hR0.later hb1
    obtain ⟨c0, c1, c2⟩ := box_cell hR1.cell
    have hB := hR1.below
    clear hR0 hR1 hb1
    go_wp2_with fail
    refine (cA _ hB).mono ?_
    rintro e2 w2 ⟨rfl, hb2⟩
    go_wp2_with fail
    go_ret
    exact ⟨rfl, hB.trans (hb2.mono hB.size)⟩
  have cR := fun (W : World) (hb : Below w.heap.size w W) => cR W hb (by omega) (by omega) (by omega)
  have cS := fun (W : World) => cS W (by omega) (by omega) (by omega)
  clear hm hT hs hu1 hu2 hu3 hz1 hz2 hz3
  go_enter Tryz.func5, Tryz.ntmps5
  go_upto_region 1 with fail
  generalize w.alloc (.cells #[.string HU, .int .i64 KU, .string PU] 24) = W0 at hR0 ⊢
  go_wp2_with fail
  refine (cA _ hR0.below).mono ?_
  rintro e1 w1 ⟨rfl, hb1⟩
  have hR1 := hR0.later hb1
  obtain ⟨c0, c1, c2⟩ := box_cell hR1.cell
  clear cA hR0 hb1
  go_upto_region 3 with fail
  clear c0 c1 c2
  go_wp2_with (refine ldU hR1.cell rfl (.tmp 2) rfl rfl ?_)
  refine (cR _ hR1.below).mono ?_
  rintro e2 w2 ⟨rfl, hb2⟩
  have hR2 := hR1.later hb2
  have hU3 := Res.fresh hR2.below (.string H) (.int .i64 K) (.string P)
  have hR3 := hR2.alloc (.cells #[.string H, .int .i64 K, .string P] 24)
  clear cR hb2 hR1 hR2
  go_upto_region 4 with fail
  generalize w2.alloc (.cells #[.string H, .int .i64 K, .string P] 24) = w3 at hU3 hR3 ⊢
  generalize w2.heap.size = gU at hU3 ⊢
  go_wp2_with (refine ldU hR3.cell rfl (.tmp 2) rfl rfl ?_)
  refine (cS _).mono ?_
  rintro e3 w4 ⟨rfl, hb4⟩
  have hU4 := hU3.later hb4
  have hV5 := Res.fresh hU4.below (.string H) (.int .i64 K) (.string P)
  have hU5 := hU4.alloc (.cells #[.string H, .int .i64 K, .string P] 24)
  clear cS hU3 hU4 hR3 hb4
  go_upto_region 5 with fail
  generalize w4.alloc (.cells #[.string H, .int .i64 K, .string P] 24) = w5 at hU5 hV5 ⊢
  generalize w4.heap.size = gV at hV5 ⊢
  obtain ⟨u0, u1, u2⟩ := box_cell hU5.cell
  obtain ⟨v0, v1, v2⟩ := box_cell hV5.cell
  have hB := hU5.below
  clear hU5 hV5
  go_wp2_with fail
  go_ret
  exact ⟨rfl, hB⟩
end Go.Proofs.YtlikjfemkadciaaGreatDoor
