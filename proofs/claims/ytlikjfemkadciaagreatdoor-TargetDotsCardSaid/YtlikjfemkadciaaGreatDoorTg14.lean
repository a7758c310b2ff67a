/- The statements of layer 5: the document's examples. -/
import Derived.Test.YtlikjfemkadciaaGreatDoorTg13
namespace Go.Proofs.YtlikjfemkadciaaGreatDoor
open Go.RowKit

/-- A block that the call has made since. -/
theorem Res.fresh {w W : World} (h : Below w.heap.size w W) (x y z : Value) : Res w W.heap.size (W.alloc (.cells #[x, y, z] 24)) x y z :=
  ⟨heap_alloc_new W _, h.alloc h.size _, h.size⟩
theorem awake_parse : Tg.parse [72, 84, 84, 80, 58, 47, 47, 65, 46, 98, 58, 48, 56, 48, 47, 120, 47, 46, 47, 121, 47, 46, 46, 47, 37, 55, 69, 122, 63, 113, 61, 37, 50, 102] = (⟨[97, 46, 98], 80, [47, 120, 47, 126, 122, 63, 113, 61, 37, 50, 70]⟩, 0) := by decide +kernel
theorem awake_resolve : Tg.resolve ⟨[97, 46, 98], 80, [47, 120, 47, 126, 122, 63, 113, 61, 37, 50, 70]⟩ [46, 46, 47, 119] = (⟨[97, 46, 98], 80, [47, 119]⟩, 0) := by decide +kernel

set_option maxHeartbeats 1600000 in
set_option maxRecDepth 100000 in
theorem tawake_w (w : World) (hm : MaxOk w) (hT : Tabs w) : Calls Tryz.prog 7 #[] w fun e w' => e = .returned (.bool true) ∧ Below w.heap.size w w' := by
  have cP := Parse_s [72, 84, 84, 80, 58, 47, 47, 65, 46, 98, 58, 48, 56, 48, 47, 120, 47, 46, 47, 121, 47, 46, 46, 47, 37, 55, 69, 122, 63, 113, 61, 37, 50, 102] w (by decide) hm hT
  rw [awake_parse, show str [72, 84, 84, 80, 58, 47, 47, 65, 46, 98, 58, 48, 56, 48, 47, 120, 47, 46, 47, 121, 47, 46, 46, 47, 37, 55, 69, 122, 63, 113, 61, 37, 50, 102] = ⟨#[72, 84, 84, 80, 58, 47, 47, 65, 46, 98, 58, 48, 56, 48, 47, 120, 47, 46, 47, 121, 47, 46, 46, 47, 37, 55, 69, 122, 63, 113, 61, 37, 50, 102]⟩ from rfl,
    show ures (⟨[97, 46, 98], 80, [47, 120, 47, 126, 122, 63, 113, 61, 37, 50, 70]⟩, 0) = .tuple #[.agg #[.string ⟨#[97, 46, 98]⟩, .int .i64 80, .string ⟨#[47, 120, 47, 126, 122, 63, 113, 61, 37, 50, 70]⟩], .int .i64 0] from rfl] at cP
  have cR := fun (W : World) (hb : Below w.heap.size w W) => Resolve_s ⟨[97, 46, 98], 80, [47, 120, 47, 126, 122, 63, 113, 61, 37, 50, 70]⟩ [46, 46, 47, 119] W (by decide) (by decide) (by decide) (by decide) (hm.later hb) (hT.later hb)
  rw [awake_resolve, show str [46, 46, 47, 119] = ⟨#[46, 46, 47, 119]⟩ from rfl, show uval ⟨[97, 46, 98], 80, [47, 120, 47, 126, 122, 63, 113, 61, 37, 50, 70]⟩ = .agg #[.string ⟨#[97, 46, 98]⟩, .int .i64 80, .string ⟨#[47, 120, 47, 126, 122, 63, 113, 61, 37, 50, 70]⟩] from rfl,
    show ures (⟨[97, 46, 98], 80, [47, 119]⟩, 0) = .tuple #[.agg #[.string ⟨#[97, 46, 98]⟩, .int .i64 80, .string ⟨#[47, 119]⟩], .int .i64 0] from rfl] at cR
  clear hm hT
  go_enter Tryz.func7, Tryz.ntmps7
  go_wp2_with fail
  refine cP.mono ?_
  rintro e w1 ⟨rfl, hb1⟩
  have hA := Res.fresh hb1 (.string ⟨#[97, 46, 98]⟩) (.int .i64 80) (.string ⟨#[47, 120, 47, 126, 122, 63, 113, 61, 37, 50, 70]⟩)
  clear cP
  go_upto_region 2 with fail
  generalize w1.alloc (.cells #[.string ⟨#[97, 46, 98]⟩, .int .i64 80, .string ⟨#[47, 120, 47, 126, 122, 63, 113, 61, 37, 50, 70]⟩] 24) = W2 at hA ⊢
  generalize w1.heap.size = G at hA ⊢
  go_wp2_with (refine ldU hA.cell rfl (.tmp 1) rfl rfl ?_)
  refine (cR _ hA.below).mono ?_
  rintro e w3 ⟨rfl, hb3⟩
  have hA3 := hA.later hb3
  have hB4 := Res.fresh hA3.below (.string ⟨#[97, 46, 98]⟩) (.int .i64 80) (.string ⟨#[47, 119]⟩)
  have hA4 := hA3.alloc (.cells #[.string ⟨#[97, 46, 98]⟩, .int .i64 80, .string ⟨#[47, 119]⟩] 24)
  clear cR hA hA3 hb3
  go_upto_region 3 with fail
  generalize w3.alloc (.cells #[.string ⟨#[97, 46, 98]⟩, .int .i64 80, .string ⟨#[47, 119]⟩] 24) = W4 at hA4 hB4 ⊢
  generalize w3.heap.size = G4 at hB4 ⊢
  obtain ⟨a0, a1, a2⟩ := box_cell hA4.cell
  obtain ⟨b0, b1, b2⟩ := box_cell hB4.cell
  have hw4 := hA4.below
  clear hA4 hB4
  go_wp2_with fail
  go_ret
  exact ⟨rfl, hw4⟩
end Go.Proofs.YtlikjfemkadciaaGreatDoor
