/- The statements of layer 1: what they share: the document's examples. -/
import Derived.Test.YtljpidpddlgkpaaDoorOct6
import Derived.Test.YtljpidpddlgkpaaDoorOct8
import Derived.Test.YtljpidpddlgkpaaDoorOct11
namespace Go.Proofs.YtljpidpddlgkpaaDoor
open Go.RowKit

theorem SIn.one (w : World) (s : ByteArray) (l : List UInt8) (h : s = str l) : SIn (w.alloc (.cells #[.string s] 9)) (.slice (some ⟨w.heap.size, 0, none⟩) 1 1) [l] := by
  refine ⟨_, 1, rfl, .inr ⟨w.heap.size, 0, rfl, by simp, fun j hj => ?_⟩⟩
  match j, hj with
  | 0, _ => rw [World.cell?_alloc_at _ _ _ _ rfl, h]; rfl
theorem SIn.two (w : World) (s t : ByteArray) (l m : List UInt8) (h : s = str l) (h' : t = str m) : SIn (w.alloc (.cells #[.string s, .string t] 9)) (.slice (some ⟨w.heap.size, 0, none⟩) 2 2) [l, m] := by
  refine ⟨_, 2, rfl, .inr ⟨w.heap.size, 0, rfl, by simp, fun j hj => ?_⟩⟩
  match j, hj with
  | 0, _ => rw [World.cell?_alloc_at _ _ _ _ rfl, h]; rfl
  | 1, _ => rw [World.cell?_alloc_at _ _ _ _ rfl, h']; rfl
theorem SIn.three (w : World) (s t u : ByteArray) (l m n : List UInt8) (h : s = str l) (h' : t = str m) (h'' : u = str n) : SIn (w.alloc (.cells #[.string s, .string t, .string u] 9)) (.slice (some ⟨w.heap.size, 0, none⟩) 3 3) [l, m, n] := by
  refine ⟨_, 3, rfl, .inr ⟨w.heap.size, 0, rfl, by simp, fun j hj => ?_⟩⟩
  match j, hj with
  | 0, _ => rw [World.cell?_alloc_at _ _ _ _ rfl, h]; rfl
  | 1, _ => rw [World.cell?_alloc_at _ _ _ _ rfl, h']; rfl
  | 2, _ => rw [World.cell?_alloc_at _ _ _ _ rfl, h'']; rfl

theorem ex_split : Oct.splitAll [[97, 44, 32, 34, 98, 44, 99, 34, 32, 44], [100]] = [[97], [34, 98, 44, 99, 34], [100]] := by decide +kernel
theorem ex_number : Oct.number 10 99 [48, 48, 49, 48] = (10, 0) := by decide +kernel
theorem ex_unquote : Oct.unquote [34, 97, 92, 34, 98, 34, 99] = some ([97, 34, 98], 6) := by decide +kernel

theorem number_ex (w : World) : Calls Tryd.prog 25 #[.string ⟨#[48, 48, 49, 48]⟩, .int .i64 99] w fun e w' => e = .returned (.tuple #[.int .i64 10, .int .i64 0]) ∧ Below w.heap.size w w' := by
  have h := Number_s ⟨#[48, 48, 49, 48]⟩ 99 w (by decide) (by omega) (by omega)
  rw [show (⟨#[48, 48, 49, 48]⟩ : ByteArray).data.toList = [48, 48, 49, 48] from rfl, ex_number] at h
  exact h
theorem unquote_ex (w : World) : Calls Tryd.prog 20 #[.string ⟨#[34, 97, 92, 34, 98, 34, 99]⟩] w fun e w' => e = .returned (.tuple #[.string ⟨#[97, 34, 98]⟩, .int .i64 6, .int .i64 0]) ∧ Below w.heap.size w w' := by
  have h := Unquote_s ⟨#[34, 97, 92, 34, 98, 34, 99]⟩ w (by decide)
  rw [show (⟨#[34, 97, 92, 34, 98, 34, 99]⟩ : ByteArray).data.toList = [34, 97, 92, 34, 98, 34, 99] from rfl, ex_unquote] at h
  exact h

set_option maxHeartbeats 1600000 in
set_option maxRecDepth 100000 in
theorem awake_w (w : World) : Calls Tryd.prog 9 #[] w fun e w' => e = .returned (.bool true) ∧ Below w.heap.size w w' := by
  have h2 := SIn.two w ⟨#[97, 44, 32, 34, 98, 44, 99, 34, 32, 44]⟩ ⟨#[100]⟩ [97, 44, 32, 34, 98, 44, 99, 34, 32, 44] [100] rfl rfl
  have hb0 : Below w.heap.size w (w.alloc (.cells #[.string ⟨#[97, 44, 32, 34, 98, 44, 99, 34, 32, 44]⟩, .string ⟨#[100]⟩] 9)) := (Below.refl _ w).alloc (Nat.le_refl _) _
  go_enter Tryd.func9, Tryd.ntmps9
  go_wp2_with fail
  refine (Split_s _ [[97, 44, 32, 34, 98, 44, 99, 34, 32, 44], [100]] _ h2 (by decide) (by decide)).mono ?_
  rintro e w1 ⟨v, rfl, hown, hb1⟩
  rw [ex_split] at hown
  have hv := SIn.of_row hown
  have hbb := hb0.trans (hb1.mono hb0.size)
  clear h2 hown hb0 hb1
  go_wp2_with fail
  refine (number_ex w1).mono ?_
  rintro e w2 ⟨rfl, hb2⟩
  go_wp2_with fail
  refine (unquote_ex w2).mono ?_
  rintro e w3 ⟨rfl, hb3⟩
  have hv3 := (hv.later hb2).later hb3
  have hb4 := (hbb.trans (hb2.mono hbb.size)).trans (hb3.mono (Nat.le_trans hbb.size hb2.size))
  clear hv hbb hb2 hb3
  have h3 := SIn.three w3 ⟨#[97]⟩ ⟨#[34, 98, 44, 99, 34]⟩ ⟨#[100]⟩ [97] [34, 98, 44, 99, 34] [100] rfl rfl rfl
  have hb5 : Below w3.heap.size w3 (w3.alloc (.cells #[.string ⟨#[97]⟩, .string ⟨#[34, 98, 44, 99, 34]⟩, .string ⟨#[100]⟩] 9)) := (Below.refl _ w3).alloc (Nat.le_refl _) _
  have hv5 := hv3.later hb5
  go_wp2_with fail
  refine (Same_w _ _ _ _ _ hv5 h3 (by decide) (by decide)).mono ?_
  rw [sameL_self]
  rintro e w6 ⟨rfl, m, rfl⟩
  go_wp2_with fail
  go_ret
  exact ⟨rfl, below_drewN (hb4.trans (hb5.mono hb4.size)) m⟩

end Go.Proofs.YtljpidpddlgkpaaDoor
