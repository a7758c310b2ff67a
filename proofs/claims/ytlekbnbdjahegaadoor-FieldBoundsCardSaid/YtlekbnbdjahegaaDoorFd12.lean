/- Package field: a line of a header. -/
import Derived.Test.YtlekbnbdjahegaaDoorFd3
import Derived.Test.YtlekbnbdjahegaaDoorShelf
import Derived.Deep.DeepCutAuto
import Derived.Lib.SlBytesConst
namespace Go.Proofs.YtlekbnbdjahegaaDoor
open Go.RowKit

/-- The library's variable of the longest separator holds some number. -/
def MaxOk (w : World) : Prop := ∃ m, w.cell? ⟨0, 0, none⟩ = some (.int .i64 m)
theorem MaxOk.later {w w' : World} (h : MaxOk w) (hb : Below w.heap.size w w') : MaxOk w' := by
  obtain ⟨m, h⟩ := h
  exact ⟨m, (hb.cell (p := ⟨0, 0, none⟩) (World.block_lt_of_cell? w _ h)).trans h⟩
/-- Block g holds the octets l, from its start. -/
def Oc (w : World) (g : Nat) (l : List UInt8) : Prop := g < w.heap.size ∧ ∀ j (hj : j < l.length), w.cell? ⟨g, j, none⟩ = some (.int .u8 (l[j].toNat : Int))
theorem Oc.later {w w' : World} {g : Nat} {l : List UInt8} (h : Oc w g l) (hb : Below w.heap.size w w') : Oc w' g l :=
  ⟨Nat.lt_of_lt_of_le h.1 hb.size, fun j hj => (hb.cell (p := ⟨g, j, none⟩) h.1).trans (h.2 j hj)⟩
def ints (l : List UInt8) : List Int := l.map fun c => (c.toNat : Int)
theorem ints_bytes (l : List UInt8) : Lib.bytesOf (ints l) = l := by
  unfold Lib.bytesOf ints; rw [List.map_map]; conv => rhs; rw [← List.map_id l]
  apply List.map_congr_left; intro c _; simp
theorem ints_range (l : List UInt8) : ∀ x ∈ ints l, 0 ≤ x ∧ x < 256 := by
  intro x hx
  obtain ⟨c, _, rfl⟩ := List.mem_map.1 hx
  have := c.toNat_lt; omega
/-- bytes.Index of two octets. -/
theorem index_w (w : World) (g o n c : Nat) (l : List UInt8) (hl : l.length = n) (hn : n ≤ 1000000) (hnc : n ≤ c) (hc : ∀ j (hj : j < l.length), w.cell? ⟨g, o + j, none⟩ = some (.int .u8 (l[j].toNat : Int))) (b : Nat) (h0 : w.cell? ⟨b, 0, none⟩ = some (.int .u8 13)) (h1 : w.cell? ⟨b, 1, none⟩ = some (.int .u8 10)) (hm : MaxOk w) :
    Calls Tryd.prog 37 #[.slice (some ⟨g, o, none⟩) n c, .slice (some ⟨b, 0, none⟩) 2 2] w fun e w' => e = .returned (.int .i64 (Lib.index l [13, 10])) ∧ ∃ q, w' = w.drewN q := by
  obtain ⟨m, hm⟩ := hm
  have h := Tryd.bytes_Index_at ⟨g, o, none⟩ ⟨b, 0, none⟩ n c 2 2 (ints l) (ints [13, 10]) m w (by unfold ints; rw [List.length_map]; exact hl) rfl (ints_range l) (ints_range _)
    (fun i hi => by
      rw [Addr.add_lit, hc i (by omega)]
      unfold ints
      rw [List.getD_eq_getElem?_getD, List.getElem?_map, List.getElem?_eq_getElem (by omega)]; rfl)
    (fun i hi => by
      rw [Addr.add_lit]
      match i, hi with
      | 0, _ => exact h0
      | 1, _ => exact h1) hnc (by omega) (by decide) hm
  rw [ints_bytes, ints_bytes] at h
  exact h

theorem Oc.part {w : World} {g : Nat} {l : List UInt8} (h : Oc w g l) (n h6 : Nat) : ∀ j (hj : j < ((l.take h6).drop n).length), w.cell? ⟨g, n + j, none⟩ = some (.int .u8 (((l.take h6).drop n)[j].toNat : Int)) := by
  intro j hj
  rw [List.length_drop, List.length_take] at hj
  rw [h.2 (n + j) (by omega)]
  simp
/-- The separator's row, behind its conversion. -/
theorem crlf_block (w : World) : ∃ W1, (convert 22 22 (.slice (some ⟨w.heap.size, 0, none⟩) 2 2)).run Tryd.prog (w.alloc (.cells #[.int .u8 13, .int .u8 10] 5)) = .ok (.slice (some ⟨w.heap.size, 0, none⟩) 2 2) W1 ∧
    W1.cell? ⟨w.heap.size, 0, none⟩ = some (.int .u8 13) ∧ W1.cell? ⟨w.heap.size, 1, none⟩ = some (.int .u8 10) ∧ Below w.heap.size w W1 := by
  refine ⟨_, Lib.run_convert_bytes_const w _ _ _ 2 2 Tryd.underlying22 Tryd.underlying5, ?_, ?_, (Below.refl _ w).alloc (Nat.le_refl _) _⟩
  · rw [World.cell?_alloc_mark]; rfl
  · rw [World.cell?_alloc_mark]; rfl

set_option maxHeartbeats 1600000 in
set_option maxRecDepth 100000 in
/-- A line is there. -/
theorem lineAt_yes (g n c : Nat) (l : List UInt8) (w : World) (hl : l.length ≤ 1000000) (hlc : l.length ≤ c) (hc9 : c ≤ 9223372036854775807) (h : Oc w g l) (hm : MaxOk w) (hn : n ≤ l.length) (hn6 : n ≤ 65536) (i : Nat) (hi : Lib.index ((l.take 65536).drop n) [13, 10] = i) (hn2 : n + i + 2 ≤ 65536) (hn3 : n + i + 2 ≤ l.length) :
    Calls Tryd.prog 25 #[.slice (some ⟨g, 0, none⟩) l.length c, .int .i64 n] w fun e w' => e = .returned (.tuple #[.string (str ((l.take (n + i)).drop n)), .int .i64 0]) ∧ Below w.heap.size w w' := by
  obtain ⟨W1, hcs, cb0, cb1, hb0⟩ := crlf_block w
  have hO := h.later hb0
  have hM := hm.later hb0
  have hI := index_w W1 g n ((l.take 65536).drop n).length (c - n) ((l.take 65536).drop n) rfl (by rw [List.length_drop, List.length_take]; omega) (by rw [List.length_drop, List.length_take]; omega) (hO.part n 65536) w.heap.size cb0 cb1 hM
  rw [hi, List.length_drop, List.length_take] at hI
  have hcv : ∀ q, (convert 22 9 (.slice (some ⟨g, n, none⟩) i (c - n))).run Tryd.prog (W1.drewN q) = .ok (.string (str ((l.take (n + i)).drop n))) (W1.drewN q) := fun q => by
    have hlen : ((l.take (n + i)).drop n).length = i := by rw [List.length_drop, List.length_take]; omega
    have := run_convert_bytes_back (P := Tryd.prog) (W1.drewN q) 22 9 5 ⟨g, n, none⟩ (c - n) ((l.take (n + i)).drop n) Tryd.underlying22 Tryd.underlying5 Tryd.underlying9 (fun j hj => by
      rw [Addr.add_lit]; exact hO.part n (n + i) j hj)
    rw [hlen] at this
    exact this
  generalize str ((l.take (n + i)).drop n) = s at *
  obtain ⟨L, hL⟩ : ∃ L, L = l.length := ⟨_, rfl⟩
  rw [← hL] at hl hlc hn hn3 hI ⊢
  obtain ⟨M, hM1, hmin⟩ : ∃ M : Nat, M = min 65536 L ∧ min (L : Int) 65536 = (M : Int) := ⟨min 65536 L, rfl, by omega⟩
  rw [← hM1] at hI
  have hM2 : n + i + 2 ≤ M := by omega
  have hM3 : M ≤ c := by omega
  have hM4 : M ≤ 65536 := by omega
  clear h hO hM cb0 cb1 hi hm hL hM1
  go_enter Tryd.func25, Tryd.ntmps25
  go_wp2_with fail
  refine hI.mono ?_
  rintro e w1 ⟨rfl, q, rfl⟩
  go_wp2_with fail
  go_ret2
  exact ⟨rfl, hb0.trans ((bdrewN _ _).mono hb0.size)⟩

set_option maxHeartbeats 1600000 in
set_option maxRecDepth 100000 in
/-- There is none. -/
theorem lineAt_no (g n c : Nat) (l : List UInt8) (w : World) (hl : l.length ≤ 1000000) (hlc : l.length ≤ c) (_hc9 : c ≤ 9223372036854775807) (h : Oc w g l) (hm : MaxOk w) (hn : n ≤ l.length) (hn6 : n ≤ 65536) (hi : Lib.index ((l.take 65536).drop n) [13, 10] < 0) :
    Calls Tryd.prog 25 #[.slice (some ⟨g, 0, none⟩) l.length c, .int .i64 n] w fun e w' => e = .returned (.tuple #[.string ⟨#[]⟩, .int .i64 (if l.length > 65536 then 12 else 11)]) ∧ Below w.heap.size w w' := by
  obtain ⟨W1, hcs, cb0, cb1, hb0⟩ := crlf_block w
  have hO := h.later hb0
  have hM := hm.later hb0
  obtain ⟨L, hL⟩ : ∃ L, L = l.length := ⟨_, rfl⟩
  obtain ⟨M, hM1, hmin⟩ : ∃ M : Nat, M = min 65536 L ∧ min (L : Int) 65536 = (M : Int) := ⟨min 65536 L, rfl, by omega⟩
  have hM3 : M ≤ c := by omega
  have hM4 : M ≤ 65536 := by omega
  have hM5 : n ≤ M := by omega
  have hlen : ((l.take 65536).drop n).length = M - n := by rw [List.length_drop, List.length_take, ← hL, hM1]
  obtain ⟨a, ha, hI⟩ : ∃ a : Nat, (if c = n then a = 0 else a = n) ∧ Calls Tryd.prog 37 #[.slice (some ⟨g, a, none⟩) (M - n) (c - n), .slice (some ⟨w.heap.size, 0, none⟩) 2 2] W1 fun e w' => e = .returned (.int .i64 (Lib.index ((l.take 65536).drop n) [13, 10])) ∧ ∃ q, w' = W1.drewN q := by
    by_cases hcn : c = n
    · refine ⟨0, by rw [if_pos hcn], ?_⟩
      exact index_w W1 g 0 (M - n) (c - n) ((l.take 65536).drop n) hlen (by omega) (by omega) (fun j hj => by omega) w.heap.size cb0 cb1 hM
    · refine ⟨n, by rw [if_neg hcn], ?_⟩
      exact index_w W1 g n (M - n) (c - n) ((l.take 65536).drop n) hlen (by omega) (by omega) (hO.part n 65536) w.heap.size cb0 cb1 hM
  obtain ⟨r, hr⟩ : ∃ r : Int, r = Lib.index ((l.take 65536).drop n) [13, 10] := ⟨_, rfl⟩
  have hr9 : -9223372036854775808 ≤ r := by
    have := Lib.index_ge ((l.take 65536).drop n) [13, 10]; omega
  rw [← hr] at hI hi
  rw [← hL] at hl hlc hn ⊢
  clear h hO hM cb0 cb1 hm hL hM1 hlen hr
  by_cases hcn : c = n
  · rw [if_pos hcn] at ha
    subst ha
    by_cases h6 : 65536 < L
    · omega
    · rw [if_neg (by omega)]
      have b6 : ¬ (65536 : Int) < (L : Int) := by omega
      subst hcn
      have e0 : c - c = 0 := by omega
      have e1 : M - c = 0 := by omega
      rw [e0, e1] at hI
      go_enter Tryd.func25, Tryd.ntmps25
      go_wp2_with fail
      refine hI.mono ?_
      rintro e w1 ⟨rfl, q, rfl⟩
      go_wp2_with fail
      go_ret2
      exact ⟨rfl, hb0.trans ((bdrewN _ _).mono hb0.size)⟩
  · rw [if_neg hcn] at ha
    subst ha
    by_cases h6 : 65536 < L
    · rw [if_pos (by omega)]
      have b6 : (65536 : Int) < (L : Int) := by omega
      go_enter Tryd.func25, Tryd.ntmps25
      go_wp2_with fail
      refine hI.mono ?_
      rintro e w1 ⟨rfl, q, rfl⟩
      go_wp2_with fail
      go_ret2
      exact ⟨rfl, hb0.trans ((bdrewN _ _).mono hb0.size)⟩
    · rw [if_neg (by omega)]
      have b6 : ¬ (65536 : Int) < (L : Int) := by omega
      go_enter Tryd.func25, Tryd.ntmps25
      go_wp2_with fail
      refine hI.mono ?_
      rintro e w1 ⟨rfl, q, rfl⟩
      go_wp2_with fail
      go_ret2
      exact ⟨rfl, hb0.trans ((bdrewN _ _).mono hb0.size)⟩
end Go.Proofs.YtlekbnbdjahegaaDoor
