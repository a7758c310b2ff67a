/- Package octet: a number's digits to the base 16, as the library lays them. -/
import Derived.Test.YtljpidpddlgkpaaDoorOctB
import Derived.Test.YtljpidpddlgkpaaDoorOctMathG
import Derived.Test.YtljpidpddlgkpaaDoorShelf7
import Derived.BigQuiet
import Derived.WalkLawsBesides
namespace Go.Proofs.YtljpidpddlgkpaaDoor
open Go.RowKit

set_option maxHeartbeats 400000 in
theorem pow2_16 (w : World) : Calls Tryd.prog 72 #[.int .i64 16] w fun e w' => e = .returned (.bool true) ∧ w = w' := by
  go_enter Tryd.func72, Tryd.ntmps72
  go_wp2
  go_ret
  exact ⟨rfl, rfl⟩

theorem tz_16 (w : World) (hT : TabAt 5 Lib.deBruijn64tab w) : Calls Tryd.prog 73 #[.int .u64 16] w fun e w' => e = .returned (.int .i64 4) ∧ w = w' := by
  have h := Any7.bits_TrailingZeros Tryd.lays7x27 16 (by decide) w (fun _ => hT)
  have e : Lib.ctz 64 16 = 4 := by decide +kernel
  rw [e] at h
  exact h.mono (by rintro e w' ⟨rfl, rfl⟩; exact ⟨rfl, rfl⟩)

theorem and15 (v : Nat) (h : v < 18446744073709551616) : bits BinOp.and IntKind.u64 (v : Int) 15 = ((v % 16 : Nat) : Int) := by
  have := bits_and_u64_nat v 15 h (by decide)
  rw [show (v &&& 15) = v % 16 from Nat.and_two_pow_sub_one_eq_mod v 4] at this
  exact this

/-- The last octets of the array in block A are tl. -/
def Tail (w : World) (A : Nat) (tl : List UInt8) : Prop := ∃ C, w.heap[A]? = some (.cells C 80 (0, 0)) ∧ C.size = 65 ∧ C.toList.drop (65 - tl.length) = Lib.byteCells tl
theorem Tail.cell {w : World} {A : Nat} {tl : List UInt8} (h : Tail w A tl) (j : Nat) (hj : j < 65) : (∃ v, w.cell? ⟨A, j, none⟩ = some v) ∧ w.frozen? ⟨A, j, none⟩ = false := by
  obtain ⟨C, h1, h2, _⟩ := h
  constructor
  · simp only [World.cell?, h1]
    exact ⟨C[j]'(by omega), by simp [h2, hj]⟩
  · simp only [World.frozen?, h1]; simp
theorem Tail.add {w : World} {A : Nat} {tl : List UInt8} (h : Tail w A tl) (j : Nat) (hj : j + 1 + tl.length = 65) (c : UInt8) : Tail (w.setCell ⟨A, j, none⟩ (.int .u8 c.toNat)) A (c :: tl) := by
  obtain ⟨C, h1, h2, h3⟩ := h
  have hlt := lt_of_block h1
  refine ⟨C.setIfInBounds j (.int .u8 c.toNat), ?_, by simp [h2], ?_⟩
  · show (w.heap.modify A _)[A]? = _
    have h' : w.heap[A] = .cells C 80 (0, 0) := by simpa [Array.getElem?_eq_getElem hlt] using h1
    rw [Array.getElem?_eq_getElem (by simpa using hlt), Array.getElem_modify_self, h']
    rfl
  · rw [List.length_cons, show 65 - (tl.length + 1) = j by omega, Array.toList_setIfInBounds]
    have hl : C.toList.length = 65 := by simpa using h2
    rw [List.drop_set, if_neg (by omega), Nat.sub_self, List.drop_eq_getElem_cons (by omega), List.set_cons_zero, show j + 1 = 65 - tl.length by omega, h3]
    simp [Lib.byteCells]
theorem Tail.read {w : World} {A : Nat} {tl : List UInt8} (h : Tail w A tl) (j : Nat) (hj : j + tl.length = 65) (i : Nat) (hi : i < tl.length) : w.cell? (Addr.add ⟨A, j, none⟩ i) = some (.int .u8 (tl[i].toNat : Int)) := by
  obtain ⟨C, h1, h2, h3⟩ := h
  have h5 : C.toList[j + i]? = some (.int .u8 (tl[i].toNat : Int)) := by
    have h6 : (C.toList.drop (65 - tl.length))[i]? = (Lib.byteCells tl)[i]? := by rw [h3]
    rw [List.getElem?_drop, show 65 - tl.length = j by omega] at h6
    rw [h6]; simp [Lib.byteCells, hi]
  rw [Addr.add_lit]
  simp only [World.cell?, h1]
  simpa using h5
theorem Tail.start (w : World) : Tail (w.alloc (.cells Tryd.zeroCells80 80)) w.heap.size [] := by
  refine ⟨_, heap_alloc_new w _, by kernel_rfl, ?_⟩
  have : Tryd.zeroCells80.toList.length = 65 := by kernel_rfl
  rw [List.drop_of_length_le (by rw [this]; decide)]; rfl

theorem slice_tail (A j : Nat) (l : Int) (hl : l = (j : Int)) (hj : j < 65) (n m : Nat) (hn : n = 65 - j) (hm : m = 65 - j) (w : World) :
    (Instr.sliceAt 80 (.pointer (some ⟨A, 0, none⟩)) (some (.int .i64 l)) none none).run Tryd.prog w = .ok (.slice (some ⟨A, j, none⟩) n m) w := by
  have ha : Tryd.prog.arrayLen 80 = 65 := by kernel_rfl
  have hz : ((sizeOf (Tryd.prog.elem 80)).run Tryd.prog w) = .ok 1 w := by kernel_rfl
  subst hl hn hm
  rw [run_sliceAt_array_l w _ _ (by kernel_rfl) .i64 (j : Int) (by omega) (by rw [ha]; omega), hz, ha]
  simp only [Result.andThen, slicedAt, Int.toNat_natCast]
  rw [if_neg (by omega), Addr.add_lit]
  simp

set_option maxHeartbeats 1600000 in
set_option maxRecDepth 100000 in
theorem bits16 (u : Nat) (w : World) (hu : u < 9223372036854775808) (hT : ∀ w', TabAt 5 Lib.deBruijn64tab (w.alloc w')) :
    Calls Tryd.prog 64 #[.slice none 0 0, .int .u64 u, .int .i64 16, .bool false, .bool false] w fun e w' => e = .returned (.tuple #[.slice none 0 0, .string (str (Oct.dgs 16 u))]) ∧ Below w.heap.size w w' := by
  have hS := Tail.start w
  have hB : Below w.heap.size w (w.alloc (.cells Tryd.zeroCells80 80)) := (Below.refl _ w).alloc (Nat.le_refl _) _
  go_enter Tryd.func64, Tryd.ntmps64
  go_wp2_with (first | (go_at_call 72; refine (pow2_16 _).mono ?_; rintro e w1 ⟨rfl, rfl⟩) | (go_at_call 73; refine (tz_16 _ (hT _)).mono ?_; rintro e w1 ⟨rfl, rfl⟩))
  go_loopw [1, 13] (fun x i wr => ∃ (v j : Nat) (tl : List UInt8), x = .int .u64 v ∧ i = .int .i64 j ∧ j + tl.length = 65 ∧ v ≤ u ∧ Hid (tl.length ≤ 15 ∧ v < 16 ^ (16 - tl.length)) ∧ Hid (Oct.dgs 16 u = Oct.dgs 16 v ++ tl) ∧ Tail wr w.heap.size tl ∧ Below w.heap.size w wr) (fun x _ _ => (intOf x).toNat)
  case atStart => exact ⟨u, 65, [], rfl, rfl, rfl, Nat.le_refl _, ⟨by decide, by show u < 16 ^ 16; omega⟩, by rw [List.append_nil]; rfl, hS, hB⟩
  case round =>
    clear hS hB
    obtain ⟨v, j, tl, rfl, rfl, hj, hvu, HV, HD, hS, hB⟩ := hrel
    have h15 := HV.out.1
    by_cases hlt : 16 ≤ v
    · have hA := and15 v (by omega)
      have h14 : Hid (tl.length + 1 ≤ 15 ∧ v / 16 < 16 ^ (16 - (tl.length + 1))) := Oct.step16 hlt HV.out
      obtain ⟨⟨old, hcell⟩, hfz⟩ := hS.cell (j - 1) (by omega)
      have hr : v % 16 < 16 := Nat.mod_lt _ (by decide)
      go_wp2_with fail
      go_roundw
      case rel => exact ⟨v / 16, j - 1, Oct.ch (v % 16) :: tl, by go_num, by go_num, by simp; omega, by omega, h14, by rw [HD.out, Oct.dgs_more (by decide) hlt]; simp [Hid], by rw [Oct.ch_at _ hr]; exact hS.add (j - 1) (by omega) _, hB.setCell (Nat.le_refl _) _⟩
      case measure => simp [intOf]; omega
    · obtain ⟨⟨old, hcell⟩, hfz⟩ := hS.cell (j - 1) (by omega)
      have hx := Oct.ch_at v (by omega) (hb := by show v < 36; omega)
      have hF : Hid (Oct.dgs 16 u = Oct.ch v :: tl) := by rw [HD.out, Oct.dgs_last (by omega)]; rfl
      have hS2 := hS.add (j - 1) (by omega) (Oct.ch v)
      have hcv := run_convert_bytes_back (P := Tryd.prog) (wr.setCell ⟨w.heap.size, j - 1, none⟩ (.int .u8 (Oct.ch v).toNat)) 50 9 5 ⟨w.heap.size, j - 1, none⟩ (65 - (j - 1)) (Oct.ch v :: tl) Tryd.underlying50 Tryd.underlying5 Tryd.underlying9 (fun i hi => hS2.read (j - 1) (by simp; omega) i hi)
      have hsl := slice_tail w.heap.size (j - 1) ((j : Int) - 1) (by omega) (by omega) (Oct.ch v :: tl).length (65 - (j - 1)) (by simp; omega) rfl
      generalize (Oct.ch v :: tl).length = n at hcv hsl
      generalize 65 - (j - 1) = m at hcv hsl
      go_wp2_with fail
      go_ret2
      exact ⟨by rw [hF.out]; rfl, hB.setCell (Nat.le_refl _) _⟩

end Go.Proofs.YtljpidpddlgkpaaDoor
