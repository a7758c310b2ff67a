/- Package chunk, the program: a decoder in memory; how much of what is awaited stands there. -/
import Derived.Test.YtgnopcghobaoiaaDoorCkMathQ
import Derived.Test.YtgnopcghobaoiaaDoorCkBut
import Derived.Lib.BytesEntry
namespace Ck
theorem lineLen_yes {l : L} (h : St.upto 10 (l.take 256) ≠ (l.take 256).length) : lineLen l = (St.upto 10 l + 1, 0) ∧ St.upto 10 (l.take 256) = St.upto 10 l ∧ St.upto 10 l < l.length ∧ St.upto 10 l ≤ 255 := by
  have hle := St.upto_le 10 l
  rw [St.upto_first] at h ⊢
  by_cases hu : St.upto 10 l < 256
  · rw [if_pos hu] at h ⊢
    rw [List.length_take] at h
    have h1 : St.upto 10 l < l.length := by omega
    refine ⟨?_, rfl, h1, by omega⟩
    unfold lineLen
    rw [if_pos ⟨h1, by omega⟩]
  · rw [if_neg hu] at h
    exact absurd rfl h
theorem lineLen_no {l : L} (h : St.upto 10 (l.take 256) = (l.take 256).length) : lineLen l = if 256 ≤ l.length then (0, 12) else (0, 0) := by
  have hle := St.upto_le 10 l
  rw [St.upto_first, List.length_take] at h
  unfold lineLen
  rw [if_neg]
  rintro ⟨h1, h2⟩
  rw [if_pos (by omega)] at h
  omega
end Ck
namespace Go.Proofs.YtgnopcghobaoiaaDoor
open Go.RowKit

/-! A decoder in memory: five cells. -/
def dcells (a n t k e : Int) : Array Value := #[.int .i64 a, .int .i64 n, .int .i64 t, .int .i64 k, .int .i64 e]
def DAt (w : World) (g : Nat) (a n t k e : Int) : Prop := w.heap[g]? = some (.cells (dcells a n t k e) 47 (0, 0))
theorem DAt.lt {w : World} {g : Nat} {a n t k e : Int} (h : DAt w g a n t k e) : g < w.heap.size := lt_of_block h
theorem DAt.same {w w' : World} {g : Nat} {a n t k e : Int} (h : DAt w g a n t k e) (hb : w'.heap[g]? = w.heap[g]?) : DAt w' g a n t k e := by unfold DAt; rw [hb]; exact h
theorem DAt.later {w w' : World} {g : Nat} {a n t k e : Int} (h : DAt w g a n t k e) (hb : Below w.heap.size w w') : DAt w' g a n t k e := h.same (hb.block g h.lt)
theorem DAt.cell {w : World} {g : Nat} {a n t k e : Int} (h : DAt w g a n t k e) (j : Nat) : w.cell? ⟨g, j, none⟩ = (dcells a n t k e)[j]? := by
  simp only [World.cell?, DAt] at *; rw [h]; rfl
theorem DAt.cells {w : World} {g : Nat} {a n t k e : Int} (h : DAt w g a n t k e) :
    w.cell? ⟨g, 0, none⟩ = some (.int .i64 a) ∧ w.cell? ⟨g, 1, none⟩ = some (.int .i64 n) ∧ w.cell? ⟨g, 2, none⟩ = some (.int .i64 t) ∧ w.cell? ⟨g, 3, none⟩ = some (.int .i64 k) ∧ w.cell? ⟨g, 4, none⟩ = some (.int .i64 e) :=
  ⟨h.cell 0, h.cell 1, h.cell 2, h.cell 3, h.cell 4⟩
theorem DAt.free {w : World} {g : Nat} {a n t k e : Int} (h : DAt w g a n t k e) (j : Nat) : w.frozen? ⟨g, j, none⟩ = false := by
  simp only [World.frozen?, DAt] at *; rw [h]; simp
theorem DAt.put {w : World} {g : Nat} {a n t k e a' n' t' k' e' : Int} (h : DAt w g a n t k e) (j : Nat) (v : Value) (hd : (dcells a n t k e).setIfInBounds j v = dcells a' n' t' k' e') : DAt (w.setCell ⟨g, j, none⟩ v) g a' n' t' k' e' := by
  unfold DAt at *
  rw [← hd]
  simp [World.setCell, Array.getElem?_modify, h]
theorem But.refl (g : Nat) (w : World) : But g w w := ⟨rfl, rfl, rfl, Nat.le_refl _, fun _ _ _ => rfl⟩
theorem But.of {g : Nat} {w w' : World} (h : Below w.heap.size w w') : But g w w' := ⟨h.os, h.tape, h.output, h.size, fun k hk _ => h.block k hk⟩
theorem But.trans {g : Nat} {a b c : World} (h : But g a b) (h' : But g b c) : But g a c :=
  ⟨h'.os.trans h.os, h'.tape.trans h.tape, h'.output.trans h.output, Nat.le_trans h.size h'.size, fun k hk hne => (h'.block k (Nat.lt_of_lt_of_le hk h.size) hne).trans (h.block k hk hne)⟩
theorem But.put {g : Nat} {a b : World} (h : But g a b) (j : Nat) (v : Value) : But g a (b.setCell ⟨g, j, none⟩ v) := by
  refine ⟨h.os, h.tape, h.output, by simp only [World.size_setCell]; exact h.size, fun k hk hne => ?_⟩
  rw [Below.heap_setCell _ _ _ _ (by simpa using hne)]
  exact h.block k hk hne
/-- Where a body stands, in the decoder's cells. -/
def Dst (w : World) (g : Nat) (s : Ck.S) (e : Int) : Prop := Ck.Good s ∧ match s with
  | .size t => DAt w g 0 0 t 0 e
  | .data t n => DAt w g 1 n t 0 e
  | .tail t => DAt w g 2 0 t 0 e
  | .trail k => ∃ t : Int, DAt w g 3 0 t k e
  | .over => ∃ t k : Int, DAt w g 4 0 t k e
theorem Dst.cells {w : World} {g : Nat} {s : Ck.S} {e : Int} (h : Dst w g s e) : ∃ a n t k : Int, DAt w g a n t k e ∧ (a = 4 ↔ s = .over) ∧ (a = 1 ↔ ∃ t n, s = .data t n) := by
  obtain ⟨_, h⟩ := h
  cases s with
  | size t => exact ⟨_, _, _, _, h, by simp, by simp⟩
  | data t n => exact ⟨_, _, _, _, h, by simp, by simp⟩
  | tail t => exact ⟨_, _, _, _, h, by simp, by simp⟩
  | trail k => obtain ⟨t, h⟩ := h; exact ⟨_, _, _, _, h, by simp, by simp⟩
  | over => obtain ⟨t, k, h⟩ := h; exact ⟨_, _, _, _, h, by simp, by simp⟩
theorem Dst.same {w w' : World} {g : Nat} {s : Ck.S} {e : Int} (h : Dst w g s e) (hb : w'.heap[g]? = w.heap[g]?) : Dst w' g s e := by
  obtain ⟨hg, h⟩ := h
  refine ⟨hg, ?_⟩
  cases s with
  | size t => exact DAt.same h hb
  | data t n => exact DAt.same h hb
  | tail t => exact DAt.same h hb
  | trail k => obtain ⟨t, h⟩ := h; exact ⟨t, h.same hb⟩
  | over => obtain ⟨t, k, h⟩ := h; exact ⟨t, k, h.same hb⟩

set_option maxHeartbeats 1000000 in
set_option maxRecDepth 100000 in
/-- bytes.IndexByte: an LF. -/
theorem byte_none (ao : Option Addr) (c : Nat) (w : World) : Calls Tryd.prog 26 #[.slice ao 0 c, .int .u8 10] w fun e w' => e = .returned (.int .i64 (-1)) ∧ w' = w := by
  have hrun : (Extern.BytealgIndexByte.indexByte #[.slice ao 0 c, .int .u8 10]).run Tryd.prog w = .ok (.int .i64 (-1)) w := by
    cases ao with
    | none => exact Lib.run_indexByteNil w 0 c 10
    | some a => exact Lib.run_indexByteString (P := Tryd.prog) .empty 10 w
  go_enter Tryd.func26, Tryd.ntmps26
  go_wp2
  rw [run_callFunc_extern Tryd.func34 (by kernel_rfl) (by kernel_rfl) (by kernel_rfl) (e := Extern.BytealgIndexByte.indexByte) (by kernel_rfl), hrun]
  simp only [Result.andThen]
  rw [Oper.upon_value]
  go_wp2
  go_ret
  exact ⟨rfl, rfl⟩
theorem byte_w (v : Value) (l : List UInt8) (w : World) (h : BIn w v l) : Calls Tryd.prog 26 #[v, .int .u8 10] w fun e w' => e = .returned (.int .i64 (Lib.indexByte l 10)) ∧ w = w' := by
  obtain ⟨ao, cap, rfl, h1, h2, hg⟩ := h
  rcases hg with rfl | ⟨b, o, rfl, hb, hc⟩
  · exact (byte_none ao cap w).mono fun e w' ⟨he, hw⟩ => ⟨he, hw.symm⟩
  · have := Tryd.bytes_IndexByte b o l.length cap (ints l) 10 w (by simp [ints]) (fun i hi => by
      rw [hc i hi]; simp [ints, hi])
    rw [ints_bytes] at this
    exact this.mono fun e w' ⟨he, hw⟩ => ⟨he, hw.symm⟩

/-- A part, cut off from what stands behind. -/
def Part (w : World) (u : Value) (p : List UInt8) : Prop := BIn w u p ∧ ∃ ao, u = .slice ao p.length p.length
theorem Part.of {w : World} {ao : Option Addr} {m cap : Nat} {l : List UInt8} (h : BIn w (.slice ao m cap) l) (k : Nat) (hk : k ≤ l.length) : Part w (.slice ao k k) (l.take k) := by
  obtain ⟨ao', cap', hv, h1, h2, hg⟩ := h
  injection hv with hv1 hv2 hv3
  subst hv1 hv2 hv3
  have hl : (l.take k).length = k := by rw [List.length_take]; omega
  refine ⟨⟨ao, k, by rw [hl], by omega, by omega, ?_⟩, ao, by rw [hl]⟩
  rcases hg with rfl | ⟨b, o, rfl, hb, hc⟩
  · left; simp
  · refine .inr ⟨b, o, rfl, hb, fun j hj => ?_⟩
    rw [hl] at hj
    rw [hc j (by omega)]
    simp

set_option maxHeartbeats 6400000 in
set_option maxRecDepth 100000 in
theorem next_line0 (g : Nat) (n t k e : Int) (v : Value) (l : List UInt8) (w : World) (hl : l.length ≤ 10000000) (hd : DAt w g 0 n t k e) (h : BIn w v l) :
    Calls Tryd.prog 18 #[.pointer (some ⟨g, 0, none⟩), v] w fun x w' => (∃ u, x = .returned (.tuple #[u, .int .i64 (Ck.lineLen l).2]) ∧ ((Ck.lineLen l).2 = 0 → ∀ W, BIn W v l → Part W u (l.take (Ck.lineLen l).1))) ∧ w = w' := by
  have HV := Lib.hid h
  obtain ⟨c0, c1, c2, c3, c4⟩ := hd.cells
  obtain ⟨ao, cap, rfl, hlc, hc9, hg⟩ := h
  obtain ⟨L, hL⟩ : ∃ L, L = l.length := ⟨_, rfl⟩
  obtain ⟨N, hN⟩ : ∃ N, N = (l.take 256).length := ⟨_, rfl⟩
  have hNL : N = min 256 L := by rw [hN, hL, List.length_take]
  have hNi : min (L : Int) 256 = N := by omega
  have hNcap : (N : Int) ≤ cap := by omega
  have cB := byte_w (.slice ao N cap) (l.take 256) w (by
    have := HV.out.cut N (by rw [hN, List.length_take]; exact Nat.min_le_right _ _)
    rw [hN, List.length_take, ← List.take_eq_take_min] at this
    rw [hN, List.length_take]
    exact this)
  rw [St.index_upto] at cB
  rw [← hL] at hlc ⊢
  by_cases hu : St.upto 10 (l.take 256) = (l.take 256).length
  · rw [if_pos hu] at cB
    have hno := Ck.lineLen_no hu
    by_cases h9 : (L : Int) < 256
    · rw [if_neg (by omega)] at hno
      have HR : Hid (Ck.lineLen l = (0, 0)) := Lib.hid hno
      have h9' : ¬ (256 : Int) ≤ L := by omega
      clear hg HV hL hN hNL hu hno hl hd c1 c2 c3 c4
      go_enter Tryd.func18, Tryd.ntmps18
      go_wp2_with fail
      refine cB.mono ?_
      rintro e W1 ⟨rfl, rfl⟩
      go_wp2_with fail
      go_ret2
      rw [HR.out]
      exact ⟨⟨_, rfl, fun _ W hW => Part.of hW 0 (Nat.zero_le _)⟩, rfl⟩
    · rw [if_pos (by omega)] at hno
      have HR : Hid (Ck.lineLen l = (0, 12)) := Lib.hid hno
      have h9' : (256 : Int) ≤ L := by omega
      clear hg HV hL hN hNL hu hno hl hd c1 c2 c3 c4
      go_enter Tryd.func18, Tryd.ntmps18
      go_wp2_with fail
      refine cB.mono ?_
      rintro e W1 ⟨rfl, rfl⟩
      go_wp2_with fail
      go_ret2
      rw [HR.out]
      exact ⟨⟨_, rfl, fun h => absurd h (by decide)⟩, rfl⟩
  · rw [if_neg hu] at cB
    obtain ⟨hy, f1, f2, f3⟩ := Ck.lineLen_yes hu
    rw [f1] at cB
    have HR : Hid (Ck.lineLen l = (St.upto 10 l + 1, 0)) := Lib.hid hy
    have HLE : Hid (St.upto 10 l + 1 ≤ l.length) := Lib.hid f2
    generalize St.upto 10 l = u at *
    have hu1 : (0 : Int) ≤ (u : Int) + 1 := by omega
    have huz : ¬ ((u : Int) + 1 = 0) := by omega
    have hub : ((u : Int) + 1 == 0) = false := beq_eq_false_iff_ne.2 huz
    have huc : (u : Int) + 1 ≤ cap := by omega
    clear hg HV hL hN hNL hu hl hd c1 c2 c3 c4 hy f1 f2 f3
    go_enter Tryd.func18, Tryd.ntmps18
    go_wp2_with fail
    refine cB.mono ?_
    rintro e W1 ⟨rfl, rfl⟩
    go_wp2_with fail
    go_ret2
    rw [HR.out]
    exact ⟨⟨_, rfl, fun _ W hW => Part.of hW _ HLE.out⟩, rfl⟩
set_option maxHeartbeats 6400000 in
set_option maxRecDepth 100000 in
theorem next_line3 (g : Nat) (n t k e : Int) (v : Value) (l : List UInt8) (w : World) (hl : l.length ≤ 10000000) (hd : DAt w g 3 n t k e) (h : BIn w v l) :
    Calls Tryd.prog 18 #[.pointer (some ⟨g, 0, none⟩), v] w fun x w' => (∃ u, x = .returned (.tuple #[u, .int .i64 (Ck.lineLen l).2]) ∧ ((Ck.lineLen l).2 = 0 → ∀ W, BIn W v l → Part W u (l.take (Ck.lineLen l).1))) ∧ w = w' := by
  have HV := Lib.hid h
  obtain ⟨c0, c1, c2, c3, c4⟩ := hd.cells
  obtain ⟨ao, cap, rfl, hlc, hc9, hg⟩ := h
  obtain ⟨L, hL⟩ : ∃ L, L = l.length := ⟨_, rfl⟩
  obtain ⟨N, hN⟩ : ∃ N, N = (l.take 256).length := ⟨_, rfl⟩
  have hNL : N = min 256 L := by rw [hN, hL, List.length_take]
  have hNi : min (L : Int) 256 = N := by omega
  have hNcap : (N : Int) ≤ cap := by omega
  have cB := byte_w (.slice ao N cap) (l.take 256) w (by
    have := HV.out.cut N (by rw [hN, List.length_take]; exact Nat.min_le_right _ _)
    rw [hN, List.length_take, ← List.take_eq_take_min] at this
    rw [hN, List.length_take]
    exact this)
  rw [St.index_upto] at cB
  rw [← hL] at hlc ⊢
  by_cases hu : St.upto 10 (l.take 256) = (l.take 256).length
  · rw [if_pos hu] at cB
    have hno := Ck.lineLen_no hu
    by_cases h9 : (L : Int) < 256
    · rw [if_neg (by omega)] at hno
      have HR : Hid (Ck.lineLen l = (0, 0)) := Lib.hid hno
      have h9' : ¬ (256 : Int) ≤ L := by omega
      clear hg HV hL hN hNL hu hno hl hd c1 c2 c3 c4
      go_enter Tryd.func18, Tryd.ntmps18
      go_wp2_with fail
      refine cB.mono ?_
      rintro e W1 ⟨rfl, rfl⟩
      go_wp2_with fail
      go_ret2
      rw [HR.out]
      exact ⟨⟨_, rfl, fun _ W hW => Part.of hW 0 (Nat.zero_le _)⟩, rfl⟩
    · rw [if_pos (by omega)] at hno
      have HR : Hid (Ck.lineLen l = (0, 12)) := Lib.hid hno
      have h9' : (256 : Int) ≤ L := by omega
      clear hg HV hL hN hNL hu hno hl hd c1 c2 c3 c4
      go_enter Tryd.func18, Tryd.ntmps18
      go_wp2_with fail
      refine cB.mono ?_
      rintro e W1 ⟨rfl, rfl⟩
      go_wp2_with fail
      go_ret2
      rw [HR.out]
      exact ⟨⟨_, rfl, fun h => absurd h (by decide)⟩, rfl⟩
  · rw [if_neg hu] at cB
    obtain ⟨hy, f1, f2, f3⟩ := Ck.lineLen_yes hu
    rw [f1] at cB
    have HR : Hid (Ck.lineLen l = (St.upto 10 l + 1, 0)) := Lib.hid hy
    have HLE : Hid (St.upto 10 l + 1 ≤ l.length) := Lib.hid f2
    generalize St.upto 10 l = u at *
    have hu1 : (0 : Int) ≤ (u : Int) + 1 := by omega
    have huz : ¬ ((u : Int) + 1 = 0) := by omega
    have hub : ((u : Int) + 1 == 0) = false := beq_eq_false_iff_ne.2 huz
    have huc : (u : Int) + 1 ≤ cap := by omega
    clear hg HV hL hN hNL hu hl hd c1 c2 c3 c4 hy f1 f2 f3
    go_enter Tryd.func18, Tryd.ntmps18
    go_wp2_with fail
    refine cB.mono ?_
    rintro e W1 ⟨rfl, rfl⟩
    go_wp2_with fail
    go_ret2
    rw [HR.out]
    exact ⟨⟨_, rfl, fun _ W hW => Part.of hW _ HLE.out⟩, rfl⟩
set_option maxHeartbeats 6400000 in
set_option maxRecDepth 100000 in
theorem next_data (g : Nat) (n : Nat) (t k e : Int) (v : Value) (l : List UInt8) (w : World) (_hl : l.length ≤ 10000000) (hd : DAt w g 1 n t k e) (h : BIn w v l) :
    Calls Tryd.prog 18 #[.pointer (some ⟨g, 0, none⟩), v] w fun x w' => (∃ u, x = .returned (.tuple #[u, .int .i64 0]) ∧ ∀ W, BIn W v l → Part W u (l.take (min l.length n))) ∧ w = w' := by
  have HV := Lib.hid h
  obtain ⟨c0, c1, c2, c3, c4⟩ := hd.cells
  obtain ⟨ao, cap, rfl, hlc, hc9, hg⟩ := h
  obtain ⟨N, hN⟩ : ∃ N, N = min l.length n := ⟨_, rfl⟩
  have hNi : min (l.length : Int) n = N := by omega
  have hNc : (N : Int) ≤ cap := by omega
  have hN0 : (0 : Int) ≤ N := by omega
  have HLE : Hid (N ≤ l.length) := Lib.hid (by omega)
  rw [← hN]
  obtain ⟨L, hL⟩ : ∃ L, L = l.length := ⟨_, rfl⟩
  rw [← hL] at hNi ⊢
  clear hg HV hN hd c2 c3 c4 hL hlc
  go_enter Tryd.func18, Tryd.ntmps18
  go_wp2_with fail
  go_ret2
  exact ⟨⟨_, rfl, fun W hW => Part.of hW _ HLE.out⟩, rfl⟩
set_option maxHeartbeats 6400000 in
set_option maxRecDepth 100000 in
theorem next_tail (g : Nat) (n t k e : Int) (v : Value) (l : List UInt8) (w : World) (_hl : l.length ≤ 10000000) (hd : DAt w g 2 n t k e) (h : BIn w v l) :
    Calls Tryd.prog 18 #[.pointer (some ⟨g, 0, none⟩), v] w fun x w' => (∃ u, x = .returned (.tuple #[u, .int .i64 0]) ∧ ∀ W, BIn W v l → Part W u (l.take (if 2 ≤ l.length then 2 else 0))) ∧ w = w' := by
  have HV := Lib.hid h
  obtain ⟨c0, c1, c2, c3, c4⟩ := hd.cells
  obtain ⟨ao, cap, rfl, hlc, hc9, hg⟩ := h
  by_cases h2 : 2 ≤ l.length
  · rw [if_pos h2]
    have HLE : Hid (2 ≤ l.length) := Lib.hid h2
    obtain ⟨L, hL⟩ : ∃ L, L = l.length := ⟨_, rfl⟩
    rw [← hL] at h2 hlc ⊢
    have h2i : (2 : Int) ≤ L := by omega
    have h2c : (2 : Int) ≤ cap := by omega
    clear hg HV hd c1 c2 c3 c4 hL h2
    go_enter Tryd.func18, Tryd.ntmps18
    go_wp2_with fail
    go_ret2
    exact ⟨⟨_, rfl, fun W hW => Part.of hW _ HLE.out⟩, rfl⟩
  · rw [if_neg h2]
    obtain ⟨L, hL⟩ : ∃ L, L = l.length := ⟨_, rfl⟩
    rw [← hL] at h2 hlc ⊢
    have h2i : ¬ (2 : Int) ≤ L := by omega
    have h2j : (L : Int) < 2 := by omega
    clear hg HV hd c1 c2 c3 c4 hL h2
    go_enter Tryd.func18, Tryd.ntmps18
    go_wp2_with fail
    go_ret2
    exact ⟨⟨_, rfl, fun W hW => Part.of hW _ (Nat.zero_le _)⟩, rfl⟩
set_option maxHeartbeats 6400000 in
set_option maxRecDepth 100000 in
theorem next_over (g : Nat) (n t k e : Int) (v : Value) (l : List UInt8) (w : World) (hd : DAt w g 4 n t k e) (h : BIn w v l) :
    Calls Tryd.prog 18 #[.pointer (some ⟨g, 0, none⟩), v] w fun x w' => (∃ u, x = .returned (.tuple #[u, .int .i64 0]) ∧ ∀ W, BIn W v l → Part W u (l.take 0)) ∧ w = w' := by
  have HV := Lib.hid h
  obtain ⟨c0, c1, c2, c3, c4⟩ := hd.cells
  obtain ⟨ao, cap, rfl, hlc, hc9, hg⟩ := h
  clear hg HV hd c1 c2 c3 c4
  go_enter Tryd.func18, Tryd.ntmps18
  go_wp2_with fail
  go_ret2
  exact ⟨⟨_, rfl, fun W hW => Part.of hW _ (Nat.zero_le _)⟩, rfl⟩
/-- What is awaited, as much as stands there. -/
theorem next_w (g : Nat) (s : Ck.S) (v : Value) (l : List UInt8) (w : World) (hl : l.length ≤ 10000000) (hd : Dst w g s 0) (h : BIn w v l) :
    Calls Tryd.prog 18 #[.pointer (some ⟨g, 0, none⟩), v] w fun x w' => (∃ u, x = .returned (.tuple #[u, .int .i64 (Ck.nx s l).2]) ∧ ((Ck.nx s l).2 = 0 → ∀ W, BIn W v l → Part W u (l.take (Ck.nx s l).1))) ∧ w = w' := by
  obtain ⟨_, hd⟩ := hd
  cases s with
  | size t => exact next_line0 g _ _ _ _ v l w hl hd h
  | data t n => exact (next_data g n _ _ _ v l w hl hd h).mono fun x w' ⟨⟨u, h1, h2⟩, h3⟩ => ⟨⟨u, h1, fun _ => h2⟩, h3⟩
  | tail t => exact (next_tail g _ _ _ _ v l w hl hd h).mono fun x w' ⟨⟨u, h1, h2⟩, h3⟩ => ⟨⟨u, h1, fun _ => h2⟩, h3⟩
  | trail k => obtain ⟨t, hd⟩ := hd; exact next_line3 g _ _ _ _ v l w hl hd h
  | over => obtain ⟨t, k, hd⟩ := hd; exact (next_over g _ _ _ _ v l w hd h).mono fun x w' ⟨⟨u, h1, h2⟩, h3⟩ => ⟨⟨u, h1, fun _ => h2⟩, h3⟩
end Go.Proofs.YtgnopcghobaoiaaDoor
