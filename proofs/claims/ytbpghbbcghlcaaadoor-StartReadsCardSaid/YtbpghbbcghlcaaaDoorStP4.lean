/- Package start: where a line ends; a line cut at its spaces. -/
import Derived.Test.YtbpghbbcghlcaaaDoorSt6
import Derived.Test.YtbpghbbcghlcaaaDoorStP2
import Derived.Lib.BytesEntry
namespace Go.Proofs.YtbpghbbcghlcaaaDoor
open Go.RowKit

/-- The library's variable of the longest separator holds some number. -/
def MaxOk (w : World) : Prop := ∃ m, w.cell? ⟨0, 0, none⟩ = some (.int .i64 m)
theorem MaxOk.later {w w' : World} (h : MaxOk w) (hb : Below w.heap.size w w') : MaxOk w' := by
  obtain ⟨m, h⟩ := h
  exact ⟨m, (hb.cell (p := ⟨0, 0, none⟩) (World.block_lt_of_cell? w _ h)).trans h⟩
def ints (l : List UInt8) : List Int := l.map fun c => (c.toNat : Int)
theorem ints_bytes (l : List UInt8) : Lib.bytesOf (ints l) = l := by
  unfold Lib.bytesOf ints; rw [List.map_map]; conv => rhs; rw [← List.map_id l]
  apply List.map_congr_left; intro c _; simp
set_option maxHeartbeats 1000000 in
set_option maxRecDepth 100000 in
/-- No octets, wherever they lie. -/
theorem byte_none (ao : Option Addr) (c : Nat) (w : World) : Calls Tryd.prog 31 #[.slice ao 0 c, .int .u8 10] w fun e w' => e = .returned (.int .i64 (-1)) ∧ w' = w := by
  have hrun : (Extern.BytealgIndexByte.indexByte #[.slice ao 0 c, .int .u8 10]).run Tryd.prog w = .ok (.int .i64 (-1)) w := by
    cases ao with
    | none => exact Lib.run_indexByteNil w 0 c 10
    | some a => exact Lib.run_indexByteString (P := Tryd.prog) .empty 10 w
  go_enter Tryd.func31, Tryd.ntmps31
  go_wp2
  rw [run_callFunc_extern Tryd.func45 (by kernel_rfl) (by kernel_rfl) (by kernel_rfl) (e := Extern.BytealgIndexByte.indexByte) (by kernel_rfl), hrun]
  simp only [Result.andThen]
  rw [Oper.upon_value]
  go_wp2
  go_ret
  exact ⟨rfl, rfl⟩
/-- bytes.IndexByte: an LF. -/
theorem byte_w (v : Value) (l : List UInt8) (w : World) (h : BIn w v l) : Calls Tryd.prog 31 #[v, .int .u8 10] w fun e w' => e = .returned (.int .i64 (Lib.indexByte l 10)) ∧ w = w' := by
  obtain ⟨ao, cap, rfl, h1, h2, hg⟩ := h
  rcases hg with rfl | ⟨b, o, rfl, hb, hc⟩
  · exact (byte_none ao cap w).mono fun e w' ⟨he, hw⟩ => ⟨he, hw.symm⟩
  · have := Tryd.bytes_IndexByte b o l.length cap (ints l) 10 w (by simp [ints]) (fun i hi => by
      rw [hc i hi]; simp [ints, hi])
    rw [ints_bytes] at this
    exact this.mono fun e w' ⟨he, hw⟩ => ⟨he, hw.symm⟩
/-- The first n octets. -/
theorem BIn.cut {w : World} {ao : Option Addr} {m cap : Nat} {l : List UInt8} (h : BIn w (.slice ao m cap) l) (n : Nat) (hn : n ≤ l.length) : BIn w (.slice ao n cap) (l.take n) := by
  obtain ⟨ao', cap', hv, h1, h2, hg⟩ := h
  injection hv with hv1 hv2 hv3
  subst hv1 hv2 hv3
  have hl : (l.take n).length = n := by rw [List.length_take]; omega
  refine ⟨ao, cap, by rw [hl], by omega, h2, ?_⟩
  rcases hg with rfl | ⟨b, o, rfl, hb, hc⟩
  · left; simp
  · refine .inr ⟨b, o, rfl, hb, fun j hj => ?_⟩
    rw [hl] at hj
    rw [hc j (by omega)]
    simp

/-- A line cut at its first two spaces. -/
theorem SplitN_w (s : ByteArray) (w : World) (hs : s.size ≤ 1000000) (hm : MaxOk w) :
    Calls Tryd.prog 33 #[.string s, .string ⟨#[32]⟩, .int .i64 3] w fun e w' => ∃ c, e = .returned (.slice (some ⟨w.heap.size, 0, none⟩) (St.cut3 s.data.toList).length c) ∧ (St.cut3 s.data.toList).length ≤ c ∧ (∀ (j : Nat) (x : List UInt8), (St.cut3 s.data.toList)[j]? = some x → w'.cell? ⟨w.heap.size, j, none⟩ = some (.string (str x))) ∧ Below w.heap.size w w' := by
  obtain ⟨m, hm⟩ := hm
  refine (Tryd.strings_SplitN s ⟨#[32]⟩ 3 m w (by omega) hm (Nat.le_refl 1) (by decide) (by decide)).mono ?_
  rintro e w' ⟨rfl, rfl⟩
  have hz : s.data.toList.length = s.size := Oct.length_size s
  have hd := Lib.splitB_data ⟨#[32]⟩ 0 (min 3 (s.size + 1) - 1) s
  have hc3 := St.split_cut3 s.data.toList
  rw [hz] at hc3
  have hd : (Lib.splitB ⟨#[32]⟩ 0 (min 3 (s.size + 1) - 1) s).map (·.data.toList) = St.cut3 s.data.toList := hd.trans hc3
  have hle := Lib.splitB_length_le ⟨#[32]⟩ 0 (min 3 (s.size + 1) - 1) s
  have hlen : (Lib.splitB ⟨#[32]⟩ 0 (min 3 (s.size + 1) - 1) s).length = (St.cut3 s.data.toList).length := by rw [← hd, List.length_map]
  rw [hlen] at hle ⊢
  refine ⟨_, rfl, by omega, fun j x hj => ?_, (Below.refl _ _).alloc (Nat.le_refl _) _⟩
  rw [World.cell?_alloc_at _ _ _ _ (by rfl)]
  rw [← hd, List.getElem?_map] at hj
  obtain ⟨y, hy, rfl⟩ := Option.map_eq_some_iff.1 hj
  have hlt : j < (Lib.splitB ⟨#[32]⟩ 0 (min 3 (s.size + 1) - 1) s).length := (List.getElem?_eq_some_iff.1 hy).1
  unfold Lib.cellsOf
  rw [← Array.getElem?_toList]
  simp only [List.getElem?_append_left (by simpa using hlt : j < ((Lib.splitB ⟨#[32]⟩ 0 (min 3 (s.size + 1) - 1) s).map Value.string).length), List.getElem?_map, hy, str_of]
  rfl
theorem SplitN_3 (s : ByteArray) (a b c : List UInt8) (w : World) (hs : s.size ≤ 1000000) (hm : MaxOk w) (h : St.cut3 s.data.toList = [a, b, c]) :
    Calls Tryd.prog 33 #[.string s, .string ⟨#[32]⟩, .int .i64 3] w fun e w' => ∃ n, e = .returned (.slice (some ⟨w.heap.size, 0, none⟩) 3 n) ∧ 3 ≤ n ∧ w.heap.size < w'.heap.size ∧ w'.cell? ⟨w.heap.size, 0, none⟩ = some (.string (str a)) ∧ w'.cell? ⟨w.heap.size, 1, none⟩ = some (.string (str b)) ∧ w'.cell? ⟨w.heap.size, 2, none⟩ = some (.string (str c)) ∧ Below w.heap.size w w' := by
  refine (SplitN_w s w hs hm).mono ?_
  rw [h]
  rintro e w' ⟨n, he, hn, hc, hb⟩
  have h0 := hc 0 a rfl
  exact ⟨n, he, hn, World.block_lt_of_cell? w' _ h0, h0, hc 1 b rfl, hc 2 c rfl, hb⟩
theorem SplitN_few (s : ByteArray) (w : World) (hs : s.size ≤ 1000000) (hm : MaxOk w) (n : Nat) (h : (St.cut3 s.data.toList).length = n) :
    Calls Tryd.prog 33 #[.string s, .string ⟨#[32]⟩, .int .i64 3] w fun e w' => ∃ c, e = .returned (.slice (some ⟨w.heap.size, 0, none⟩) n c) ∧ Below w.heap.size w w' := by
  refine (SplitN_w s w hs hm).mono ?_
  rw [h]
  rintro e w' ⟨n, he, hn, hc, hb⟩
  exact ⟨n, he, hb⟩
/-- A line's end cut off. -/
theorem Cut_w (s : ByteArray) (w : World) (hs : s.size ≤ 1000000) :
    Calls Tryd.prog 32 #[.string s, .string ⟨#[13, 10]⟩] w fun e w' => e = .returned (.tuple #[.string (str (Lib.trimSuffix s.data.toList [13, 10])), .bool (Lib.hasSuffix s.data.toList [13, 10])]) ∧ w = w' :=
  (Tryd.strings_CutSuffix s ⟨#[13, 10]⟩ w (by omega)).mono fun _ _ ⟨he, hw⟩ => ⟨he, hw.symm⟩
end Go.Proofs.YtbpghbbcghlcaaaDoor
