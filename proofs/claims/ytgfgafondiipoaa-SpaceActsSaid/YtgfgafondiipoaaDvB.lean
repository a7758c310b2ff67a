/- Octets and lists of octets in memory (XCrB), a block of the call's own that is written octet by octet (out of XCrA1). -/
import Derived.Test.YtgfgafondiipoaaProg
import Derived.WalkKit
import Derived.ProofKit
import Derived.Lib.UnsafeStr
import Derived.Lib.BufferRead
import Derived.Lib.Hide
import Derived.Lib.SlBytesConst
import Derived.Lib.ConvBytes
import Derived.Laws.AppendOwnNone
import Derived.Laws.Rows
import Derived.Laws.Tables
import Derived.Deep.DeepCutAuto
import Derived.Deep.CutBlock
import Derived.LoopTactic
import Derived.Deep.OwnRows
import Derived.BigQuiet
namespace Go.Proofs.Ytgfgafondiipoaa
open Go.RowKit

/-- A string of a list of octets, behind a name that the walk leaves alone. -/
def str (l : List UInt8) : ByteArray := ⟨l.toArray⟩
theorem str_list (l : List UInt8) : (str l).data.toList = l := by simp [str]
theorem str_of (s : ByteArray) : str s.data.toList = s := by obtain ⟨⟨l⟩⟩ := s; rfl
theorem str_size (l : List UInt8) : (str l).size = l.length := by rw [Lib.size_eq, str_list]
theorem str_inj {a b : List UInt8} (h : str a = str b) : a = b := by rw [← str_list a, h, str_list]
theorem str_toList (l : List UInt8) : (str l).toList = l := by rw [Lib.toList_data, str_list]
theorem bytes_info : (Try.prog.info? 5).map (fun i => (i.zero, i.size, i.bytes)) = some (some (.int .u8 0), 1, 1) := by kernel_rfl
/-- v is a slice of the call's own (the call began in W), and holds the octets l; below W nothing has turned. -/
def Buf (W w : World) (v : Value) (l : List UInt8) : Prop := w.ownsRow W.heap.size 5 1 v l.length (Lib.byteCells l) ∧ Below W.heap.size W w
theorem Buf.below {W w : World} {v : Value} {l : List UInt8} (h : Buf W w v l) : Below W.heap.size W w := h.2
theorem Buf.nil (W : World) : Buf W W (.slice none 0 0) [] := ⟨World.ownsRow_nil _ _ _ _, Below.refl _ _⟩
theorem Buf.nil_of {W w : World} (h : Below W.heap.size W w) : Buf W w (.slice none 0 0) [] := ⟨World.ownsRow_nil _ _ _ _, h⟩
theorem Buf.alloc {W w : World} {v : Value} {l : List UInt8} (h : Buf W w v l) (o : Obj) : Buf W (w.alloc o) v l := ⟨h.1.alloc o, h.2.alloc h.2.size o⟩
theorem Buf.drew {W w : World} {v : Value} {l : List UInt8} (h : Buf W w v l) : Buf W w.drew v l := ⟨h.1, h.2.drew⟩
/-- Behind a call that leaves all that was as it was. -/
theorem Buf.after {W w w' : World} {v : Value} {l : List UInt8} (h : Buf W w v l) (hb : Below w.heap.size w w') : Buf W w' v l := by
  refine ⟨⟨h.1.1, ?_⟩, h.2.trans (hb.mono h.2.size)⟩
  rcases h.1.2 with h0 | ⟨g, cap, cur, hv, hg, hh, rest⟩
  · exact .inl h0
  · exact .inr ⟨g, cap, cur, hv, hg, by rw [hb.block g (lt_of_block hh)]; exact hh, rest⟩
theorem Buf.cells {W w : World} {v : Value} {l : List UInt8} (h : Buf W w v l) : (v = .slice none 0 0 ∧ l = []) ∨ ∃ g cap, v = .slice (some ⟨g, 0, none⟩) l.length cap ∧ ∀ j (hj : j < l.length), w.cell? ⟨g, j, none⟩ = some (.int .u8 (l[j].toNat : Int)) := by
  rcases h.1.2 with ⟨hv, h0⟩ | ⟨g, cap, cur, hv, hg, hh, h1, h2, h3, h4⟩
  · exact .inl ⟨hv, List.eq_nil_of_length_eq_zero h0⟩
  · refine .inr ⟨g, cap, hv, fun j hj => ?_⟩
    have h5 : cur.toList[j]? = some (.int .u8 (l[j].toNat : Int)) := by
      have h6 : (cur.toList.take (l.length * 1))[j]? = (Lib.byteCells l)[j]? := by rw [h4]
      rw [List.getElem?_take_of_lt (by omega)] at h6
      rw [h6]; simp [Lib.byteCells, hj]
    simp only [World.cell?, hh]
    simpa using h5
theorem bt5 {a b c : World} (h : Below a.heap.size a b) (h' : Below b.heap.size b c) : Below a.heap.size a c := h.trans (h'.mono h.size)
theorem str_eq {a : ByteArray} {l : List UInt8} (h : a.data.toList = l) : a = str l := by rw [← h, str_of]
theorem list_no {a : ByteArray} {l : List UInt8} (h : a.data.toList ≠ l) : ¬ a.toList = l ∧ (a.toList == l) = false ∧ (a.toList != l) = true := by
  rw [Lib.toList_data]
  have h2 : (a.data.toList == l) = false := beq_eq_false_iff_ne.2 h
  exact ⟨h, h2, by rw [bne, h2]; rfl⟩
/-- v reads as the octets l. -/
def BIn (w : World) (v : Value) (l : List UInt8) : Prop := ∃ ao cap, v = .slice ao l.length cap ∧ l.length ≤ cap ∧ cap ≤ 9223372036854775807 ∧ (l = [] ∨ ∃ b o, ao = some ⟨b, o, none⟩ ∧ b < w.heap.size ∧ ∀ j (hj : j < l.length), w.cell? ⟨b, o + j, none⟩ = some (.int .u8 (l[j].toNat : Int)))
theorem BIn.later {w w' : World} {v : Value} {l : List UInt8} (h : BIn w v l) (hb : Below w.heap.size w w') : BIn w' v l := by
  obtain ⟨ao, cap, hv, h1, h2, h⟩ := h
  refine ⟨ao, cap, hv, h1, h2, ?_⟩
  rcases h with h | ⟨b, o, h1, h2, h3⟩
  · exact .inl h
  · exact .inr ⟨b, o, h1, Nat.lt_of_lt_of_le h2 hb.size, fun j hj => by rw [hb.cell (p := ⟨b, o + j, none⟩) h2]; exact h3 j hj⟩
/-- A slice without a block has no room. -/
def NilOk (v : Value) : Prop := ∀ c, v = .slice none 0 c → c = 0
theorem nil_ok (g n c : Nat) : NilOk (.slice (some ⟨g, 0, none⟩) n c) := fun _ h => by injection h with h; cases h
/-- 'make([]byte, n)'. -/
theorem octets_made (w : World) (n : Nat) (hn : n ≤ 1000000) : BIn (w.alloc (.cells (madeCells #[.int .u8 0] n) 5)) (.slice (some ⟨w.heap.size, 0, none⟩) n n) (List.replicate n 0) := by
  have hl : (List.replicate n (0 : UInt8)).length = n := List.length_replicate
  refine ⟨_, n, by rw [hl], by rw [hl]; exact Nat.le_refl _, by omega, .inr ⟨w.heap.size, 0, rfl, by simp, fun j hj => ?_⟩⟩
  rw [hl] at hj
  rw [Nat.zero_add, World.cell?_alloc_at _ _ _ _ rfl]
  simp [madeCells, hj, Nat.mod_one]
/-- '[]byte{}'. -/
theorem Buf.none_ (W w : World) (hb : Below W.heap.size W w) : Buf W (w.alloc (.cells #[] 5)) (.slice (some ⟨w.heap.size, 0, none⟩) 0 0) [] :=
  ⟨World.ownsRow_made w #[] 0 hb.size (by decide) rfl, hb.alloc hb.size _⟩
theorem Buf.bin {W w : World} {v : Value} {l : List UInt8} (h : Buf W w v l) (hv : v ≠ .slice none 0 0) : BIn w v l ∧ NilOk v := by
  rcases h.1.2 with ⟨h0, _⟩ | ⟨g, cap, cur, hv', hg, hh, h1, h2, h3, h4⟩
  · exact absurd h0 hv
  · refine ⟨⟨_, cap, hv', h1, by unfold maxLen at h2; omega, .inr ⟨g, 0, rfl, lt_of_block hh, fun j hj => ?_⟩⟩, by rw [hv']; exact nil_ok g _ _⟩
    have h5 : cur.toList[j]? = some (.int .u8 (l[j].toNat : Int)) := by
      have h6 : (cur.toList.take (l.length * 1))[j]? = (Lib.byteCells l)[j]? := by rw [h4]
      rw [List.getElem?_take_of_lt (by omega)] at h6
      rw [h6]; simp [Lib.byteCells, hj]
    rw [Nat.zero_add]
    simp only [World.cell?, hh]
    simpa using h5
/-- The first n octets. -/
theorem BIn.cut {w : World} {ao : Option Addr} {m cap : Nat} {l : List UInt8} (h : BIn w (.slice ao m cap) l) (n : Nat) (hn : n ≤ l.length) : BIn w (.slice ao n cap) (l.take n) := by
  obtain ⟨ao', cap', hv, h1, h2, hg⟩ := h
  injection hv with hv1 hv2 hv3
  subst hv1 hv2 hv3
  have hl : (l.take n).length = n := by rw [List.length_take]; omega
  refine ⟨ao, cap, by rw [hl], by omega, h2, ?_⟩
  rcases hg with rfl | ⟨b, o, rfl, hb, hc⟩
  · left; simp
  · refine .inr ⟨b, o, rfl, hb, fun j hj => ?_⟩
    rw [hl] at hj
    rw [hc j (by omega)]
    simp
theorem bin_nil (w : World) : BIn w (.slice none 0 0) [] ∧ NilOk (.slice none 0 0) :=
  ⟨⟨none, 0, rfl, Nat.le_refl _, by decide, .inl rfl⟩, fun c h => by injection h with _ _ h; exact h.symm⟩
theorem own_in {w : World} {B : Nat} {v : Value} {l : List UInt8} (h : w.ownsRow B 5 1 v l.length (Lib.byteCells l)) : BIn w v l ∧ NilOk v := by
  rcases h.2 with ⟨hv, h0⟩ | ⟨g, cap, cur, hv', hg, hh, h1, h2, h3, h4⟩
  · have : l = [] := by
      cases l with
      | nil => rfl
      | cons c t => simp at h0
    subst this hv
    exact bin_nil w
  · refine ⟨⟨_, cap, hv', h1, by unfold maxLen at h2; omega, .inr ⟨g, 0, rfl, lt_of_block hh, fun j hj => ?_⟩⟩, by rw [hv']; exact nil_ok g _ _⟩
    have h5 : cur.toList[j]? = some (.int .u8 (l[j].toNat : Int)) := by
      have h6 : (cur.toList.take (l.length * 1))[j]? = (Lib.byteCells l)[j]? := by rw [h4]
      rw [List.getElem?_take_of_lt (by omega)] at h6
      rw [h6]; simp [Lib.byteCells, hj]
    rw [Nat.zero_add]
    simp only [World.cell?, hh]
    simpa using h5
theorem Buf.in_ {W w : World} {v : Value} {l : List UInt8} (h : Buf W w v l) : BIn w v l ∧ NilOk v := own_in h.1
/-- v reads as a list of octets' lists. -/
def BsIn (w : World) (v : Value) (ls : List (List UInt8)) : Prop := ∃ ao cap, v = .slice ao ls.length cap ∧ ls.length ≤ cap ∧ cap ≤ 9223372036854775807 ∧
  (ls = [] ∨ ∃ b o, ao = some ⟨b, o, none⟩ ∧ b < w.heap.size ∧ ∀ j (hj : j < ls.length), ∃ u, w.cell? ⟨b, o + j, none⟩ = some u ∧ BIn w u ls[j] ∧ NilOk u)
theorem BsIn.later {w w' : World} {v : Value} {ls : List (List UInt8)} (h : BsIn w v ls) (hb : Below w.heap.size w w') : BsIn w' v ls := by
  obtain ⟨ao, cap, hv, h1, h2, h⟩ := h
  refine ⟨ao, cap, hv, h1, h2, ?_⟩
  rcases h with h | ⟨b, o, h1, h2, h3⟩
  · exact .inl h
  · refine .inr ⟨b, o, h1, Nat.lt_of_lt_of_le h2 hb.size, fun j hj => ?_⟩
    obtain ⟨u, hu, hbin, hnil⟩ := h3 j hj
    exact ⟨u, by rw [hb.cell (p := ⟨b, o + j, none⟩) h2]; exact hu, hbin.later hb, hnil⟩
/-- A literal row of octets. -/
theorem bin_lit (w : World) (C : Array Value) (l : List UInt8) (n : Nat) (hn : l.length = n) (hC : C.toList = Lib.byteCells l) (hl : n ≤ 1000000) : BIn (w.alloc (.cells C 5)) (.slice (some ⟨w.heap.size, 0, none⟩) n n) l := by
  refine ⟨_, n, by rw [hn], by rw [hn]; exact Nat.le_refl _, by omega, .inr ⟨w.heap.size, 0, rfl, by simp, fun j hj => ?_⟩⟩
  rw [Nat.zero_add, World.cell?_alloc_at _ _ _ _ rfl, ← Array.getElem?_toList, hC]
  simp [Lib.byteCells, hj]
/-- A part of what came in. -/
theorem BIn.mid {w : World} {ad : Addr} {m cap : Nat} {l : List UInt8} (h : BIn w (.slice (some ad) m cap) l) (K E : Nat) (hK : K ≤ E) (hE : E ≤ l.length) : BIn w (.slice (if cap = K then some ad else some (ad.add K)) (E - K) (cap - K)) ((l.take E).drop K) := by
  obtain ⟨ao', cap', hv, h1, h2, hg⟩ := h
  injection hv with hv1 hv2 hv3
  subst hv1 hv2 hv3
  have hl : ((l.take E).drop K).length = E - K := by rw [List.length_drop, List.length_take]; omega
  refine ⟨_, cap - K, by rw [hl], by omega, by omega, ?_⟩
  by_cases hKE : K = E
  · left; rw [List.drop_of_length_le (by rw [List.length_take]; omega)]
  · right
    rcases hg with rfl | ⟨b, o, hao, hb, hc⟩
    · simp at hE; omega
    · cases hao
      rw [if_neg (by omega), Addr.add_lit]
      refine ⟨b, o + K, rfl, hb, fun j hj => ?_⟩
      rw [hl] at hj
      rw [Nat.add_assoc, hc (K + j) (by omega)]
      simp
theorem cell_later {w w' : World} {b o : Nat} {v : Value} (hb : Below w.heap.size w w') (h : w.cell? ⟨b, o, none⟩ = some v) : w'.cell? ⟨b, o, none⟩ = some v := by
  have := World.block_lt_of_cell? w _ h
  rw [hb.cell (p := ⟨b, o, none⟩) this]; exact h
theorem tk_snoc (l : List UInt8) (k : Nat) (hk : k < l.length) : l.take (k + 1) = l.take k ++ [l[k]] := by
  rw [List.take_add_one, List.getElem?_eq_getElem hk]; rfl
theorem some_ok (ad : Addr) (n c : Nat) : NilOk (.slice (some ad) n c) := fun _ h => by injection h with h; cases h
/-- Block g holds the octets l, and may be written. -/
def Blk (w : World) (g : Nat) (l : List UInt8) : Prop := ∃ C, w.heap[g]? = some (.cells C 5 (0, 0)) ∧ l.length ≤ C.size ∧ C.toList.take l.length = Lib.byteCells l
theorem Blk.lt {w : World} {g : Nat} {l : List UInt8} (h : Blk w g l) : g < w.heap.size := by obtain ⟨C, h1, _⟩ := h; exact lt_of_block h1
theorem Blk.cell {w : World} {g : Nat} {l : List UInt8} (h : Blk w g l) (k : Nat) (hk : k < l.length) : w.cell? ⟨g, k, none⟩ = some (.int .u8 (l[k].toNat : Int)) ∧ w.frozen? ⟨g, k, none⟩ = false := by
  obtain ⟨C, h1, h3, h4⟩ := h
  have h5 : C.toList[k]? = some (.int .u8 (l[k].toNat : Int)) := by
    have h6 : (C.toList.take l.length)[k]? = (Lib.byteCells l)[k]? := by rw [h4]
    rw [List.getElem?_take_of_lt hk] at h6
    rw [h6]; simp [Lib.byteCells, hk]
  constructor
  · simp only [World.cell?, h1]; simpa using h5
  · simp only [World.frozen?, h1]; simp
theorem Blk.set {w : World} {g : Nat} {l : List UInt8} (h : Blk w g l) (k : Nat) (c : UInt8) (n : Int) (hn : n = c.toNat) : Blk (w.setCell ⟨g, k, none⟩ (.int .u8 n)) g (l.set k c) := by
  subst hn
  have hlt := h.lt
  obtain ⟨C, h1, h3, h4⟩ := h
  refine ⟨C.setIfInBounds k (.int .u8 c.toNat), ?_, by simpa using h3, ?_⟩
  · show (w.heap.modify g _)[g]? = _
    have h' : w.heap[g] = .cells C 5 (0, 0) := by simpa [Array.getElem?_eq_getElem hlt] using h1
    rw [Array.getElem?_eq_getElem (by simpa using hlt), Array.getElem_modify_self, h']
    rfl
  · rw [List.length_set, Array.toList_setIfInBounds, List.take_set, h4]
    simp [Lib.byteCells]
theorem set_below {B g k : Nat} {a w : World} {v : Value} (h : Below B a w) (hg : B ≤ g) : Below B a (w.setCell ⟨g, k, none⟩ v) := by
  refine h.trans ⟨rfl, rfl, rfl, by simp [World.setCell], fun j hj => ?_⟩
  have hne : g ≠ j := by omega
  show (w.heap.modify g _)[j]? = _
  rw [Array.getElem?_modify]
  simp [hne]
theorem Blk.in_ {w : World} {g n cap : Nat} {l : List UInt8} (h : Blk w g l) (hn : n = l.length) (hc : n ≤ cap) (h9 : cap ≤ 9223372036854775807) : BIn w (.slice (some ⟨g, 0, none⟩) n cap) l := by
  subst hn
  exact ⟨_, cap, rfl, hc, h9, .inr ⟨g, 0, rfl, h.lt, fun j hj => by rw [Nat.zero_add]; exact (h.cell j hj).1⟩⟩
theorem Blk.made (w : World) (n : Nat) : Blk (w.alloc (.cells (madeCells #[.int .u8 0] n) 5)) w.heap.size (List.replicate n 0) := by
  refine ⟨_, heap_alloc_new w _, by simp [madeCells], ?_⟩
  rw [List.length_replicate]
  refine List.ext_getElem (by simp [madeCells, Lib.byteCells]) fun j h1 h2 => ?_
  simp [madeCells, Lib.byteCells, Nat.mod_one]
theorem str_no {a b : List UInt8} (h : a ≠ b) : ¬ (str a).toList = (str b).toList ∧ ((str a).toList == (str b).toList) = false ∧ ((str a).toList != (str b).toList) = true := by
  rw [str_toList, str_toList]
  have h2 : (a == b) = false := beq_eq_false_iff_ne.2 h
  exact ⟨h, h2, by rw [bne, h2]; rfl⟩

end Go.Proofs.Ytgfgafondiipoaa
