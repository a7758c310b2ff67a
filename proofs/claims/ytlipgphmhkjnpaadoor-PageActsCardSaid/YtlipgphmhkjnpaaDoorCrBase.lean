/- What lies below, out of the texts of the layers under this one: CrJ, CrP1, CrP2, CrP3, CrR, DvB. -/
import Derived.Test.YtlipgphmhkjnpaaDoorProg
import Derived.WalkKit
import Derived.ProofKit
import Derived.Lib.UnsafeStr
import Derived.Lib.BufferRead
import Derived.Lib.Hide
import Derived.Lib.SlBytesConst
import Derived.Lib.ConvBytes
import Derived.Laws.AppendOwnNone
import Derived.Laws.Rows
import Derived.Laws.Tables
import Derived.Deep.DeepCutAuto
import Derived.Deep.CutBlock
import Derived.LoopTactic
import Derived.Deep.OwnRows
import Derived.BigQuiet
import Derived.Test.YtlipgphmhkjnpaaDoorCrMath
import Derived.Laws.BitsAllLaws
import Derived.Lib.AppendZerosOnto
import Derived.Deep.RegionHeld3
namespace Go.Proofs.YtlipgphmhkjnpaaDoor
open Go.RowKit

/-- A string of a list of octets, behind a name that the walk leaves alone. -/
def str (l : List UInt8) : ByteArray := ⟨l.toArray⟩
theorem str_list (l : List UInt8) : (str l).data.toList = l := by simp [str]
theorem str_of (s : ByteArray) : str s.data.toList = s := by obtain ⟨⟨l⟩⟩ := s; rfl
theorem str_size (l : List UInt8) : (str l).size = l.length := by rw [Lib.size_eq, str_list]
theorem str_inj {a b : List UInt8} (h : str a = str b) : a = b := by rw [← str_list a, h, str_list]
theorem str_toList (l : List UInt8) : (str l).toList = l := by rw [Lib.toList_data, str_list]
theorem bytes_info : (Tryd.prog.info? 5).map (fun i => (i.zero, i.size, i.bytes)) = some (some (.int .u8 0), 1, 1) := by kernel_rfl
/-- v is a slice of the call's own (the call began in W), and holds the octets l; below W nothing has turned. -/
def Buf (W w : World) (v : Value) (l : List UInt8) : Prop := w.ownsRow W.heap.size 5 1 v l.length (Lib.byteCells l) ∧ Below W.heap.size W w
theorem Buf.below {W w : World} {v : Value} {l : List UInt8} (h : Buf W w v l) : Below W.heap.size W w := h.2
theorem Buf.nil (W : World) : Buf W W (.slice none 0 0) [] := ⟨World.ownsRow_nil _ _ _ _, Below.refl _ _⟩
theorem Buf.nil_of {W w : World} (h : Below W.heap.size W w) : Buf W w (.slice none 0 0) [] := ⟨World.ownsRow_nil _ _ _ _, h⟩
theorem Buf.alloc {W w : World} {v : Value} {l : List UInt8} (h : Buf W w v l) (o : Obj) : Buf W (w.alloc o) v l := ⟨h.1.alloc o, h.2.alloc h.2.size o⟩
theorem Buf.drew {W w : World} {v : Value} {l : List UInt8} (h : Buf W w v l) : Buf W w.drew v l := ⟨h.1, h.2.drew⟩
/-- Behind a call that leaves all that was as it was. -/
theorem Buf.after {W w w' : World} {v : Value} {l : List UInt8} (h : Buf W w v l) (hb : Below w.heap.size w w') : Buf W w' v l := by
  refine ⟨⟨h.1.1, ?_⟩, h.2.trans (hb.mono h.2.size)⟩
  rcases h.1.2 with h0 | ⟨g, cap, cur, hv, hg, hh, rest⟩
  · exact .inl h0
  · exact .inr ⟨g, cap, cur, hv, hg, by rw [hb.block g (lt_of_block hh)]; exact hh, rest⟩
theorem Buf.cells {W w : World} {v : Value} {l : List UInt8} (h : Buf W w v l) : (v = .slice none 0 0 ∧ l = []) ∨ ∃ g cap, v = .slice (some ⟨g, 0, none⟩) l.length cap ∧ ∀ j (hj : j < l.length), w.cell? ⟨g, j, none⟩ = some (.int .u8 (l[j].toNat : Int)) := by
  rcases h.1.2 with ⟨hv, h0⟩ | ⟨g, cap, cur, hv, hg, hh, h1, h2, h3, h4⟩
  · exact .inl ⟨hv, List.eq_nil_of_length_eq_zero h0⟩
  · refine .inr ⟨g, cap, hv, fun j hj => ?_⟩
    have h5 : cur.toList[j]? = some (.int .u8 (l[j].toNat : Int)) := by
      have h6 : (cur.toList.take (l.length * 1))[j]? = (Lib.byteCells l)[j]? := by rw [h4]
      rw [List.getElem?_take_of_lt (by omega)] at h6
      rw [h6]; simp [Lib.byteCells, hj]
    simp only [World.cell?, hh]
    simpa using h5
/-- 'string(b)'. -/
theorem Buf.string {W w : World} {v : Value} {l : List UInt8} (h : Buf W w v l) : (convert 23 9 v).run Tryd.prog w = .ok (.string (str l)) w := by
  rcases h.cells with ⟨rfl, rfl⟩ | ⟨g, cap, rfl, hc⟩
  · exact Lib.run_convert_nil_bytes w _ _ _ 0 Tryd.underlying23 Tryd.underlying5 Tryd.underlying9
  · exact run_convert_bytes_back w _ _ _ ⟨g, 0, none⟩ cap l Tryd.underlying23 Tryd.underlying5 Tryd.underlying9 (fun j hj => by
      rw [Addr.add_lit, Nat.zero_add]
      exact hc j hj)
theorem bt5 {a b c : World} (h : Below a.heap.size a b) (h' : Below b.heap.size b c) : Below a.heap.size a c := h.trans (h'.mono h.size)
theorem str_eq {a : ByteArray} {l : List UInt8} (h : a.data.toList = l) : a = str l := by rw [← h, str_of]
theorem list_no {a : ByteArray} {l : List UInt8} (h : a.data.toList ≠ l) : ¬ a.toList = l ∧ (a.toList == l) = false ∧ (a.toList != l) = true := by
  rw [Lib.toList_data]
  have h2 : (a.data.toList == l) = false := beq_eq_false_iff_ne.2 h
  exact ⟨h, h2, by rw [bne, h2]; rfl⟩
/-- v reads as the octets l. -/
def BIn (w : World) (v : Value) (l : List UInt8) : Prop := ∃ ao cap, v = .slice ao l.length cap ∧ l.length ≤ cap ∧ cap ≤ 9223372036854775807 ∧ (l = [] ∨ ∃ b o, ao = some ⟨b, o, none⟩ ∧ b < w.heap.size ∧ ∀ j (hj : j < l.length), w.cell? ⟨b, o + j, none⟩ = some (.int .u8 (l[j].toNat : Int)))
theorem BIn.later {w w' : World} {v : Value} {l : List UInt8} (h : BIn w v l) (hb : Below w.heap.size w w') : BIn w' v l := by
  obtain ⟨ao, cap, hv, h1, h2, h⟩ := h
  refine ⟨ao, cap, hv, h1, h2, ?_⟩
  rcases h with h | ⟨b, o, h1, h2, h3⟩
  · exact .inl h
  · exact .inr ⟨b, o, h1, Nat.lt_of_lt_of_le h2 hb.size, fun j hj => by rw [hb.cell (p := ⟨b, o + j, none⟩) h2]; exact h3 j hj⟩
/-- The first n octets as a text. -/
theorem BIn.text {w : World} {b o cap : Nat} {l : List UInt8} (h : ∀ j (hj : j < l.length), w.cell? ⟨b, o + j, none⟩ = some (.int .u8 (l[j].toNat : Int))) (n : Nat) (hn : n ≤ l.length) :
    (convert 23 9 (.slice (some ⟨b, o, none⟩) n cap)).run Tryd.prog w = .ok (.string (str (l.take n))) w := by
  have hl : (l.take n).length = n := by rw [List.length_take]; omega
  have := run_convert_bytes_back (P := Tryd.prog) w 23 9 5 ⟨b, o, none⟩ cap (l.take n) Tryd.underlying23 Tryd.underlying5 Tryd.underlying9 (fun j hj => by
    rw [Addr.add_lit, h j (by omega)]
    simp)
  rw [hl] at this
  exact this
/-- A slice without a block has no room. -/
def NilOk (v : Value) : Prop := ∀ c, v = .slice none 0 c → c = 0
theorem nil_ok (g n c : Nat) : NilOk (.slice (some ⟨g, 0, none⟩) n c) := fun _ h => by injection h with h; cases h
/-- A constant's octets, behind their conversion. -/
theorem octets_block (w : World) (C : Array Value) (l : List UInt8) (hC : C.toList = Lib.byteCells l) (hl : l.length ≤ 1000000) : ∃ W1, (convert 23 23 (.slice (some ⟨w.heap.size, 0, none⟩) l.length l.length)).run Tryd.prog (w.alloc (.cells C 5)) = .ok (.slice (some ⟨w.heap.size, 0, none⟩) l.length l.length) W1 ∧
    BIn W1 (.slice (some ⟨w.heap.size, 0, none⟩) l.length l.length) l ∧ Below w.heap.size w W1 := by
  refine ⟨_, Lib.run_convert_bytes_const w _ _ C l.length l.length Tryd.underlying23 Tryd.underlying5, ⟨_, _, rfl, Nat.le_refl _, by omega, .inr ⟨w.heap.size, 0, rfl, by simp, fun j hj => ?_⟩⟩, (Below.refl _ w).alloc (Nat.le_refl _) _⟩
  rw [Nat.zero_add, World.cell?_alloc_mark, ← Array.getElem?_toList, hC]
  simp [Lib.byteCells, hj]
/-- 'make([]byte, n)'. -/
theorem octets_made (w : World) (n : Nat) (hn : n ≤ 1000000) : BIn (w.alloc (.cells (madeCells #[.int .u8 0] n) 5)) (.slice (some ⟨w.heap.size, 0, none⟩) n n) (List.replicate n 0) := by
  have hl : (List.replicate n (0 : UInt8)).length = n := List.length_replicate
  refine ⟨_, n, by rw [hl], by rw [hl]; exact Nat.le_refl _, by omega, .inr ⟨w.heap.size, 0, rfl, by simp, fun j hj => ?_⟩⟩
  rw [hl] at hj
  rw [Nat.zero_add, World.cell?_alloc_at _ _ _ _ rfl]
  simp [madeCells, hj, Nat.mod_one]
/-- '[]byte{}'. -/
theorem Buf.none_ (W w : World) (hb : Below W.heap.size W w) : Buf W (w.alloc (.cells #[] 5)) (.slice (some ⟨w.heap.size, 0, none⟩) 0 0) [] :=
  ⟨World.ownsRow_made w #[] 0 hb.size (by decide) rfl, hb.alloc hb.size _⟩
theorem Buf.bin {W w : World} {v : Value} {l : List UInt8} (h : Buf W w v l) (hv : v ≠ .slice none 0 0) : BIn w v l ∧ NilOk v := by
  rcases h.1.2 with ⟨h0, _⟩ | ⟨g, cap, cur, hv', hg, hh, h1, h2, h3, h4⟩
  · exact absurd h0 hv
  · refine ⟨⟨_, cap, hv', h1, by unfold maxLen at h2; omega, .inr ⟨g, 0, rfl, lt_of_block hh, fun j hj => ?_⟩⟩, by rw [hv']; exact nil_ok g _ _⟩
    have h5 : cur.toList[j]? = some (.int .u8 (l[j].toNat : Int)) := by
      have h6 : (cur.toList.take (l.length * 1))[j]? = (Lib.byteCells l)[j]? := by rw [h4]
      rw [List.getElem?_take_of_lt (by omega)] at h6
      rw [h6]; simp [Lib.byteCells, hj]
    rw [Nat.zero_add]
    simp only [World.cell?, hh]
    simpa using h5
/-- 'append(b, c..)'. -/
theorem appBs {ops : Array Oper} {rest : List Oper} {o : Oper} {a : Act} {Q : Exit → Act → World → Prop} {W w : World} {v u : Value} {l m : List UInt8} (h : Buf W w v l) (hu : BIn w u m) (hnil : NilOk u) (hlen : l.length + m.length ≤ 1000000000)
    (hgd : o.guard = none) (s x : Operand) (ho : o.op = .call { callee := .builtin .append, args := #[s, x], argTypes := #[23, 23] })
    (hs : a.eval s = v) (hx : a.eval x = u)
    (hK : ∀ v' w', Buf W w' v' (l ++ m) → (v ≠ .slice none 0 0 → v' ≠ .slice none 0 0) → wpList Tryd.prog ops Q rest (a.put o.dst v') w') : wpList Tryd.prog ops Q (o :: rest) a w := by
  obtain ⟨i0, hi, hz0, hz1, hz2⟩ := info_parts bytes_info
  obtain ⟨ao, cap, rfl, hlc, _, hg⟩ := hu
  cases ao with
  | none =>
    have h0 : m = [] := by
      rcases hg with h | ⟨b, o, h, _⟩
      · exact h
      · cases h
    subst h0
    obtain rfl : cap = 0 := hnil cap rfl
    refine wpList_append_own_none hgd s x _ ho W.heap.size 5 i0 1 Tryd.underlying23 hi v l.length (Lib.byteCells l) hs h.1 hx ?_
    have := hK v w
    rw [List.append_nil] at this
    exact this h id
  | some ad =>
    refine wpList_append_own _ hgd s x _ ho W.heap.size 5 i0 _ 1 1 Tryd.underlying23 hi hz0 hz1 hz2 rfl (by decide) v l.length (Lib.byteCells l) hs h.1 ad m.length cap (Lib.byteCells m) hx (by rw [Lib.byteCells_length]; omega) ?_ ?_ (by unfold maxLen; omega) (by omega) h.2.size (fun v' w' h1 h2 h3 => ?_)
    · intro j c hj
      have hjl : j < m.length := by
        have := (List.getElem?_eq_some_iff.1 hj).1
        rw [Lib.byteCells_length] at this; exact this
      rcases hg with h | ⟨b, o, h, hb, hc⟩
      · subst h; simp at hjl
      · cases h
        rw [Addr.add_lit, hc j hjl]
        rw [← hj]; simp [Lib.byteCells, hjl]
    · intro c hc
      unfold Lib.byteCells at hc
      obtain ⟨d, _, rfl⟩ := List.mem_map.1 hc
      rfl
    · refine hK v' w' ⟨?_, h.2.grown h2 h.2.size (fun k hk => (h.1.lt k hk).1)⟩ (fun hv hv' => hv (h3.1 hv').1)
      have e : Lib.byteCells (l ++ m) = Lib.byteCells l ++ Lib.byteCells m := by simp [Lib.byteCells]
      rw [e, List.length_append]; exact h1
/-- Octets as a text. -/
theorem BIn.all {w : World} {v : Value} {l : List UInt8} (h : BIn w v l) (hn : NilOk v) : (convert 23 9 v).run Tryd.prog w = .ok (.string (str l)) w := by
  obtain ⟨ao, cap, rfl, h1, h2, hg⟩ := h
  rcases hg with rfl | ⟨b, o, rfl, hb, hc⟩
  · cases ao with
    | none =>
      obtain rfl : cap = 0 := hn cap rfl
      exact (Buf.nil w).string
    | some ad => exact run_convert_bytes_back w _ _ _ ad cap [] Tryd.underlying23 Tryd.underlying5 Tryd.underlying9 (fun j hj => by cases hj)
  · have := BIn.text (w := w) (cap := cap) hc l.length (Nat.le_refl _)
    rw [List.take_length] at this
    exact this
/-- The first n octets. -/
theorem BIn.cut {w : World} {ao : Option Addr} {m cap : Nat} {l : List UInt8} (h : BIn w (.slice ao m cap) l) (n : Nat) (hn : n ≤ l.length) : BIn w (.slice ao n cap) (l.take n) := by
  obtain ⟨ao', cap', hv, h1, h2, hg⟩ := h
  injection hv with hv1 hv2 hv3
  subst hv1 hv2 hv3
  have hl : (l.take n).length = n := by rw [List.length_take]; omega
  refine ⟨ao, cap, by rw [hl], by omega, h2, ?_⟩
  rcases hg with rfl | ⟨b, o, rfl, hb, hc⟩
  · left; simp
  · refine .inr ⟨b, o, rfl, hb, fun j hj => ?_⟩
    rw [hl] at hj
    rw [hc j (by omega)]
    simp
theorem bin_nil (w : World) : BIn w (.slice none 0 0) [] ∧ NilOk (.slice none 0 0) :=
  ⟨⟨none, 0, rfl, Nat.le_refl _, by decide, .inl rfl⟩, fun c h => by injection h with _ _ h; exact h.symm⟩
theorem own_in {w : World} {B : Nat} {v : Value} {l : List UInt8} (h : w.ownsRow B 5 1 v l.length (Lib.byteCells l)) : BIn w v l ∧ NilOk v := by
  rcases h.2 with ⟨hv, h0⟩ | ⟨g, cap, cur, hv', hg, hh, h1, h2, h3, h4⟩
  · have : l = [] := by
      cases l with
      | nil => rfl
      | cons c t => simp at h0
    subst this hv
    exact bin_nil w
  · refine ⟨⟨_, cap, hv', h1, by unfold maxLen at h2; omega, .inr ⟨g, 0, rfl, lt_of_block hh, fun j hj => ?_⟩⟩, by rw [hv']; exact nil_ok g _ _⟩
    have h5 : cur.toList[j]? = some (.int .u8 (l[j].toNat : Int)) := by
      have h6 : (cur.toList.take (l.length * 1))[j]? = (Lib.byteCells l)[j]? := by rw [h4]
      rw [List.getElem?_take_of_lt (by omega)] at h6
      rw [h6]; simp [Lib.byteCells, hj]
    rw [Nat.zero_add]
    simp only [World.cell?, hh]
    simpa using h5
theorem Buf.in_ {W w : World} {v : Value} {l : List UInt8} (h : Buf W w v l) : BIn w v l ∧ NilOk v := own_in h.1
/-- v reads as a list of octets' lists. -/
def BsIn (w : World) (v : Value) (ls : List (List UInt8)) : Prop := ∃ ao cap, v = .slice ao ls.length cap ∧ ls.length ≤ cap ∧ cap ≤ 9223372036854775807 ∧
  (ls = [] ∨ ∃ b o, ao = some ⟨b, o, none⟩ ∧ b < w.heap.size ∧ ∀ j (hj : j < ls.length), ∃ u, w.cell? ⟨b, o + j, none⟩ = some u ∧ BIn w u ls[j] ∧ NilOk u)
theorem BsIn.later {w w' : World} {v : Value} {ls : List (List UInt8)} (h : BsIn w v ls) (hb : Below w.heap.size w w') : BsIn w' v ls := by
  obtain ⟨ao, cap, hv, h1, h2, h⟩ := h
  refine ⟨ao, cap, hv, h1, h2, ?_⟩
  rcases h with h | ⟨b, o, h1, h2, h3⟩
  · exact .inl h
  · refine .inr ⟨b, o, h1, Nat.lt_of_lt_of_le h2 hb.size, fun j hj => ?_⟩
    obtain ⟨u, hu, hbin, hnil⟩ := h3 j hj
    exact ⟨u, by rw [hb.cell (p := ⟨b, o + j, none⟩) h2]; exact hu, hbin.later hb, hnil⟩
/-- A literal row of octets. -/
theorem bin_lit (w : World) (C : Array Value) (l : List UInt8) (n : Nat) (hn : l.length = n) (hC : C.toList = Lib.byteCells l) (hl : n ≤ 1000000) : BIn (w.alloc (.cells C 5)) (.slice (some ⟨w.heap.size, 0, none⟩) n n) l := by
  refine ⟨_, n, by rw [hn], by rw [hn]; exact Nat.le_refl _, by omega, .inr ⟨w.heap.size, 0, rfl, by simp, fun j hj => ?_⟩⟩
  rw [Nat.zero_add, World.cell?_alloc_at _ _ _ _ rfl, ← Array.getElem?_toList, hC]
  simp [Lib.byteCells, hj]
/-- A literal row of lists of octets. -/
theorem bs_lit (w : World) (C : Array Value) (ls : List (List UInt8)) (n : Nat) (hn : ls.length = n) (hl : n ≤ 1000000) (h : ∀ j (hj : j < ls.length), ∃ u, C[j]? = some u ∧ BIn w u ls[j] ∧ NilOk u) : BsIn (w.alloc (.cells C 23)) (.slice (some ⟨w.heap.size, 0, none⟩) n n) ls := by
  refine ⟨_, n, by rw [hn], by rw [hn]; exact Nat.le_refl _, by omega, .inr ⟨w.heap.size, 0, rfl, by simp, fun j hj => ?_⟩⟩
  obtain ⟨u, hu, hb, hnil⟩ := h j hj
  refine ⟨u, ?_, hb.later ((Below.refl _ w).alloc (Nat.le_refl _) _), hnil⟩
  rw [Nat.zero_add, World.cell?_alloc_at _ _ _ _ rfl]; exact hu
/-- A part of what came in. -/
theorem BIn.mid {w : World} {ad : Addr} {m cap : Nat} {l : List UInt8} (h : BIn w (.slice (some ad) m cap) l) (K E : Nat) (hK : K ≤ E) (hE : E ≤ l.length) : BIn w (.slice (if cap = K then some ad else some (ad.add K)) (E - K) (cap - K)) ((l.take E).drop K) := by
  obtain ⟨ao', cap', hv, h1, h2, hg⟩ := h
  injection hv with hv1 hv2 hv3
  subst hv1 hv2 hv3
  have hl : ((l.take E).drop K).length = E - K := by rw [List.length_drop, List.length_take]; omega
  refine ⟨_, cap - K, by rw [hl], by omega, by omega, ?_⟩
  by_cases hKE : K = E
  · left; rw [List.drop_of_length_le (by rw [List.length_take]; omega)]
  · right
    rcases hg with rfl | ⟨b, o, hao, hb, hc⟩
    · simp at hE; omega
    · cases hao
      rw [if_neg (by omega), Addr.add_lit]
      refine ⟨b, o + K, rfl, hb, fun j hj => ?_⟩
      rw [hl] at hj
      rw [Nat.add_assoc, hc (K + j) (by omega)]
      simp
theorem cell_later {w w' : World} {b o : Nat} {v : Value} (hb : Below w.heap.size w w') (h : w.cell? ⟨b, o, none⟩ = some v) : w'.cell? ⟨b, o, none⟩ = some v := by
  have := World.block_lt_of_cell? w _ h
  rw [hb.cell (p := ⟨b, o, none⟩) this]; exact h
theorem tk_snoc (l : List UInt8) (k : Nat) (hk : k < l.length) : l.take (k + 1) = l.take k ++ [l[k]] := by
  rw [List.take_add_one, List.getElem?_eq_getElem hk]; rfl
theorem some_ok (ad : Addr) (n c : Nat) : NilOk (.slice (some ad) n c) := fun _ h => by injection h with h; cases h
/-- Block g holds the octets l, and may be written. -/
def Blk (w : World) (g : Nat) (l : List UInt8) : Prop := ∃ C, w.heap[g]? = some (.cells C 5 (0, 0)) ∧ l.length ≤ C.size ∧ C.toList.take l.length = Lib.byteCells l
theorem Blk.lt {w : World} {g : Nat} {l : List UInt8} (h : Blk w g l) : g < w.heap.size := by obtain ⟨C, h1, _⟩ := h; exact lt_of_block h1
theorem Blk.cell {w : World} {g : Nat} {l : List UInt8} (h : Blk w g l) (k : Nat) (hk : k < l.length) : w.cell? ⟨g, k, none⟩ = some (.int .u8 (l[k].toNat : Int)) ∧ w.frozen? ⟨g, k, none⟩ = false := by
  obtain ⟨C, h1, h3, h4⟩ := h
  have h5 : C.toList[k]? = some (.int .u8 (l[k].toNat : Int)) := by
    have h6 : (C.toList.take l.length)[k]? = (Lib.byteCells l)[k]? := by rw [h4]
    rw [List.getElem?_take_of_lt hk] at h6
    rw [h6]; simp [Lib.byteCells, hk]
  constructor
  · simp only [World.cell?, h1]; simpa using h5
  · simp only [World.frozen?, h1]; simp
theorem Blk.set {w : World} {g : Nat} {l : List UInt8} (h : Blk w g l) (k : Nat) (c : UInt8) (n : Int) (hn : n = c.toNat) : Blk (w.setCell ⟨g, k, none⟩ (.int .u8 n)) g (l.set k c) := by
  subst hn
  have hlt := h.lt
  obtain ⟨C, h1, h3, h4⟩ := h
  refine ⟨C.setIfInBounds k (.int .u8 c.toNat), ?_, by simpa using h3, ?_⟩
  · show (w.heap.modify g _)[g]? = _
    have h' : w.heap[g] = .cells C 5 (0, 0) := by simpa [Array.getElem?_eq_getElem hlt] using h1
    rw [Array.getElem?_eq_getElem (by simpa using hlt), Array.getElem_modify_self, h']
    rfl
  · rw [List.length_set, Array.toList_setIfInBounds, List.take_set, h4]
    simp [Lib.byteCells]
theorem set_below {B g k : Nat} {a w : World} {v : Value} (h : Below B a w) (hg : B ≤ g) : Below B a (w.setCell ⟨g, k, none⟩ v) := by
  refine h.trans ⟨rfl, rfl, rfl, by simp [World.setCell], fun j hj => ?_⟩
  have hne : g ≠ j := by omega
  show (w.heap.modify g _)[j]? = _
  rw [Array.getElem?_modify]
  simp [hne]
theorem Blk.in_ {w : World} {g n cap : Nat} {l : List UInt8} (h : Blk w g l) (hn : n = l.length) (hc : n ≤ cap) (h9 : cap ≤ 9223372036854775807) : BIn w (.slice (some ⟨g, 0, none⟩) n cap) l := by
  subst hn
  exact ⟨_, cap, rfl, hc, h9, .inr ⟨g, 0, rfl, h.lt, fun j hj => by rw [Nat.zero_add]; exact (h.cell j hj).1⟩⟩
theorem Blk.made (w : World) (n : Nat) : Blk (w.alloc (.cells (madeCells #[.int .u8 0] n) 5)) w.heap.size (List.replicate n 0) := by
  refine ⟨_, heap_alloc_new w _, by simp [madeCells], ?_⟩
  rw [List.length_replicate]
  refine List.ext_getElem (by simp [madeCells, Lib.byteCells]) fun j h1 h2 => ?_
  simp [madeCells, Lib.byteCells, Nat.mod_one]
theorem str_no {a b : List UInt8} (h : a ≠ b) : ¬ (str a).toList = (str b).toList ∧ ((str a).toList == (str b).toList) = false ∧ ((str a).toList != (str b).toList) = true := by
  rw [str_toList, str_toList]
  have h2 : (a == b) = false := beq_eq_false_iff_ne.2 h
  exact ⟨h, h2, by rw [bne, h2]; rfl⟩

end Go.Proofs.YtlipgphmhkjnpaaDoor

namespace Go.Proofs.YtlipgphmhkjnpaaDoor
open Go.RowKit

/-- The package's table. -/
def CTab (w : World) : Prop := ∀ j, j < 16 → w.cell? ⟨0, j, none⟩ = some (.int .u32 ((Cr.tab.getD j 0 : Nat) : Int))
theorem CTab.later {w w' : World} (h : CTab w) (hb : Below w.heap.size w w') : CTab w' := fun j hj => cell_later hb (h j hj)

theorem fl_snoc (ls : List (List UInt8)) (k : Nat) (hk : k < ls.length) : (ls.take (k + 1)).flatten = (ls.take k).flatten ++ ls[k] := by
  rw [List.take_add_one, List.getElem?_eq_getElem hk, List.flatten_append]; simp
theorem xr (a b : Nat) (ha : a < 4294967296) (hb : b < 4294967296) (c : Nat) (h : a ^^^ b = c) : bits .xor .u32 (a : Int) (b : Int) = (c : Int) := by
  rw [u32_xor_nat a b ha hb, h]
theorem an15 (a : Nat) (ha : a < 4294967296) (c : Nat) (h : a % 16 = c) : bits .and .u32 (a : Int) 15 = (c : Int) := by
  have := u32_and_nat a 15 ha (by decide)
  rw [nat_mask4, h] at this
  exact this
theorem mx (a : Nat) (ha : a < 4294967296) (c : Nat) (h : a ^^^ Cr.ones = c) : bits .xor .u32 IntKind.u32.max (a : Int) = (c : Int) := by
  have := u32_xor_nat Cr.ones a (by decide) ha
  rw [Nat.xor_comm, h] at this
  exact this

set_option maxHeartbeats 1600000 in
set_option maxRecDepth 100000 in
theorem More_w (s : Nat) (v : Value) (ls : List (List UInt8)) (w : World) (hs : s < 4294967296) (h : BsIn w v ls) (hT : CTab w) :
    Calls Tryd.prog 60 #[.int .u32 s, v] w fun e w' => e = .returned (.int .u32 ((Cr.more s ls.flatten : Nat) : Int)) ∧ w = w' := by
  obtain ⟨ao, cap, rfl, hlc, hc9, hg⟩ := h
  obtain ⟨L, hL⟩ : ∃ L, L = ls.length := ⟨_, rfl⟩
  have HL := Lib.hid hL
  have HG := Lib.hid hg
  have HT := Lib.hid hT
  rw [← hL] at hlc ⊢
  obtain ⟨r0, hr0⟩ : ∃ r0, s ^^^ Cr.ones = r0 := ⟨_, rfl⟩
  have hm0 := mx s hs r0 hr0
  have HR0 := Lib.hid hr0
  have hr0l : r0 < 4294967296 := by rw [← hr0]; exact Cr.xor_lt hs (by decide)
  clear hL hg hT hr0
  have hsg : IntKind.u32.signed = false := rfl
  go_enter Tryd.func60, Tryd.ntmps60
  go_wp2_with fail
  go_loop [5, 14] (fun r i => ∃ k R : Nat, k ≤ L ∧ i = .int .i64 k ∧ r = .int .u32 (R : Int) ∧ R < 4294967296 ∧ Hid (R = Cr.run r0 (ls.take k).flatten)) (fun _ i => L - (intOf i).toNat)
  case atStart => exact ⟨0, r0, Nat.zero_le _, rfl, rfl, hr0l, Lib.hid rfl⟩
  case round =>
    obtain ⟨k, R, hk, rfl, rfl, hRl, HR⟩ := hrel
    by_cases hlt : k < L
    · have hki : (k : Int) < L := by omega
      obtain ⟨b, o, hao, hbl, hcell⟩ := HG.out.resolve_left (fun x => by have := HL.out; rw [x] at this; simp at this; omega)
      subst hao
      have k0 : k < ls.length := by rw [← HL.out]; exact hlt
      obtain ⟨u, hu, hbin, hnil⟩ := hcell k k0
      have HS := Lib.hid (fl_snoc ls k k0)
      clear hcell hnil
      generalize ls[k] = p at *
      obtain ⟨a2, c2, rfl, hpc, hp9, hpg⟩ := hbin
      obtain ⟨pl, hpl⟩ : ∃ pl, pl = p.length := ⟨_, rfl⟩
      have HPL := Lib.hid hpl
      have HPG := Lib.hid hpg
      rw [← hpl] at hu hpc
      clear hpg hpl
      go_wp2_with fail
      go_loop [5, 20] (fun r i => ∃ j X : Nat, j ≤ pl ∧ i = .int .i64 j ∧ r = .int .u32 (X : Int) ∧ X < 4294967296 ∧ Hid (X = Cr.run R (p.take j))) (fun _ i => pl - (intOf i).toNat)
      case atStart => exact ⟨0, R, Nat.zero_le _, rfl, rfl, hRl, Lib.hid rfl⟩
      case round =>
        obtain ⟨j, X, hj, rfl, rfl, hXl, HX⟩ := hrel
        by_cases hjl : j < pl
        · have hji : (j : Int) < pl := by omega
          obtain ⟨b2, o2, hao2, hbl2, hcell2⟩ := HPG.out.resolve_left (fun x => by have := HPL.out; rw [x] at this; simp at this; omega)
          subst hao2
          have j0 : j < p.length := by rw [← HPL.out]; exact hjl
          have hc := hcell2 j j0
          have HS2 := Lib.hid (tk_snoc p j j0)
          clear hcell2
          generalize p[j] = c at *
          have hcl : c.toNat < 256 := c.toNat_lt
          obtain ⟨n, hn⟩ : ∃ n, c.toNat = n := ⟨_, rfl⟩
          have HST := Lib.hid (Cr.st_tab X c.toNat)
          rw [hn] at hc hcl HST
          have HN := Lib.hid hn
          clear hn
          obtain ⟨X1, hX1⟩ : ∃ X1, X ^^^ n = X1 := ⟨_, rfl⟩
          have hx1 := xr X n hXl (by omega) X1 hX1
          have hX1l : X1 < 4294967296 := by rw [← hX1]; exact Cr.xor_lt hXl (by omega)
          rw [hX1] at HST
          obtain ⟨d1, hd1⟩ : ∃ d1, X1 % 16 = d1 := ⟨_, rfl⟩
          have ha1 := an15 X1 hX1l d1 hd1
          have hd1l : d1 < 16 := by rw [← hd1]; exact Nat.mod_lt _ (by decide)
          have ht1 := HT.out d1 hd1l
          have ht1l := Cr.tab_lt d1 hd1l
          rw [hd1] at HST
          generalize Cr.tab.getD d1 0 = T1 at *
          obtain ⟨q1, hq1⟩ : ∃ q1, X1 / 16 = q1 := ⟨_, rfl⟩
          have hs1 : (X1 : Int) / 16 = (q1 : Int) := by omega
          have hq1l : q1 < 4294967296 := by omega
          rw [hq1] at HST
          obtain ⟨X2, hX2⟩ : ∃ X2, q1 ^^^ T1 = X2 := ⟨_, rfl⟩
          have hx2 := xr q1 T1 hq1l ht1l X2 hX2
          have hX2l : X2 < 4294967296 := by rw [← hX2]; exact Cr.xor_lt hq1l ht1l
          rw [hX2] at HST
          obtain ⟨d2, hd2⟩ : ∃ d2, X2 % 16 = d2 := ⟨_, rfl⟩
          have ha2 := an15 X2 hX2l d2 hd2
          have hd2l : d2 < 16 := by rw [← hd2]; exact Nat.mod_lt _ (by decide)
          have ht2 := HT.out d2 hd2l
          have ht2l := Cr.tab_lt d2 hd2l
          rw [hd2] at HST
          generalize Cr.tab.getD d2 0 = T2 at *
          obtain ⟨q2, hq2⟩ : ∃ q2, X2 / 16 = q2 := ⟨_, rfl⟩
          have hs2 : (X2 : Int) / 16 = (q2 : Int) := by omega
          have hq2l : q2 < 4294967296 := by omega
          rw [hq2] at HST
          obtain ⟨X3, hX3⟩ : ∃ X3, q2 ^^^ T2 = X3 := ⟨_, rfl⟩
          have hx3 := xr q2 T2 hq2l ht2l X3 hX3
          have hX3l : X3 < 4294967296 := by rw [← hX3]; exact Cr.xor_lt hq2l ht2l
          rw [hX3] at HST
          have HX3 : Hid (X3 = Cr.run R (p.take (j + 1))) := Lib.hid (by rw [HS2.out, Cr.run_append, ← HX.out, ← HST.out, ← HN.out]; rfl)
          clear hX1 hd1 hq1 hX2 hd2 hq2 hX3
          go_wp2_with fail
          go_round
          case rel => exact ⟨j + 1, X3, by omega, by go_num, rfl, hX3l, HX3⟩
          case measure => simp [intOf]; omega
        · have hji : ¬ (j : Int) < pl := by omega
          have hje : j = pl := by omega
          have HE : Hid (X = Cr.run r0 (ls.take (k + 1)).flatten) := Lib.hid (by
            rw [HX.out, HS.out, Cr.run_append, ← HR.out, hje, HPL.out, List.take_length])
          clear hj hjl hje
          go_wp2_with fail
          go_round
          case rel => exact ⟨k + 1, X, by omega, by go_num, rfl, hXl, HE⟩
          case measure => simp [intOf]; omega
    · have hki : ¬ (k : Int) < L := by omega
      have HE : Hid (R ^^^ Cr.ones = Cr.more s ls.flatten) := Lib.hid (by
        rw [HR.out, show k = ls.length by rw [← HL.out]; omega, List.take_length]
        unfold Cr.more
        rw [HR0.out])
      obtain ⟨z, hz⟩ : ∃ z, R ^^^ Cr.ones = z := ⟨_, rfl⟩
      have hmz := mx R hRl z hz
      rw [hz] at HE
      clear hz hlt hk
      go_wp2_with fail
      go_ret
      exact ⟨by rw [← HE.out]; rfl, rfl⟩

set_option maxHeartbeats 1600000 in
theorem Sum_w (v : Value) (ls : List (List UInt8)) (w : World) (h : BsIn w v ls) (hT : CTab w) :
    Calls Tryd.prog 50 #[v] w fun e w' => e = .returned (.int .u32 ((Cr.sum ls.flatten : Nat) : Int)) ∧ w = w' := by
  have c := More_w 0 v ls w (by decide) h hT
  rw [Cr.more_zero] at c
  generalize Cr.sum ls.flatten = z at *
  go_enter Tryd.func50, Tryd.ntmps50
  go_wp2_with fail
  refine c.mono ?_
  rintro e w1 ⟨rfl, rfl⟩
  go_wp2_with fail
  go_ret
  exact ⟨rfl, rfl⟩
end Go.Proofs.YtlipgphmhkjnpaaDoor

namespace Go.Proofs.YtlipgphmhkjnpaaDoor
open Go.RowKit

set_option maxHeartbeats 1600000 in
set_option maxRecDepth 100000 in
theorem GrowB_w (n : Nat) (w : World) (hn : n ≤ 1000000000) :
    Calls Tryd.prog 59 #[.slice none 0 0, .int .i64 n] w fun e w' => ∃ v, e = .returned v ∧ Buf w w' v [] := by
  by_cases h0 : n = 0
  · subst h0
    go_enter Tryd.func59, Tryd.ntmps59
    go_wp2_with fail
    go_ret
    exact ⟨_, rfl, Buf.nil _⟩
  obtain ⟨i0, hi, hz0, hz1, hz2⟩ := info_parts bytes_info
  have hpos : 0 < (n : Int) := by omega
  have hrz := Lib.run_append_grow_zeros w 23 3 23 5 i0 _ .i64 .i64 Tryd.underlying23 Tryd.underlying3 hi hz0 none 0 0 [] (by exact run_firstCells_none w.drew i0.size 0 0 0) n (by omega) (by omega) (by omega) (by omega) (by rw [hz2]; omega) (by rw [hz2]; exact growslice_fits (by omega) (by omega))
  have hcap : grownCap w n 0 5 ≤ maxLen := grownCap_le_maxLen w n 0 5 (by unfold maxLen; omega)
  have hge : n ≤ grownCap w n 0 5 := grownCap_ge w _ _ _
  rw [Nat.zero_add] at hrz
  generalize grownCap w n 0 5 = G at hrz hcap hge
  have hrow : Buf w (w.drew.alloc (.cells (([] : List Value).toArray ++ Builtin.zeroCells (Value.int .u8 0).cells n ++ Builtin.zeroCells (Value.int .u8 0).cells (G - n)) 5)) (.slice (some ⟨w.heap.size, 0, none⟩) 0 G) [] :=
    ⟨World.ownsRow_made w.drew _ G (Nat.le_refl _) hcap (by simp [Builtin.zeroCells, Value.cells]; omega), (Below.refl _ w).drew.alloc (Nat.le_refl _) _⟩
  generalize w.drew.alloc _ = w1 at hrz hrow
  have hG63 : G ≤ 9223372036854775807 := by unfold maxLen at hcap; omega
  clear hcap hi hz0 hz1 hz2 h0
  go_enter Tryd.func59, Tryd.ntmps59
  go_wp2_with (at_builtin; refine Lib.wpList_append_run _ rfl _ _ _ _ rfl _ _ rfl rfl _ _ hrz ?_)
  all_goals (go_ret; exact ⟨_, rfl, hrow⟩)

theorem pre_le (ls : List (List UInt8)) (k : Nat) : (ls.take k).flatten.length ≤ ls.flatten.length := by
  have : ls.flatten = (ls.take k).flatten ++ (ls.drop k).flatten := by rw [← List.flatten_append, List.take_append_drop]
  rw [this, List.length_append]; omega
set_option maxHeartbeats 3200000 in
set_option maxRecDepth 100000 in
theorem Concat_w (v : Value) (ls : List (List UInt8)) (w : World) (h : BsIn w v ls) (ht : ls.flatten.length ≤ 100000000) :
    Calls Tryd.prog 49 #[v] w fun e w' => ∃ u, e = .returned u ∧ Buf w w' u ls.flatten := by
  obtain ⟨ao, cap, rfl, hlc, hc9, hg⟩ := h
  obtain ⟨L, hL⟩ : ∃ L, L = ls.length := ⟨_, rfl⟩
  have HL := Lib.hid hL
  have HG := Lib.hid hg
  have HTOT := Lib.hid (fun k => Nat.le_trans (pre_le ls k) ht)
  have cG := GrowB_w ls.flatten.length w (by omega)
  rw [← hL] at hlc ⊢
  obtain ⟨T, hT⟩ : ∃ T, T = ls.flatten.length := ⟨_, rfl⟩
  rw [← hT] at cG ht
  have HT := Lib.hid hT
  clear hL hg hT
  go_enter Tryd.func49, Tryd.ntmps49
  go_wp2_with fail
  go_loop [3, 11] (fun z i => ∃ k m : Nat, k ≤ L ∧ i = .int .i64 k ∧ z = .int .i64 m ∧ m ≤ 100000000 ∧ Hid (m = (ls.take k).flatten.length)) (fun _ i => L - (intOf i).toNat)
  case atStart => exact ⟨0, 0, Nat.zero_le _, rfl, rfl, by omega, Lib.hid rfl⟩
  case round =>
    obtain ⟨k, m, hk, rfl, rfl, hm, HM⟩ := hrel
    by_cases hlt : k < L
    · have hki : (k : Int) < L := by omega
      obtain ⟨b, o, hao, hbl, hcell⟩ := HG.out.resolve_left (fun x => by have := HL.out; rw [x] at this; simp at this; omega)
      subst hao
      have k0 : k < ls.length := by rw [← HL.out]; exact hlt
      obtain ⟨u, hu, hbin, hnil⟩ := hcell k k0
      have HS := Lib.hid (fl_snoc ls k k0)
      have hT := HTOT.out (k + 1)
      rw [HS.out, List.length_append] at hT
      clear hcell
      obtain ⟨a2, c2, rfl, hpc, hp9, hpg⟩ := hbin
      obtain ⟨pl, hpl⟩ : ∃ pl, pl = ls[k].length := ⟨_, rfl⟩
      rw [← hpl] at hu hpc
      have HM2 : Hid (m + pl = (ls.take (k + 1)).flatten.length) := Lib.hid (by rw [HS.out, List.length_append, ← HM.out, hpl])
      have hT' : m + pl ≤ 100000000 := by rw [← HM.out, ← hpl] at hT; exact hT
      clear hpg hpl hT hnil
      go_wp2_with fail
      go_round
      case rel => exact ⟨k + 1, m + pl, by omega, by go_num, by go_num, hT', HM2⟩
      case measure => simp [intOf]; omega
    · have hki : ¬ (k : Int) < L := by omega
      have hke : k = L := by omega
      obtain rfl : m = T := by rw [HM.out, HT.out, hke, HL.out, List.take_length]
      clear hlt hk hke
      go_wp2_with fail
      refine cG.mono ?_
      rintro e w1 ⟨v1, rfl, hB1⟩
      clear cG
      go_wp2_with fail
      go_loopw [6, 27] (fun x i wr => ∃ k : Nat, k ≤ L ∧ i = .int .i64 k ∧ Buf w wr x (ls.take k).flatten) (fun _ i _ => L - (intOf i).toNat)
      case atStart => exact ⟨0, Nat.zero_le _, rfl, hB1⟩
      case round =>
        obtain ⟨k, hk, rfl, hB⟩ := hrel
        by_cases hlt : k < L
        · have hki : (k : Int) < L := by omega
          obtain ⟨b, o, hao, hbl, hcell⟩ := HG.out.resolve_left (fun x => by have := HL.out; rw [x] at this; simp at this; omega)
          subst hao
          have k0 : k < ls.length := by rw [← HL.out]; exact hlt
          obtain ⟨u, hu, hbin, hnil⟩ := hcell k k0
          have HS := Lib.hid (fl_snoc ls k k0)
          have hT := HTOT.out (k + 1)
          rw [HS.out, List.length_append] at hT
          clear hcell
          have hbin' := hbin.later hB.2
          have hu' := (hB.2.cell (p := ⟨b, o + k, none⟩) hbl).trans hu
          obtain ⟨pl, hpl⟩ : ∃ pl, pl = ls[k].length := ⟨_, rfl⟩
          generalize ls[k] = p at *
          obtain ⟨a2, c2, rfl, hpc, hp9, hpg⟩ := hbin
          rw [← hpl] at hbin' hu' hpc hnil
          have hlen : (ls.take k).flatten.length + p.length ≤ 1000000000 := by omega
          clear hpg hpl hT hu
          generalize (ls.take k).flatten = pre at *
          go_wp2_with (at_builtin; refine appBs hB hbin' hnil hlen rfl _ _ rfl rfl rfl ?_; intro v' w2 hB2 _)
          go_round
          case rel => exact ⟨k + 1, by omega, by go_num, by rw [HS.out]; exact hB2⟩
          case measure => simp [intOf]; omega
        · have hki : ¬ (k : Int) < L := by omega
          have HE : Hid ((ls.take k).flatten = ls.flatten) := Lib.hid (by rw [show k = ls.length by rw [← HL.out]; omega, List.take_length])
          rw [HE.out] at hB
          clear hlt hk
          go_wp2_with fail
          go_ret
          exact ⟨_, rfl, hB⟩

theorem oct_of (n : Nat) (h : n < 256) : (UInt8.ofNat n).toNat = n := by rw [UInt8.toNat_ofNat', Nat.mod_eq_of_lt h]
/-- A sum's four octets, in a block of their own. -/
theorem le4_in (w : World) (n : Nat) (hn : n < 4294967296) : BIn (w.alloc (.cells #[.int .u8 ((n : Int) % 256), .int .u8 ((n : Int) / 256 % 256), .int .u8 ((n : Int) / 65536 % 256), .int .u8 ((n : Int) / 16777216)] 5)) (.slice (some ⟨w.heap.size, 0, none⟩) 4 4) (Cr.le4 n) := by
  refine bin_lit w _ (Cr.le4 n) 4 rfl ?_ (by decide)
  show [_, _, _, _] = _
  unfold Cr.le4 Lib.byteCells
  simp only [List.map]
  rw [oct_of _ (by omega), oct_of _ (by omega), oct_of _ (by omega), oct_of _ (by omega)]
  rfl
set_option maxHeartbeats 3200000 in
set_option maxRecDepth 100000 in
theorem Frame_w (v : Value) (ls : List (List UInt8)) (w : World) (h : BsIn w v ls) (ht : ls.flatten.length ≤ 100000000) (hT : CTab w) :
    Calls Tryd.prog 30 #[v] w fun e w' => ∃ u, e = .returned u ∧ Buf w w' u (Cr.frame ls.flatten) := by
  have cS := Sum_w v ls w h hT
  have cC := Concat_w v ls w h ht
  have hn := Cr.sum_lt ls.flatten
  have HF : Hid (Cr.frame ls.flatten = ls.flatten ++ Cr.le4 (Cr.sum ls.flatten)) := Lib.hid rfl
  generalize Cr.sum ls.flatten = n at *
  generalize ls.flatten = l at *
  clear h hT
  go_enter Tryd.func30, Tryd.ntmps30
  go_wp2_with fail
  refine cS.mono ?_
  rintro e w1 ⟨rfl, rfl⟩
  clear cS
  go_wp2_with fail
  refine cC.mono ?_
  rintro e w2 ⟨u, rfl, hB⟩
  have h4 := le4_in w2 n hn
  have hlen : l.length + (Cr.le4 n).length ≤ 1000000000 := by rw [Cr.le4_length]; omega
  have hB2 := hB.alloc (.cells #[.int .u8 ((n : Int) % 256), .int .u8 ((n : Int) / 256 % 256), .int .u8 ((n : Int) / 65536 % 256), .int .u8 ((n : Int) / 16777216)] 5)
  clear cC
  go_wp2_with (at_builtin; refine appBs hB2 h4 (nil_ok _ _ _) hlen rfl _ _ rfl rfl rfl ?_; intro v' w3 hB3 _)
  go_ret
  exact ⟨_, rfl, by rw [HF.out]; exact hB3⟩
end Go.Proofs.YtlipgphmhkjnpaaDoor

namespace Go.Proofs.YtlipgphmhkjnpaaDoor
open Go.RowKit

theorem shs_succ (n r : Nat) : Cr.shs (n + 1) r = Cr.sh (Cr.shs n r) := by rw [Cr.shs_add]; rfl
set_option maxHeartbeats 1600000 in
set_option maxRecDepth 100000 in
theorem rSum_w (v : Value) (l : List UInt8) (w : World) (h : BIn w v l) :
    Calls Tryd.prog 51 #[v] w fun e w' => e = .returned (.int .u32 ((Cr.sum l : Nat) : Int)) ∧ w = w' := by
  obtain ⟨ao, cap, rfl, hlc, hc9, hg⟩ := h
  obtain ⟨L, hL⟩ : ∃ L, L = l.length := ⟨_, rfl⟩
  have HL := Lib.hid hL
  have HG := Lib.hid hg
  rw [← hL] at hlc ⊢
  clear hL hg
  go_enter Tryd.func51, Tryd.ntmps51
  go_wp2_with fail
  go_loop [3, 4] (fun r i => ∃ k R : Nat, k ≤ L ∧ i = .int .i64 k ∧ r = .int .u32 (R : Int) ∧ R < 4294967296 ∧ Hid (R = Cr.run Cr.ones (l.take k))) (fun _ i => L - (intOf i).toNat)
  case atStart => exact ⟨0, Cr.ones, Nat.zero_le _, rfl, rfl, by decide, Lib.hid rfl⟩
  case round =>
    obtain ⟨k, R, hk, rfl, rfl, hRl, HR⟩ := hrel
    by_cases hlt : k < L
    · have hki : (k : Int) < L := by omega
      obtain ⟨b, o, hao, hbl, hcell⟩ := HG.out.resolve_left (fun x => by have := HL.out; rw [x] at this; simp at this; omega)
      subst hao
      have k0 : k < l.length := by rw [← HL.out]; exact hlt
      have hc := hcell k k0
      have HS := Lib.hid (tk_snoc l k k0)
      clear hcell
      generalize l[k] = c at *
      have hcl : c.toNat < 256 := c.toNat_lt
      obtain ⟨n, hn⟩ : ∃ n, c.toNat = n := ⟨_, rfl⟩
      have HN := Lib.hid hn
      rw [hn] at hc hcl
      obtain ⟨X0, hX0⟩ : ∃ X0, R ^^^ n = X0 := ⟨_, rfl⟩
      have hx0 := xr R n hRl (by omega) X0 hX0
      have hX0l : X0 < 4294967296 := by rw [← hX0]; exact Cr.xor_lt hRl (by omega)
      have HX0 := Lib.hid hX0
      clear hn hX0
      go_wp2_with fail
      go_loop [3, 5] (fun r i => ∃ j X : Nat, j ≤ 8 ∧ i = .int .i64 j ∧ r = .int .u32 (X : Int) ∧ X < 4294967296 ∧ Hid (X = Cr.shs j X0)) (fun _ i => 8 - (intOf i).toNat)
      case atStart => exact ⟨0, X0, Nat.zero_le _, rfl, rfl, hX0l, Lib.hid rfl⟩
      case round =>
        obtain ⟨j, X, hj, rfl, rfl, hXl, HX⟩ := hrel
        by_cases hjl : j < 8
        · have hji : (j : Int) < 8 := by omega
          obtain ⟨q, hq⟩ : ∃ q, X / 2 = q := ⟨_, rfl⟩
          have hs1 : (X : Int) / 2 = (q : Int) := by omega
          have hql : q < 4294967296 := by omega
          have HST : Hid (Cr.shs (j + 1) X0 = if X % 2 = 1 then q ^^^ Cr.poly else q) := Lib.hid (by rw [shs_succ, ← HX.out, ← hq]; rfl)
          by_cases hm : X % 2 = 1
          · have hmi : (X : Int) % 2 = 1 := by omega
            obtain ⟨Y, hY⟩ : ∃ Y, q ^^^ Cr.poly = Y := ⟨_, rfl⟩
            have hx1 : bits .xor .u32 (q : Int) 3988292384 = (Y : Int) := xr q Cr.poly hql (by decide) Y hY
            have hYl : Y < 4294967296 := by rw [← hY]; exact Cr.xor_lt hql (by decide)
            have HY : Hid (Y = Cr.shs (j + 1) X0) := Lib.hid (by rw [HST.out, if_pos hm, hY])
            clear hY hq
            go_wp2_with fail
            go_round
            case rel => exact ⟨j + 1, Y, by omega, by go_num, rfl, hYl, HY⟩
            case measure => simp [intOf]; omega
          · have hmi : (X : Int) % 2 = 0 := by omega
            have HY : Hid (q = Cr.shs (j + 1) X0) := Lib.hid (by rw [HST.out, if_neg hm])
            clear hq hm
            go_wp2_with fail
            go_round
            case rel => exact ⟨j + 1, q, by omega, by go_num, rfl, hql, HY⟩
            case measure => simp [intOf]; omega
        · have hji : ¬ (j : Int) < 8 := by omega
          have HE : Hid (X = Cr.run Cr.ones (l.take (k + 1))) := Lib.hid (by
            rw [HX.out, HS.out, Cr.run_append, ← HR.out, show j = 8 by omega, ← HX0.out, ← HN.out]; rfl)
          clear hj hjl
          go_wp2_with fail
          go_round
          case rel => exact ⟨k + 1, X, by omega, by go_num, rfl, hXl, HE⟩
          case measure => simp [intOf]; omega
    · have hki : ¬ (k : Int) < L := by omega
      have HE : Hid (R ^^^ Cr.ones = Cr.sum l) := Lib.hid (by
        rw [HR.out, show k = l.length by rw [← HL.out]; omega, List.take_length]; rfl)
      obtain ⟨z, hz⟩ : ∃ z, R ^^^ Cr.ones = z := ⟨_, rfl⟩
      have hmz : bits .xor .u32 (R : Int) 4294967295 = (z : Int) := xr R Cr.ones hRl (by decide) z hz
      rw [hz] at HE
      clear hz hlt hk
      go_wp2_with fail
      go_ret
      exact ⟨by rw [← HE.out]; rfl, rfl⟩

set_option maxHeartbeats 3200000 in
set_option maxRecDepth 100000 in
theorem rFrame_w (v : Value) (l : List UInt8) (w : World) (h : BIn w v l) (hn : NilOk v) (ht : l.length ≤ 100000000) :
    Calls Tryd.prog 31 #[v] w fun e w' => ∃ u, e = .returned u ∧ Buf w w' u (Cr.frame l) := by
  have cS := rSum_w v l w h
  have hn4 := Cr.sum_lt l
  have HF : Hid (Cr.frame l = l ++ Cr.le4 (Cr.sum l)) := Lib.hid rfl
  generalize Cr.sum l = n at *
  have hlen1 : ([] : List UInt8).length + l.length ≤ 1000000000 := by simp; omega
  have HB := Lib.hid h
  clear h
  go_enter Tryd.func31, Tryd.ntmps31
  go_wp2_with fail
  refine cS.mono ?_
  rintro e w1 ⟨rfl, rfl⟩
  clear cS
  go_upto_region 3 with fail
  go_upto_region 4 with (at_builtin; refine appBs (Buf.nil w) HB.out hn hlen1 rfl _ _ rfl rfl rfl ?_; intro v2 w2 hB _)
  rw [List.nil_append] at hB
  have h4 := le4_in w2 n hn4
  have hlen : l.length + (Cr.le4 n).length ≤ 1000000000 := by rw [Cr.le4_length]; omega
  have hB2 := hB.alloc (.cells #[.int .u8 ((n : Int) % 256), .int .u8 ((n : Int) / 256 % 256), .int .u8 ((n : Int) / 65536 % 256), .int .u8 ((n : Int) / 16777216)] 5)
  go_wp2_with (at_builtin; refine appBs hB2 h4 (nil_ok _ _ _) hlen rfl _ _ rfl rfl rfl ?_; intro v' w3 hB3 _)
  go_ret
  exact ⟨_, rfl, by rw [HF.out]; exact hB3⟩
end Go.Proofs.YtlipgphmhkjnpaaDoor

namespace Go.Proofs.YtlipgphmhkjnpaaDoor
open Go.RowKit

theorem ex_sum : Cr.sum [49, 50, 51, 52, 53, 54, 55, 56, 57] = 3421780262 := by decide +kernel
theorem bs_nil (w : World) : BsIn w (.slice none 0 0) [] := ⟨none, 0, rfl, Nat.le_refl _, by decide, .inl rfl⟩
/-- What joined tells: all pieces in a row of the call's own, unless they are too many. -/
def Joined (W : World) (ls : List (List UInt8)) (e : Ending) (w : World) : Prop := ∃ u b, e = .returned (.tuple #[u, .bool b]) ∧ Below W.heap.size W w ∧ (b = true → Buf W w u ls.flatten ∧ ls.flatten.length ≤ 10500)
end Go.Proofs.YtlipgphmhkjnpaaDoor

namespace Go.Proofs.YtlipgphmhkjnpaaDoor
open Go.RowKit


set_option maxHeartbeats 3200000 in
set_option maxRecDepth 100000 in
theorem Open_w (v : Value) (l : List UInt8) (w : World) (h : BIn w v l) (hl : l.length ≤ 100000000) (hT : CTab w) :
    Calls Tryd.prog 32 #[v] w fun e w' => ∃ u, e = .returned (.tuple #[u, .int .i64 (Cr.opn l).2]) ∧ Buf w w' u (Cr.opn l).1 := by
  by_cases h4 : l.length < 4
  · rw [Cr.opn_short h4]
    obtain ⟨ao, cap, rfl, hlc, hc9, hg⟩ := h
    have h4i : (l.length : Int) < 4 := by omega
    clear hg hT hl
    generalize l.length = n at *
    go_enter Tryd.func32, Tryd.ntmps32
    go_wp2_with fail
    go_ret2
    exact ⟨_, rfl, Buf.nil _⟩
  obtain ⟨a, b, c, d, hs⟩ := Cr.split4 (l := l) (by omega)
  obtain ⟨t, ht⟩ : ∃ t, t = l.take (l.length - 4) := ⟨_, rfl⟩
  rw [← ht] at hs
  clear ht
  subst hs
  rw [Cr.opn_parts]
  obtain ⟨R, hR⟩ : ∃ R, R = (if Cr.sum t = Cr.w4 a.toNat b.toNat c.toNat d.toNat then (t, (0 : Int)) else ([], 33)) := ⟨_, rfl⟩
  rw [← hR]
  have hlen : (t ++ [a, b, c, d]).length = t.length + 4 := by rw [List.length_append]; rfl
  have HB := Lib.hid h
  obtain ⟨ao, cap, rfl, hlc, hc9, hg⟩ := h
  obtain ⟨bk, o, rfl, hbl, hcell⟩ := hg.resolve_left (by simp)
  have hbt := HB.out.cut t.length (by omega)
  rw [List.take_left] at hbt
  have e0 := hcell t.length (by omega)
  have e1 := hcell (t.length + 1) (by omega)
  have e2 := hcell (t.length + 2) (by omega)
  have e3 := hcell (t.length + 3) (by omega)
  simp only [List.getElem_append_right, Nat.le_refl, Nat.sub_self, Nat.le_add_right, Nat.add_sub_cancel_left, List.getElem_cons_zero, List.getElem_cons_succ, ← Nat.add_assoc] at e0 e1 e2 e3
  rw [hlen] at hlc hl ⊢
  have hs := Cr.sum_lt t
  obtain ⟨N, hN⟩ : ∃ N, N = t.length := ⟨_, rfl⟩
  rw [← hN] at hbt e0 e1 e2 e3 hlc hl ⊢
  have ha : a.toNat < 256 := a.toNat_lt
  have hb : b.toNat < 256 := b.toNat_lt
  have hc : c.toNat < 256 := c.toNat_lt
  have hd : d.toNat < 256 := d.toNat_lt
  obtain ⟨o1, o2, o3⟩ := Cr.or_four (d := d.toNat) ha hb hc
  have hw4 : Cr.w4 a.toNat b.toNat c.toNat d.toNat = a.toNat + 256 * b.toNat + 65536 * c.toNat + 16777216 * d.toNat := rfl
  generalize a.toNat = A at *
  generalize b.toNat = B at *
  generalize c.toNat = C at *
  generalize d.toNat = D at *
  have q1 : bits .or .u32 (A : Int) ((B : Int) * 256) = ((A + 256 * B : Nat) : Int) := by
    rw [show (B : Int) * 256 = ((B * 256 : Nat) : Int) by omega, u32_or_nat _ _ (by omega) (by omega), o1]
  obtain ⟨m1, hm1⟩ : ∃ m1, A + 256 * B = m1 := ⟨_, rfl⟩
  rw [hm1] at q1 o2 o3
  have q2 : bits .or .u32 (m1 : Int) ((C : Int) * 65536) = ((m1 + 65536 * C : Nat) : Int) := by
    rw [show (C : Int) * 65536 = ((C * 65536 : Nat) : Int) by omega, u32_or_nat _ _ (by omega) (by omega), o2]
  obtain ⟨m2, hm2⟩ : ∃ m2, m1 + 65536 * C = m2 := ⟨_, rfl⟩
  rw [hm2] at q2 o3
  have q3 : bits .or .u32 (m2 : Int) ((D : Int) * 16777216) = ((Cr.w4 A B C D : Nat) : Int) := by
    rw [show (D : Int) * 16777216 = ((D * 16777216 : Nat) : Int) by omega, u32_or_nat _ _ (by omega) (by omega), o3]
  have hwl : Cr.w4 A B C D < 4294967296 := by omega
  generalize Cr.w4 A B C D = S4 at *
  have cS : Hid (∀ W, Below w.heap.size w W → Calls Tryd.prog 50 #[.slice (some ⟨W.heap.size, 0, none⟩) 1 1] (W.alloc (.cells #[.slice (some ⟨bk, o, none⟩) N cap] 23)).drew fun e w' => e = .returned (.int .u32 ((Cr.sum t : Nat) : Int)) ∧ (W.alloc (.cells #[.slice (some ⟨bk, o, none⟩) N cap] 23)).drew = w') := Lib.hid (fun W hbw => by
    have hbw2 : Below w.heap.size w (W.alloc (.cells #[.slice (some ⟨bk, o, none⟩) N cap] 23)).drew := (hbw.alloc hbw.size _).drew
    have hbs := (bs_lit W #[.slice (some ⟨bk, o, none⟩) N cap] [t] 1 rfl (by decide) (fun j hj => by
      match j, hj with
      | 0, _ => exact ⟨_, rfl, hbt.later hbw, some_ok _ _ _⟩)).later (Below.refl _ _).drew
    have := Sum_w _ _ _ hbs (hT.later hbw2)
    rwa [List.flatten_singleton] at this)
  have HBT := Lib.hid hbt
  have HS : Hid (∀ W', Below w.heap.size w W' → W'.cell? ⟨bk, o + N, none⟩ = some (.int .u8 A) ∧ W'.cell? ⟨bk, o + N + 1, none⟩ = some (.int .u8 B) ∧ W'.cell? ⟨bk, o + N + 2, none⟩ = some (.int .u8 C) ∧ W'.cell? ⟨bk, o + N + 3, none⟩ = some (.int .u8 D)) := Lib.hid fun W' hb' =>
    ⟨cell_later hb' e0, cell_later hb' e1, cell_later hb' e2, cell_later hb' e3⟩
  have HN := Lib.hid hN
  generalize hsz : Cr.sum t = sm at *
  have HR := Lib.hid hR
  have hN8 : (N : Int) ≤ 100000000 := by omega
  have hi1 : ¬ ((N + 4 : Nat) : Int) < 4 := by omega
  have hv1 : IntKind.u32.wrap ((B : Int) * 256) = (B : Int) * 256 := by rw [IntKind.wrap_u32']; omega
  have hv2 : IntKind.u32.wrap ((C : Int) * 65536) = (C : Int) * 65536 := by rw [IntKind.wrap_u32']; omega
  have hv3 : IntKind.u32.wrap ((D : Int) * 16777216) = (D : Int) * 16777216 := by rw [IntKind.wrap_u32']; omega
  have hwA : IntKind.u32.wrap (A : Int) = A := by rw [IntKind.wrap_u32']; omega
  have hwB : IntKind.u32.wrap (B : Int) = B := by rw [IntKind.wrap_u32']; omega
  have hwC : IntKind.u32.wrap (C : Int) = C := by rw [IntKind.wrap_u32']; omega
  have hwD : IntKind.u32.wrap (D : Int) = D := by rw [IntKind.wrap_u32']; omega
  clear hbt hT h4 hcell hm1 hm2 o1 o2 o3 hw4 hN hR
  go_enter Tryd.func32, Tryd.ntmps32
  have hNi0 : (0 : Int) ≤ (N : Int) := by omega
  have hcN : ¬ cap = N := by omega
  have hNc : N ≤ cap := by omega
  have hNc4 : N + 4 ≤ cap := by omega
  have hadd : (⟨bk, o, none⟩ : Addr).add N = ⟨bk, o + N, none⟩ := Addr.add_lit ..
  go_upto_region 4 with fail
  go_quiet (fail)
  have hbq : Below w.heap.size w (w.drewN nq) := ⟨rfl, rfl, rfl, Nat.le_refl _, fun _ _ => rfl⟩
  go_upto_region 5 with fail
  generalize w.drewN nq = W at hbq ⊢
  have K0 : Hid (Below w.heap.size w W.drew) := Lib.hid hbq.drew
  have K1 : Hid (Below w.heap.size w (W.alloc (.cells #[.slice (some ⟨bk, o, none⟩) N cap] 23)).drew) := Lib.hid (hbq.alloc hbq.size _).drew
  have HSUM := Lib.hid (cS.out W hbq)
  clear cS
  go_region_held3 (fun w' => w'.cell? ⟨bk, o + N, none⟩ = some (.int .u8 A) ∧ w'.cell? ⟨bk, o + N + 1, none⟩ = some (.int .u8 B) ∧ w'.cell? ⟨bk, o + N + 2, none⟩ = some (.int .u8 C) ∧ w'.cell? ⟨bk, o + N + 3, none⟩ = some (.int .u8 D))
    (first | with_reducible exact HS.out _ K0.out | with_reducible exact HS.out _ K1.out)
    (first | (go_at_call 50; (with_reducible refine HSUM.out.mono ?_); rintro e w6 ⟨rfl, rfl⟩))
  generalize (W.alloc _).drew = W2 at K1 ⊢
  have hb2 := K1.out
  clear e0 e1 e2 e3 HS HSUM K0 K1 hbq
  by_cases hq : sm = S4
  · obtain rfl : R = (t, (0 : Int)) := by rw [HR.out, if_pos hq]
    subst hq
    have hlen2 : ([] : List UInt8).length + t.length ≤ 1000000000 := by rw [← HN.out]; simp; omega
    have hbt2 := HBT.out.later hb2
    go_wp2_with (at_builtin; refine appBs (Buf.nil_of hb2) hbt2 (some_ok _ _ _) hlen2 rfl (.const (.slice none 0 0)) _ rfl rfl rfl ?_; intro v' w3 hB3 _)
    go_ret2
    exact ⟨_, rfl, hB3⟩
  · obtain rfl : R = (([] : List UInt8), (33 : Int)) := by rw [HR.out, if_neg hq]
    have hqf : ¬ (sm : Int) = (S4 : Int) := by omega
    have hqb : ((sm : Int) != (S4 : Int)) = true := by rw [bne, beq_eq_false_iff_ne.2 hqf]; rfl
    go_wp2_with fail
    go_ret2
    exact ⟨_, rfl, Buf.nil_of hb2⟩
end Go.Proofs.YtlipgphmhkjnpaaDoor
