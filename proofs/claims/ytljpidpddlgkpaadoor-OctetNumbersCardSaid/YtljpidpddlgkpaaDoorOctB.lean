/- A row of octets that a call makes itself, and appends to: what stays true of it, and the two laws that the walks take: one octet more, and its octets as a string. -/
import Derived.Test.YtljpidpddlgkpaaDoorProg
import Derived.Test.YtljpidpddlgkpaaDoorOctMath
import Derived.WalkKit
import Derived.Lib.UnsafeStr
import Derived.Lib.BufferRead
import Derived.Lib.Hide
namespace Go.Proofs.YtljpidpddlgkpaaDoor
open Go.RowKit

/-- A string of a list of octets, behind a name that the walk leaves alone. -/
def str (l : List UInt8) : ByteArray := ⟨l.toArray⟩
theorem str_list (l : List UInt8) : (str l).data.toList = l := by simp [str]
theorem str_of (s : ByteArray) : str s.data.toList = s := by obtain ⟨⟨l⟩⟩ := s; rfl
theorem str_size (l : List UInt8) : (str l).size = l.length := by rw [Lib.size_eq, str_list]
theorem str_inj {a b : List UInt8} (h : str a = str b) : a = b := by rw [← str_list a, h, str_list]
theorem str_toList (l : List UInt8) : (str l).toList = l := by rw [Lib.toList_data, str_list]

theorem bytes_info : (Tryd.prog.info? 5).map (fun i => (i.zero, i.size, i.bytes)) = some (some (.int .u8 0), 1, 1) := by kernel_rfl

/-- v is a slice of the call's own (the call began in W), and holds the octets l; below W nothing has turned. -/
def Buf (W w : World) (v : Value) (l : List UInt8) : Prop := w.ownsRow W.heap.size 5 1 v l.length (Lib.byteCells l) ∧ Below W.heap.size W w

theorem Buf.below {W w : World} {v : Value} {l : List UInt8} (h : Buf W w v l) : Below W.heap.size W w := h.2
theorem Buf.nil (W : World) : Buf W W (.slice none 0 0) [] := ⟨World.ownsRow_nil _ _ _ _, Below.refl _ _⟩
theorem Buf.nil_of {W w : World} (h : Below W.heap.size W w) : Buf W w (.slice none 0 0) [] := ⟨World.ownsRow_nil _ _ _ _, h⟩
theorem Buf.alloc {W w : World} {v : Value} {l : List UInt8} (h : Buf W w v l) (o : Obj) : Buf W (w.alloc o) v l := ⟨h.1.alloc o, h.2.alloc h.2.size o⟩
theorem Buf.drew {W w : World} {v : Value} {l : List UInt8} (h : Buf W w v l) : Buf W w.drew v l := ⟨h.1, h.2.drew⟩
/-- Behind a call that leaves all that was as it was. -/
theorem Buf.after {W w w' : World} {v : Value} {l : List UInt8} (h : Buf W w v l) (hb : Below w.heap.size w w') : Buf W w' v l := by
  refine ⟨⟨h.1.1, ?_⟩, h.2.trans (hb.mono h.2.size)⟩
  rcases h.1.2 with h0 | ⟨g, cap, cur, hv, hg, hh, rest⟩
  · exact .inl h0
  · exact .inr ⟨g, cap, cur, hv, hg, by rw [hb.block g (lt_of_block hh)]; exact hh, rest⟩
/-- A literal of one octet. -/
theorem Buf.one {W w : World} (h : Below W.heap.size W w) (c : UInt8) (n : Int) (hn : n = c.toNat) : Buf W (w.alloc (.cells #[.int .u8 n] 5)) (.slice (some ⟨w.heap.size, 0, none⟩) 1 1) [c] := by
  subst hn
  exact ⟨⟨rfl, .inr ⟨w.heap.size, 1, #[.int .u8 c.toNat], rfl, h.size, heap_alloc_new w _, Nat.le_refl _, by decide, rfl, rfl⟩⟩, h.alloc h.size _⟩

theorem Buf.cells {W w : World} {v : Value} {l : List UInt8} (h : Buf W w v l) : (v = .slice none 0 0 ∧ l = []) ∨ ∃ g cap, v = .slice (some ⟨g, 0, none⟩) l.length cap ∧ ∀ j (hj : j < l.length), w.cell? ⟨g, j, none⟩ = some (.int .u8 (l[j].toNat : Int)) := by
  rcases h.1.2 with ⟨hv, h0⟩ | ⟨g, cap, cur, hv, hg, hh, h1, h2, h3, h4⟩
  · exact .inl ⟨hv, List.eq_nil_of_length_eq_zero h0⟩
  · refine .inr ⟨g, cap, hv, fun j hj => ?_⟩
    have h5 : cur.toList[j]? = some (.int .u8 (l[j].toNat : Int)) := by
      have h6 : (cur.toList.take (l.length * 1))[j]? = (Lib.byteCells l)[j]? := by rw [h4]
      rw [List.getElem?_take_of_lt (by omega)] at h6
      rw [h6]; simp [Lib.byteCells, hj]
    simp only [World.cell?, hh]
    simpa using h5

/-- 'string(b)'. -/
theorem Buf.string {W w : World} {v : Value} {l : List UInt8} (h : Buf W w v l) : (convert 50 9 v).run Tryd.prog w = .ok (.string (str l)) w := by
  rcases h.cells with ⟨rfl, rfl⟩ | ⟨g, cap, rfl, hc⟩
  · exact Lib.run_convert_nil_bytes w _ _ _ 0 Tryd.underlying50 Tryd.underlying5 Tryd.underlying9
  · exact run_convert_bytes_back w _ _ _ ⟨g, 0, none⟩ cap l Tryd.underlying50 Tryd.underlying5 Tryd.underlying9 (fun j hj => by
      rw [Addr.add_lit, Nat.zero_add]
      exact hc j hj)

/-- 'append(b, c)': the octet lies in a new block, the last one. -/
theorem app1 {ops : Array Oper} {rest : List Oper} {o : Oper} {a : Act} {Q : Exit → Act → World → Prop} {W w : World} {v : Value} {l : List UInt8} (h : Buf W w v l) (c : UInt8) (hlen : l.length ≤ 100000000)
    (hgd : o.guard = none) (s x : Operand) (ho : o.op = .call { callee := .builtin .append, args := #[s, x], argTypes := #[50, 50] })
    (n : Int) (hn : n = c.toNat) (hs : a.eval s = v) (hx : a.eval x = .slice (some ⟨w.heap.size, 0, none⟩) 1 1)
    (hK : ∀ v' w', Buf W w' v' (l ++ [c]) → wpList Tryd.prog ops Q rest (a.put o.dst v') w') : wpList Tryd.prog ops Q (o :: rest) a (w.alloc (.cells #[.int .u8 n] 5)) := by
  obtain ⟨i0, hi, hz0, hz1, hz2⟩ := info_parts bytes_info
  have hA := h.alloc (.cells #[.int .u8 n] 5)
  refine wpList_append_own _ hgd s x _ ho W.heap.size 5 i0 (.int .u8 0) 1 1 Tryd.underlying50 hi hz0 hz1 hz2 rfl (by decide) v l.length (Lib.byteCells l) hs hA.1 ⟨w.heap.size, 0, none⟩ 1 1 [.int .u8 n] hx rfl ?_ ?_ (by unfold maxLen; omega) (by omega) hA.2.size (fun v' w' h1 h2 _ => ?_)
  · intro j u hj
    match j, hj with
    | 0, hj =>
      simp at hj; subst hj
      show (w.alloc (.cells #[.int .u8 n] 5)).cell? ⟨w.heap.size, 0 + 0, none⟩ = _
      rw [World.cell?_alloc_at _ _ _ _ rfl]; rfl
  · intro u hu; simp at hu; subst hu; rfl
  · refine hK v' w' ⟨?_, hA.2.grown h2 hA.2.size (fun k hk => (hA.1.lt k hk).1)⟩
    have e : Lib.byteCells (l ++ [c]) = Lib.byteCells l ++ [.int .u8 n] := by subst hn; simp [Lib.byteCells]
    rw [e]; simpa using h1

/-- Block g holds the octets l, and may be written there (what lies behind them may not). -/
def Row (w : World) (g : Nat) (l : List UInt8) : Prop := ∃ C n, w.heap[g]? = some (.cells C 5 (n, n + 1)) ∧ C.size = n ∧ l.length ≤ n ∧ C.toList.take l.length = Lib.byteCells l
theorem Row.lt {w : World} {g : Nat} {l : List UInt8} (h : Row w g l) : g < w.heap.size := by obtain ⟨C, n, h1, _⟩ := h; exact lt_of_block h1
theorem Row.cell {w : World} {g : Nat} {l : List UInt8} (h : Row w g l) (k : Nat) (hk : k < l.length) : w.cell? ⟨g, k, none⟩ = some (.int .u8 (l[k].toNat : Int)) ∧ w.frozen? ⟨g, k, none⟩ = false := by
  obtain ⟨C, n, h1, h2, h3, h4⟩ := h
  have h5 : C.toList[k]? = some (.int .u8 (l[k].toNat : Int)) := by
    have h6 : (C.toList.take l.length)[k]? = (Lib.byteCells l)[k]? := by rw [h4]
    rw [List.getElem?_take_of_lt hk] at h6
    rw [h6]; simp [Lib.byteCells, hk]
  constructor
  · simp only [World.cell?, h1]; simpa using h5
  · simp only [World.frozen?, h1]; simp; omega
theorem Row.set {w : World} {g : Nat} {l : List UInt8} (h : Row w g l) (k : Nat) (_hk : k < l.length) (c : UInt8) (n : Int) (hn : n = c.toNat) : Row (w.setCell ⟨g, k, none⟩ (.int .u8 n)) g (l.set k c) := by
  subst hn
  have hlt := h.lt
  obtain ⟨C, n, h1, h2, h3, h4⟩ := h
  refine ⟨C.setIfInBounds k (.int .u8 c.toNat), n, ?_, by simp [h2], by simpa using h3, ?_⟩
  · show (w.heap.modify g _)[g]? = _
    have h' : w.heap[g] = .cells C 5 (n, n + 1) := by simpa [Array.getElem?_eq_getElem hlt] using h1
    rw [Array.getElem?_eq_getElem (by simpa using hlt), Array.getElem_modify_self, h']
    rfl
  · rw [List.length_set, Array.toList_setIfInBounds, List.take_set, h4]
    simp [Lib.byteCells]
theorem Row.copy (w : World) (s : ByteArray) (cap : Nat) : Row ((w.drew.alloc (.cells (bytesRow s cap) 5 ((bytesRow s cap).size, (bytesRow s cap).size + 1)))) w.heap.size s.data.toList := by
  refine ⟨bytesRow s cap, _, heap_alloc_new w.drew _, rfl, ?_, ?_⟩
  · simp [bytesRow]
  · simp [bytesRow, Lib.byteCells]

end Go.Proofs.YtljpidpddlgkpaaDoor
