/- Package start: octets that came in; a first line in memory. -/
import Derived.Test.YtbpghbbcghlcaaaDoorStMath
import Derived.Test.YtbpghbbcghlcaaaDoorOctBase
import Derived.Laws.Rows
import Derived.Laws.Tables
import Derived.Laws.ResultCell
import Derived.Deep.DeepCutAuto
import Derived.Deep.CutBlock
namespace Go.Proofs.YtbpghbbcghlcaaaDoor
open Go.RowKit

theorem bt5 {a b c : World} (h : Below a.heap.size a b) (h' : Below b.heap.size b c) : Below a.heap.size a c := h.trans (h'.mono h.size)
theorem str_eq {a : ByteArray} {l : List UInt8} (h : a.data.toList = l) : a = str l := by rw [← h, str_of]
theorem app_two (a b : ByteArray) : (a ++ b).data.toList = a.data.toList ++ b.data.toList := by simp
theorem ne_oct (c n : UInt8) (m : Int) (hm : m = n.toNat) (h : c ≠ n) : ((c.toNat : Int) != m) = true ∧ ((c.toNat : Int) == m) = false ∧ ¬ (c.toNat : Int) = m := by
  have h1 : ¬ (c.toNat : Int) = m := fun e => h (UInt8.toNat_inj.1 (by omega))
  have h2 := beq_eq_false_iff_ne.2 h1
  exact ⟨by rw [bne, h2]; rfl, h2, h1⟩
theorem list_no {a : ByteArray} {l : List UInt8} (h : a.data.toList ≠ l) : ¬ a.toList = l ∧ (a.toList == l) = false ∧ (a.toList != l) = true := by
  rw [Lib.toList_data]
  have h2 : (a.data.toList == l) = false := beq_eq_false_iff_ne.2 h
  exact ⟨h, h2, by rw [bne, h2]; rfl⟩

/-- v reads as the octets l. -/
def BIn (w : World) (v : Value) (l : List UInt8) : Prop := ∃ ao cap, v = .slice ao l.length cap ∧ l.length ≤ cap ∧ cap ≤ 9223372036854775807 ∧ (l = [] ∨ ∃ b o, ao = some ⟨b, o, none⟩ ∧ b < w.heap.size ∧ ∀ j (hj : j < l.length), w.cell? ⟨b, o + j, none⟩ = some (.int .u8 (l[j].toNat : Int)))
theorem BIn.later {w w' : World} {v : Value} {l : List UInt8} (h : BIn w v l) (hb : Below w.heap.size w w') : BIn w' v l := by
  obtain ⟨ao, cap, hv, h1, h2, h⟩ := h
  refine ⟨ao, cap, hv, h1, h2, ?_⟩
  rcases h with h | ⟨b, o, h1, h2, h3⟩
  · exact .inl h
  · exact .inr ⟨b, o, h1, Nat.lt_of_lt_of_le h2 hb.size, fun j hj => by rw [hb.cell (p := ⟨b, o + j, none⟩) h2]; exact h3 j hj⟩
/-- The first n octets as a text. -/
theorem BIn.text {w : World} {b o cap : Nat} {l : List UInt8} (h : ∀ j (hj : j < l.length), w.cell? ⟨b, o + j, none⟩ = some (.int .u8 (l[j].toNat : Int))) (n : Nat) (hn : n ≤ l.length) :
    (convert 22 9 (.slice (some ⟨b, o, none⟩) n cap)).run Tryd.prog w = .ok (.string (str (l.take n))) w := by
  have hl : (l.take n).length = n := by rw [List.length_take]; omega
  have := run_convert_bytes_back (P := Tryd.prog) w 22 9 5 ⟨b, o, none⟩ cap (l.take n) Tryd.underlying22 Tryd.underlying5 Tryd.underlying9 (fun j hj => by
    rw [Addr.add_lit, h j (by omega)]
    simp)
  rw [hl] at this
  exact this

/-- A first line in memory. -/
def sval (s : St.S) : Value := .agg #[.string (str s.method), .string (str s.target), .int .i64 s.status, .string (str s.reason), .int .i64 s.minor]
theorem sval_s (s : St.S) : sval s = .agg #[.string (str s.method), .string (str s.target), .int .i64 s.status, .string (str s.reason), .int .i64 s.minor] := rfl
theorem set5 {w : World} {g : Nat} {a b c d e : Value} {t : TypeId} (h : w.heap[g]? = some (.cells #[a, b, c, d, e] t (0, 0))) :
    w.cell? ⟨g, 0, none⟩ = some a ∧ w.cell? ⟨g, 1, none⟩ = some b ∧ w.cell? ⟨g, 2, none⟩ = some c ∧ w.cell? ⟨g, 3, none⟩ = some d ∧ w.cell? ⟨g, 4, none⟩ = some e := by
  simp [World.cell?, h]
/-- A line's block, and what came since. -/
structure SAt (w : World) (g : Nat) (W : World) (a b c d e : Value) : Prop where
  cell : W.heap[g]? = some (.cells #[a, b, c, d, e] 25 (0, 0))
  below : Below w.heap.size w W
  ge : w.heap.size ≤ g
theorem SAt.later {w : World} {g : Nat} {W W' : World} {a b c d e : Value} (h : SAt w g W a b c d e) (hb : Below W.heap.size W W') : SAt w g W' a b c d e :=
  ⟨(hb.block _ (lt_of_block h.cell)).trans h.cell, h.below.trans (hb.mono h.below.size), h.ge⟩
theorem SAt.alloc {w : World} {g : Nat} {W : World} {a b c d e : Value} (h : SAt w g W a b c d e) (o : Obj) : SAt w g (W.alloc o) a b c d e := h.later ((Below.refl _ _).alloc (Nat.le_refl _) o)
theorem SAt.start (w : World) (a b c d e : Value) : SAt w w.heap.size (w.alloc (.cells #[a, b, c, d, e] 25)) a b c d e :=
  ⟨heap_alloc_new w _, (Below.refl _ _).alloc (Nat.le_refl _) _, Nat.le_refl _⟩
theorem SAt.fresh {w W : World} (h : Below w.heap.size w W) (a b c d e : Value) : SAt w W.heap.size (W.alloc (.cells #[a, b, c, d, e] 25)) a b c d e :=
  ⟨heap_alloc_new W _, h.alloc h.size _, h.size⟩
theorem SAt.cells {w : World} {g : Nat} {W : World} {a b c d e : Value} (h : SAt w g W a b c d e) :
    W.cell? ⟨g, 0, none⟩ = some a ∧ W.cell? ⟨g, 1, none⟩ = some b ∧ W.cell? ⟨g, 2, none⟩ = some c ∧ W.cell? ⟨g, 3, none⟩ = some d ∧ W.cell? ⟨g, 4, none⟩ = some e := set5 h.cell
/-- A line is stored into a block: whole, in one step. -/
theorem stS {ops : Array Oper} {rest : List Oper} {o : Oper} {a : Act} {Q : Exit → Act → World → Prop} {w0 W : World} {g : Nat} {x y z u v : Value} (h : SAt w0 g W x y z u v)
    (hgd : o.guard = none) (px py : Operand) (ho : o.op = .store 25 px py) (x' y' : ByteArray) (z' : Int) (u' : ByteArray) (v' : Int) (hx : a.eval px = .pointer (some ⟨g, 0, none⟩)) (hy : a.eval py = .agg #[.string x', .string y', .int .i64 z', .string u', .int .i64 v'])
    (hK : ∀ W', SAt w0 g W' (.string x') (.string y') (.int .i64 z') (.string u') (.int .i64 v') → (∀ k, k ≠ g → W'.heap[k]? = W.heap[k]?) → wpList Tryd.prog ops Q rest (a.put o.dst undef) W') : wpList Tryd.prog ops Q (o :: rest) a W := by
  refine wpList_store_row hgd 25 px py ho g #[.string x', .string y', .int .i64 z', .string u', .int .i64 v'] hx hy 25 #[x, y, z, u, v] h.cell (by kernel_rfl) rfl (by simp [Value.oneCell']) (hK _ ⟨?_, ?_, h.ge⟩ ?_)
  · have hlt := lt_of_block h.cell
    simp [World.setRow, Array.getElem?_modify, h.cell]
  · refine h.below.trans ⟨rfl, rfl, rfl, by simp [World.setRow], fun k hk => ?_⟩
    have hne : g ≠ k := by have := h.ge; omega
    simp [World.setRow, Array.getElem?_modify, hne]
  · intro k hk
    simp [World.setRow, Array.getElem?_modify, hk.symm]
/-- A line is loaded. -/
theorem ldS {ops : Array Oper} {rest : List Oper} {o : Oper} {a : Act} {Q : Exit → Act → World → Prop} {W : World} {g : Nat} {x y z u v : Value} (h : W.heap[g]? = some (.cells #[x, y, z, u, v] 25 (0, 0)))
    (hgd : o.guard = none) (px : Operand) (ho : o.op = .load 25 px) (hx : a.eval px = .pointer (some ⟨g, 0, none⟩))
    (hK : wpList Tryd.prog ops Q rest (a.put o.dst (.agg #[x, y, z, u, v])) W) : wpList Tryd.prog ops Q (o :: rest) a W :=
  wpList_load_row hgd 25 px ho g hx 25 #[x, y, z, u, v] (0, 0) _ h Tryd.underlying25 rfl (by kernel_rfl) hK
theorem results_cell_two {fn : Func} {p u v : Tmp} {ty : TypeId} (h : fn.results = #[.cell p ty, .tmp u, .tmp v]) (tmps : Array Value) (P : Program) (w : World) :
    (results fn tmps).run P w =
      ((asAddr (tmps.getD p undef)).run P w).andThen fun a w₁ => ((loadVar ty a).run P w₁).andThen fun x w₂ => .ok (.tuple #[x, tmps.getD u undef, tmps.getD v undef]) w₂ := by
  simp only [results, h]
  simp [Sem.run_bind, Result.andThen]
/-- A line and two things more are handed back. -/
theorem ret_start {fn : Func} {p u v : Tmp} (h : fn.results = #[.cell p 25, .tmp u, .tmp v]) {R : Ending → World → Prop} {a : Act} {w : World} (g : Nat) (x1 x2 x3 x4 x5 : Value)
    (hp : a.tmps.getD p undef = .pointer (some ⟨g, 0, none⟩)) (hg : w.heap[g]? = some (.cells #[x1, x2, x3, x4, x5] 25 (0, 0))) (hd : a.defers = []) (hR : R (.returned (.tuple #[.agg #[x1, x2, x3, x4, x5], a.tmps.getD u undef, a.tmps.getD v undef])) w) : bodyPost Tryd.prog fn R .ret a w := by
  refine bodyPost_ret (v := .tuple #[.agg #[x1, x2, x3, x4, x5], a.tmps.getD u undef, a.tmps.getD v undef]) ?_ hd hR
  have e := run_loadVar_row (P := Tryd.prog) w g 25 25 #[x1, x2, x3, x4, x5] (0, 0) _ hg Tryd.underlying25 rfl (by kernel_rfl)
  rw [results_cell_two h, hp]
  simp [Result.andThen, asAddr, e]
/-- A line, how many octets, an error. -/
def sres (x : St.S × Int × Int) : Value := .tuple #[sval x.1, .int .i64 x.2.1, .int .i64 x.2.2]
theorem sres_s (s : St.S) (n e : Int) : sres (s, n, e) = .tuple #[.agg #[.string (str s.method), .string (str s.target), .int .i64 s.status, .string (str s.reason), .int .i64 s.minor], .int .i64 n, .int .i64 e] := rfl
theorem guard_st (op : BinOp) (hop : op = .eql ∨ op = .neq) (x y : Nat) (c d : St.S) (w : World) : (eqGuard op 25 (.tmp x) (.tmp y) (sval c) (sval d)).run Tryd.prog w = .ok () w := by
  rcases hop with rfl | rfl
  · kernel_rfl
  · kernel_rfl
theorem str_beq (a b : List UInt8) : ((str a).toList == (str b).toList) = decide (a = b) := by rw [str_toList, str_toList, Bool.eq_iff_iff, beq_iff_eq, decide_eq_true_iff]
theorem eql_st (c d : St.S) (w : World) : (binOp .eql 25 (sval c) (sval d)).run Tryd.prog w = .ok (.bool (decide (c = d))) w := by
  obtain ⟨a0, a1, a2, a3, a4⟩ := c
  obtain ⟨b0, b1, b2, b3, b4⟩ := d
  unfold sval
  have e0 := str_beq a0 b0
  have e1 := str_beq a1 b1
  have e3 := str_beq a3 b3
  simp only [St.S.mk.injEq]
  generalize str a0 = s0 at *
  generalize str a1 = s1 at *
  generalize str a3 = s3 at *
  generalize str b0 = t0 at *
  generalize str b1 = t1 at *
  generalize str b3 = t3 at *
  go_simp
  (repeat' split) <;> simp_all
end Go.Proofs.YtbpghbbcghlcaaaDoor
