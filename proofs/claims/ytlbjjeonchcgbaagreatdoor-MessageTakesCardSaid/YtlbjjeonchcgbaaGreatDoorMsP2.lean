/- Package message, the program: a reader in memory; where it stands. -/
import Derived.Test.YtlbjjeonchcgbaaGreatDoorCkPb
import Derived.Test.YtlbjjeonchcgbaaGreatDoorStPd
import Derived.Test.YtlbjjeonchcgbaaGreatDoorMsP1
import Derived.Deep.MidRow
namespace Go.Proofs.YtlbjjeonchcgbaaGreatDoor
open Go.RowKit

/-! A reader in memory: thirteen cells. -/
def RB (w : World) (g : Nat) (cs : Array Value) : Prop := w.heap[g]? = some (.cells cs 88 (0, 0))
theorem RB.lt {w : World} {g : Nat} {cs : Array Value} (h : RB w g cs) : g < w.heap.size := lt_of_block h
theorem RB.same {w w' : World} {g : Nat} {cs : Array Value} (h : RB w g cs) (hb : w'.heap[g]? = w.heap[g]?) : RB w' g cs := by unfold RB; rw [hb]; exact h
theorem RB.later {w w' : World} {g : Nat} {cs : Array Value} (h : RB w g cs) (hb : Below w.heap.size w w') : RB w' g cs := h.same (hb.block g h.lt)
theorem RB.cell {w : World} {g : Nat} {cs : Array Value} (h : RB w g cs) (j : Nat) : w.cell? ⟨g, j, none⟩ = cs[j]? := by
  simp only [World.cell?, RB] at *; rw [h]; rfl
theorem RB.free {w : World} {g : Nat} {cs : Array Value} (h : RB w g cs) (j : Nat) : w.frozen? ⟨g, j, none⟩ = false := by
  simp only [World.frozen?, RB] at *; rw [h]; simp
theorem RB.put {w : World} {g : Nat} {cs : Array Value} (h : RB w g cs) (j : Nat) (v : Value) : RB (w.setCell ⟨g, j, none⟩ v) g (cs.setIfInBounds j v) := by
  unfold RB at *
  simp [World.setCell, Array.getElem?_modify, h]
theorem RB.puts {g : Nat} : ∀ (vs : List Value) (o : Nat) (w : World) (cs cs' : Array Value), RB w g cs → (vs.foldl (fun (x : Array Value × Nat) v => (x.1.setIfInBounds x.2 v, x.2 + 1)) (cs, o)).1 = cs' → RB (w.setCells g o vs) g cs'
  | [], _, _, _, _, h, he => by subst he; exact h
  | v :: r, o, w, cs, cs', h, he => RB.puts r (o + 1) _ _ cs' (h.put o v) he
theorem RB.set13 {w : World} {g : Nat} {c0 c1 c2 c3 c4 c5 c6 c7 c8 c9 ca cb cc : Value} (h : RB w g #[c0, c1, c2, c3, c4, c5, c6, c7, c8, c9, ca, cb, cc]) :
    w.cell? ⟨g, 0, none⟩ = some c0 ∧ w.cell? ⟨g, 1, none⟩ = some c1 ∧ w.cell? ⟨g, 2, none⟩ = some c2 ∧ w.cell? ⟨g, 3, none⟩ = some c3 ∧ w.cell? ⟨g, 4, none⟩ = some c4 ∧ w.cell? ⟨g, 5, none⟩ = some c5 ∧ w.cell? ⟨g, 6, none⟩ = some c6 ∧
    w.cell? ⟨g, 7, none⟩ = some c7 ∧ w.cell? ⟨g, 8, none⟩ = some c8 ∧ w.cell? ⟨g, 9, none⟩ = some c9 ∧ w.cell? ⟨g, 10, none⟩ = some ca ∧ w.cell? ⟨g, 11, none⟩ = some cb ∧ w.cell? ⟨g, 12, none⟩ = some cc :=
  ⟨h.cell 0, h.cell 1, h.cell 2, h.cell 3, h.cell 4, h.cell 5, h.cell 6, h.cell 7, h.cell 8, h.cell 9, h.cell 10, h.cell 11, h.cell 12⟩
theorem RB.range {w : World} {g o : Nat} {cs : Array Value} (h : RB w g cs) (vs : List Value) (hv : ∀ j, j < vs.length → cs[o + j]? = vs[j]?) : w.rangeAt g o vs := by
  intro j v hj
  rw [h.cell, hv j (List.getElem?_eq_some_iff.1 hj).1]; exact hj
theorem RB.there {w : World} {g : Nat} {cs : Array Value} (h : RB w g cs) (o n : Nat) (hn : o + n ≤ cs.size) : w.there g o n := by
  intro j hj
  refine ⟨?_, h.free _⟩
  rw [h.cell]
  rw [Array.getElem?_eq_getElem (by omega)]; rfl
/-- How far a reader has come, as a value: ten cells. -/
theorem ldPr {ops : Array Oper} {rest : List Oper} {o : Oper} {a : Act} {Q : Exit → Act → World → Prop} {W : World} {g : Nat} {c0 c1 c2 c3 c4 c5 c6 c7 c8 c9 ca cb cc : Value} (h : RB W g #[c0, c1, c2, c3, c4, c5, c6, c7, c8, c9, ca, cb, cc])
    (hgd : o.guard = none) (px : Operand) (ho : o.op = .load 86 px) (hx : a.eval px = .pointer (some ⟨g, 0, none⟩))
    (hK : wpList Tryz.prog ops Q rest (a.put o.dst (.agg #[c0, c1, c2, c3, c4, c5, c6, c7, c8, c9])) W) : wpList Tryz.prog ops Q (o :: rest) a W :=
  wpList_load_mid hgd 86 px ho g 0 hx [c0, c1, c2, c3, c4, c5, c6, c7, c8, c9] _ (h.range _ (by intro j hj; simp at hj; match j, hj with
    | 0, _ | 1, _ | 2, _ | 3, _ | 4, _ | 5, _ | 6, _ | 7, _ | 8, _ | 9, _ => rfl)) Tryz.underlying86 rfl (by kernel_rfl) hK
/-- What was taken of a message, as a value: seven cells. -/
theorem ldMs {ops : Array Oper} {rest : List Oper} {o : Oper} {a : Act} {Q : Exit → Act → World → Prop} {W : World} {g : Nat} {c0 c1 c2 c3 c4 c5 c6 c7 c8 c9 ca cb cc : Value} (h : RB W g #[c0, c1, c2, c3, c4, c5, c6, c7, c8, c9, ca, cb, cc])
    (hgd : o.guard = none) (px : Operand) (ho : o.op = .load 28 px) (hx : a.eval px = .pointer (some ⟨g, 1, none⟩))
    (hK : wpList Tryz.prog ops Q rest (a.put o.dst (.agg #[c1, c2, c3, c4, c5, c6, c7])) W) : wpList Tryz.prog ops Q (o :: rest) a W :=
  wpList_load_mid hgd 28 px ho g 1 hx [c1, c2, c3, c4, c5, c6, c7] _ (h.range _ (by intro j hj; simp at hj; match j, hj with
    | 0, _ | 1, _ | 2, _ | 3, _ | 4, _ | 5, _ | 6, _ => rfl)) Tryz.underlying28 rfl (by kernel_rfl) hK
/-- The same, as a run: for a region that draws its order. -/
theorem run_ldMs {W : World} {g : Nat} {c0 c1 c2 c3 c4 c5 c6 c7 c8 c9 ca cb cc : Value} (h : RB W g #[c0, c1, c2, c3, c4, c5, c6, c7, c8, c9, ca, cb, cc]) :
    (Instr.loadAt 28 (.pointer (some ⟨g, 1, none⟩))).run Tryz.prog W = .ok (.agg #[c1, c2, c3, c4, c5, c6, c7]) W :=
  run_loadAt_mid W g 1 28 [c1, c2, c3, c4, c5, c6, c7] _ (h.range _ (by intro j hj; simp at hj; match j, hj with
    | 0, _ | 1, _ | 2, _ | 3, _ | 4, _ | 5, _ | 6, _ => rfl)) Tryz.underlying28 rfl (by kernel_rfl)
/-- Of what was there, the blocks g and d alone may have changed. -/
structure Buts (g d : Nat) (w w' : World) : Prop where
  os : w'.os = w.os
  tape : w'.tape = w.tape
  output : w'.output = w.output
  size : w.heap.size ≤ w'.heap.size
  block : ∀ k, k < w.heap.size → k ≠ g → k ≠ d → w'.heap[k]? = w.heap[k]?
theorem Buts.refl (g d : Nat) (w : World) : Buts g d w w := ⟨rfl, rfl, rfl, Nat.le_refl _, fun _ _ _ _ => rfl⟩
theorem Buts.trans {g d : Nat} {a b c : World} (h : Buts g d a b) (h' : Buts g d b c) : Buts g d a c :=
  ⟨h'.os.trans h.os, h'.tape.trans h.tape, h'.output.trans h.output, Nat.le_trans h.size h'.size, fun k hk h1 h2 => (h'.block k (Nat.lt_of_lt_of_le hk h.size) h1 h2).trans (h.block k hk h1 h2)⟩
/-- Where the second of them is newer. -/
theorem Buts.trans' {g d e : Nat} {a b c : World} (h : Buts g d a b) (h' : Buts g e b c) (he : e = d ∨ e = g ∨ a.heap.size ≤ e) : Buts g d a c :=
  ⟨h'.os.trans h.os, h'.tape.trans h.tape, h'.output.trans h.output, Nat.le_trans h.size h'.size, fun k hk h1 h2 => (h'.block k (Nat.lt_of_lt_of_le hk h.size) h1 (by omega)).trans (h.block k hk h1 h2)⟩
theorem Buts.of {g d : Nat} {w w' : World} (h : Below w.heap.size w w') : Buts g d w w' := ⟨h.os, h.tape, h.output, h.size, fun k hk _ _ => h.block k hk⟩
theorem Buts.ofBut {g d : Nat} {w w' : World} (h : But d w w') : Buts g d w w' := ⟨h.os, h.tape, h.output, h.size, fun k hk _ h2 => h.block k hk h2⟩
theorem Buts.ofBut1 {g d : Nat} {w w' : World} (h : But g w w') : Buts g d w w' := ⟨h.os, h.tape, h.output, h.size, fun k hk h1 _ => h.block k hk h1⟩
theorem Buts.put {g d : Nat} {a b : World} (h : Buts g d a b) (j : Nat) (v : Value) : Buts g d a (b.setCell ⟨g, j, none⟩ v) := by
  refine ⟨h.os, h.tape, h.output, by simp only [World.size_setCell]; exact h.size, fun k hk h1 h2 => ?_⟩
  rw [Below.heap_setCell _ _ _ _ (by simpa using h1)]
  exact h.block k hk h1 h2
theorem Buts.puts {g d : Nat} {a : World} : ∀ (vs : List Value) (o : Nat) (b : World), Buts g d a b → Buts g d a (b.setCells g o vs)
  | [], _, _, h => h
  | v :: r, o, _, h => Buts.puts r (o + 1) _ (h.put o v)
theorem Buts.more {g d : Nat} {a b c : World} (h : Buts g d a b) (h' : Below b.heap.size b c) : Buts g d a c := h.trans (Buts.of h')
theorem Buts.below {g d B : Nat} {a b : World} (h : Buts g d a b) (hB : B ≤ a.heap.size) (hg : B ≤ g) (hd : B ≤ d) : Below B a b := ⟨h.os, h.tape, h.output, h.size, fun k hk => h.block k (by omega) (by omega) (by omega)⟩
theorem Buts.same {g d : Nat} {a b : World} (h : Buts g g a b) : Buts g d a b := ⟨h.os, h.tape, h.output, h.size, fun k hk h1 _ => h.block k hk h1 h1⟩

theorem FIn.buts {w w' : World} {g d : Nat} {v : Value} {fs : List Fld.F} (h : FIn w v fs) (hb : Buts g d w w') (hg : ∀ ad n c, v = .slice (some ad) n c → ad.block ≠ g ∧ ad.block ≠ d) : FIn w' v fs := by
  obtain ⟨ao, cap, hv, h⟩ := h
  refine ⟨ao, cap, hv, ?_⟩
  rcases h with h | ⟨b, o, h1, h2, h3⟩
  · exact .inl h
  · obtain ⟨n1, n2⟩ := hg ⟨b, o, none⟩ _ _ (by rw [hv, h1])
    have hbl := hb.block b h2 n1 n2
    refine .inr ⟨b, o, h1, Nat.lt_of_lt_of_le h2 hb.size, fun j hj => ?_⟩
    have := h3 j hj
    simp only [World.cell?] at this ⊢
    rw [hbl]; exact this
/-- The same, where no text lies in block d. -/
theorem FIn.buts2 {w w' : World} {g d : Nat} {v : Value} {fs : List Fld.F} (h : FIn w v fs) (hb : Buts g d w w') (hg : ∀ ad n c, v = .slice (some ad) n c → ad.block ≠ g) (hd : ∀ j s, w.cell? ⟨d, j, none⟩ ≠ some (.string s)) : FIn w' v fs := by
  obtain ⟨ao, cap, hv, h⟩ := h
  refine ⟨ao, cap, hv, ?_⟩
  rcases h with h | ⟨b, o, h1, h2, h3⟩
  · exact .inl h
  · by_cases hl : fs = []
    · exact .inl hl
    · have n1 := hg ⟨b, o, none⟩ _ _ (by rw [hv, h1])
      have n2 : b ≠ d := by rintro rfl; exact hd _ _ (h3 0 (List.length_pos_iff.2 hl)).1
      have hbl := hb.block b h2 n1 n2
      refine .inr ⟨b, o, h1, Nat.lt_of_lt_of_le h2 hb.size, fun j hj => ?_⟩
      have := h3 j hj
      simp only [World.cell?] at this ⊢
      rw [hbl]; exact this
theorem DAt.no_str {w : World} {d : Nat} {a n t k e : Int} (h : DAt w d a n t k e) (j : Nat) (x : ByteArray) : w.cell? ⟨d, j, none⟩ ≠ some (.string x) := by
  rw [h.cell]
  rcases j with _ | _ | _ | _ | _ | j <;> simp [dcells]
theorem MaxOk.buts {w w' : World} {g d : Nat} (h : MaxOk w) (hb : Buts g d w w') (hg : 1 ≠ g) (hd : 1 ≠ d) : MaxOk w' := by
  obtain ⟨m, h⟩ := h
  refine ⟨m, ?_⟩
  rw [← h]
  have hl := World.block_lt_of_cell? w _ h
  simp only [World.cell?]
  rw [hb.block _ hl hg hd]
/-- Octets that came in, where a reader has gone on: they are no cells of its own. -/
theorem BIn.buts {w w' : World} {g d : Nat} {v : Value} {l : List UInt8} (h : BIn w v l) (hb : Buts g d w w') (hg : ∀ j x, w.cell? ⟨g, j, none⟩ ≠ some (.int .u8 x)) (hd : ∀ j x, w.cell? ⟨d, j, none⟩ ≠ some (.int .u8 x)) : BIn w' v l := by
  obtain ⟨ao, cap, hv, h1, h2, hc⟩ := h
  refine ⟨ao, cap, hv, h1, h2, ?_⟩
  rcases hc with h | ⟨b, o, h3, h4, h5⟩
  · exact .inl h
  · by_cases hl : l = []
    · exact .inl hl
    · have h6 := h5 0 (List.length_pos_iff.2 hl)
      have n1 : b ≠ g := by rintro rfl; exact hg _ _ h6
      have n2 : b ≠ d := by rintro rfl; exact hd _ _ h6
      refine .inr ⟨b, o, h3, Nat.lt_of_lt_of_le h4 hb.size, fun j hj => ?_⟩
      have := h5 j hj
      simp only [World.cell?] at this ⊢
      rw [hb.block b h4 n1 n2]; exact this
theorem DAt.no_oct {w : World} {d : Nat} {a n t k e : Int} (h : DAt w d a n t k e) (j : Nat) (x : Int) : w.cell? ⟨d, j, none⟩ ≠ some (.int .u8 x) := by
  rw [h.cell]
  rcases j with _ | _ | _ | _ | _ | j <;> simp [dcells]

/-! Where a reader stands, in its cells. -/
def startOf : Ms.S → St.S
  | .first => St.zero
  | .head s => s
  | .sized s _ _ => s
  | .chunk s _ _ => s
def fieldsOf : Ms.S → List Fld.F
  | .sized _ fs _ => fs
  | .chunk _ fs _ => fs
  | _ => []
def leftOf : Ms.S → Nat
  | .sized _ _ n => n
  | _ => 0
/-- What a reader awaits. -/
def awaits : Ms.S → Int
  | .first => 0
  | .head _ => 1
  | .sized _ _ n => if n = 0 then 4 else 2
  | .chunk _ _ c => if Ck.isOver c = true then 4 else 3
/-- The same, ahead of the body. -/
def opens : Ms.S → Int
  | .first => 0
  | .head _ => 1
  | .sized _ _ _ => 2
  | .chunk _ _ _ => 3
def decOf (d : Nat) : Ms.S → Value
  | .chunk _ _ _ => .pointer (some ⟨d, 0, none⟩)
  | _ => .pointer none
/-- Its decoder. -/
def DecAt (w : World) (g d : Nat) : Ms.S → Prop
  | .chunk _ _ c => d ≠ g ∧ 1 ≠ d ∧ Dst w d c 0
  | _ => True
def Fit (fs : List Fld.F) : Prop := fs.length ≤ 128 ∧ ∀ f ∈ fs, f.1.length ≤ 1000000 ∧ f.2.length ≤ 1000000
theorem Fit.small {fs : List Fld.F} (h : Fit fs) : Small fs := ⟨by have := h.1; omega, h.2⟩
theorem Fit.nil : Fit [] := ⟨Nat.zero_le _, fun _ h => by cases h⟩
/-- The cells of a reader that stands at st, awaits a, and has found the fault e. -/
def rcs (a : Int) (st : Ms.S) (fv : Value) (d : Nat) (asks hd : Bool) (e : Int) : Array Value :=
  #[.int .i64 a, .string (str (startOf st).method), .string (str (startOf st).target), .int .i64 (startOf st).status, .string (str (startOf st).reason), .int .i64 (startOf st).minor, fv, .slice none 0 0, .int .i64 (leftOf st), decOf d st, .bool asks, .bool hd, .int .i64 e]
structure RdAt (w : World) (g d : Nat) (asks hd : Bool) (a : Int) (st : Ms.S) (fv : Value) (e : Int) : Prop where
  row : RB w g (rcs a st fv d asks hd e)
  fields : FIn w fv (fieldsOf st)
  nil : NilOk fv
  fit : Fit (fieldsOf st)
  dec : DecAt w g d st
  off : ∀ ad n c, fv = .slice (some ad) n c → ad.block ≠ g
  left : leftOf st ≤ 1048576
  short : Ms.Short (startOf st)
  bare : (∀ s fs n, st ≠ .sized s fs n) → (∀ s fs c, st ≠ .chunk s fs c) → fv = .slice none 0 0
theorem RB.no_oct {w : World} {g : Nat} {c0 c1 c2 c3 c4 c5 c6 c7 c8 c9 ca cb cc : Value} (h : RB w g #[c0, c1, c2, c3, c4, c5, c6, c7, c8, c9, ca, cb, cc]) (hc : ∀ x : Int, ∀ c ∈ [c0, c1, c2, c3, c4, c5, c6, c7, c8, c9, ca, cb, cc], c ≠ .int .u8 x) (j : Nat) (x : Int) : w.cell? ⟨g, j, none⟩ ≠ some (.int .u8 x) := by
  rw [h.cell]
  intro he
  exact hc x _ (by simpa using Array.mem_of_getElem? he) rfl
theorem RB.rcs_oct {w : World} {g : Nat} {a : Int} {st : Ms.S} {fa : Option Addr} {n c : Nat} {d : Nat} {asks hd : Bool} {e : Int} (h : RB w g (rcs a st (.slice fa n c) d asks hd e)) (j : Nat) (x : Int) : w.cell? ⟨g, j, none⟩ ≠ some (.int .u8 x) := by
  refine RB.no_oct h (fun x c hc => ?_) j x
  have hdc : decOf d st ≠ .int .u8 x := by cases st <;> simp [decOf]
  simp at hc
  rcases hc with rfl | rfl | rfl | rfl | rfl | rfl | rfl | rfl | rfl | rfl | rfl | rfl | rfl <;> first | exact hdc | simp
/-- Two blocks of other kinds aren't one. -/
theorem RB.ne_dec {w : World} {g d : Nat} {cs : Array Value} {a n t k e : Int} (h : RB w g cs) (hd : DAt w d a n t k e) : d ≠ g := by
  rintro rfl
  unfold RB DAt at *
  rw [h] at hd
  injection hd with hd
  injection hd with h1 h2
  exact absurd h2 (by decide)
theorem RB.ne_cell {w : World} {g b o : Nat} {cs : Array Value} (h : RB w g cs) {v : Value} (hv : w.cell? ⟨b, o, none⟩ = some v) (hn : v ∉ cs.toList) : b ≠ g := by
  rintro rfl
  rw [h.cell] at hv
  exact hn (Array.mem_toList_iff.2 (Array.mem_of_getElem? hv))
end Go.Proofs.YtlbjjeonchcgbaaGreatDoor
