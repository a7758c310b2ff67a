/- Fields in memory: as an argument, as a row that the call makes itself; one field alone. -/
import Derived.Test.YtlekbnbdjahegaaDoorOctBase
import Derived.Test.YtlekbnbdjahegaaDoorFdMathB
import Derived.Test.YtlekbnbdjahegaaDoorQuiet
import Derived.Deep.RegionWith
namespace Go.Proofs.YtlekbnbdjahegaaDoor
open Go.RowKit

/-- A field as a value. -/
def fval (f : Fld.F) : Value := .agg #[.string (str f.1), .string (str f.2)]
def fieldCells (fs : List Fld.F) : List Value := fs.flatMap fun f => [Value.string (str f.1), .string (str f.2)]
theorem fieldCells_length (fs : List Fld.F) : (fieldCells fs).length = fs.length * 2 := by
  unfold fieldCells; induction fs with
  | nil => rfl
  | cons f r ih => rw [List.flatMap_cons, List.length_append, ih]; simp; omega
theorem fieldCells_append (a b : List Fld.F) : fieldCells (a ++ b) = fieldCells a ++ fieldCells b := by unfold fieldCells; rw [List.flatMap_append]
theorem fieldCells_one (f : Fld.F) : fieldCells [f] = [Value.string (str f.1), .string (str f.2)] := rfl
theorem fieldCells_at (fs : List Fld.F) (j : Nat) (h : j < fs.length) : (fieldCells fs)[j * 2]? = some (.string (str fs[j].1)) ∧ (fieldCells fs)[j * 2 + 1]? = some (.string (str fs[j].2)) := by
  induction fs generalizing j with
  | nil => simp at h
  | cons f r ih =>
    match j with
    | 0 => exact ⟨rfl, rfl⟩
    | j + 1 =>
      have := ih j (by simpa using h)
      have e1 : (j + 1) * 2 = j * 2 + 2 := by omega
      have e2 : (j + 1) * 2 + 1 = j * 2 + 1 + 2 := by omega
      rw [e2, e1]
      exact this
theorem fields_info : (Tryd.prog.info? 49).map (fun i => (i.zero, i.size, i.bytes)) = some (some (.agg #[.string ⟨#[]⟩, .string ⟨#[]⟩]), 2, 32) := by kernel_rfl

/-- v reads as the fields fs. -/
def FIn (w : World) (v : Value) (fs : List Fld.F) : Prop := ∃ ao cap, v = .slice ao fs.length cap ∧ (fs = [] ∨ ∃ b o, ao = some ⟨b, o, none⟩ ∧ b < w.heap.size ∧ ∀ j (hj : j < fs.length), w.cell? ⟨b, o + j * 2, none⟩ = some (.string (str fs[j].1)) ∧ w.cell? ⟨b, o + j * 2 + 1, none⟩ = some (.string (str fs[j].2)))
theorem FIn.later {w w' : World} {v : Value} {fs : List Fld.F} (h : FIn w v fs) (hb : Below w.heap.size w w') : FIn w' v fs := by
  obtain ⟨ao, cap, hv, h⟩ := h
  refine ⟨ao, cap, hv, ?_⟩
  rcases h with h | ⟨b, o, h1, h2, h3⟩
  · exact .inl h
  · exact .inr ⟨b, o, h1, Nat.lt_of_lt_of_le h2 hb.size, fun j hj => ⟨by rw [hb.cell (p := ⟨b, o + j * 2, none⟩) h2]; exact (h3 j hj).1, by rw [hb.cell (p := ⟨b, o + j * 2 + 1, none⟩) h2]; exact (h3 j hj).2⟩⟩
theorem FIn.of_row {w : World} {base : Nat} {v : Value} {fs : List Fld.F} (h : w.ownsRow base 49 2 v fs.length (fieldCells fs)) : FIn w v fs := by
  rcases h.2 with ⟨hv, h0⟩ | ⟨g, cap, cur, hv, hg, hh, h1, h2, h3, h4⟩
  · exact ⟨none, 0, by rw [hv, h0], .inl (List.eq_nil_of_length_eq_zero h0)⟩
  · refine ⟨some ⟨g, 0, none⟩, cap, hv, .inr ⟨g, 0, rfl, lt_of_block hh, fun j hj => ?_⟩⟩
    have h5 : ∀ i, i < fs.length * 2 → cur.toList[i]? = (fieldCells fs)[i]? := fun i hi => by
      have h6 : (cur.toList.take (fs.length * 2))[i]? = (fieldCells fs)[i]? := by rw [h4]
      rw [List.getElem?_take_of_lt hi] at h6
      exact h6
    have h7 := fieldCells_at fs j hj
    constructor
    · have h8 := (h5 (j * 2) (by omega)).trans h7.1
      simp only [World.cell?, hh]
      simpa using h8
    · have h8 := (h5 (j * 2 + 1) (by omega)).trans h7.2
      simp only [World.cell?, hh]
      simpa using h8
theorem FIn.nil {w : World} (cap : Nat) (a : Option Addr) : FIn w (.slice a 0 cap) [] := ⟨a, cap, rfl, .inl rfl⟩

/-- v is a slice of the call's own, and holds the fields fs. -/
def FBuf (W w : World) (v : Value) (fs : List Fld.F) : Prop := w.ownsRow W.heap.size 49 2 v fs.length (fieldCells fs) ∧ Below W.heap.size W w
theorem FBuf.nil (W : World) : FBuf W W (.slice none 0 0) [] := ⟨World.ownsRow_nil _ _ _ _, Below.refl _ _⟩
theorem FBuf.nil_of {W w : World} (h : Below W.heap.size W w) : FBuf W w (.slice none 0 0) [] := ⟨World.ownsRow_nil _ _ _ _, h⟩
theorem row_after {w w' : World} {base e s n : Nat} {v : Value} {xs : List Value} (h : w.ownsRow base e s v n xs) (hb : ∀ (g : Nat) (cur : Array Value), w.heap[g]? = some (Obj.cells cur e (0, 0)) → w'.heap[g]? = some (Obj.cells cur e (0, 0))) : w'.ownsRow base e s v n xs := by
  refine ⟨h.1, ?_⟩
  rcases h.2 with h0 | ⟨g, cap, cur, hv, hg, hh, rest⟩
  · exact .inl h0
  · exact .inr ⟨g, cap, cur, hv, hg, hb g cur hh, rest⟩
theorem row_below {w w' : World} {base e s n : Nat} {v : Value} {xs : List Value} (h : w.ownsRow base e s v n xs) (hb : Below w.heap.size w w') : w'.ownsRow base e s v n xs :=
  row_after h (fun g cur hg => by rw [hb.block g (lt_of_block hg)]; exact hg)
theorem FBuf.after {W w w' : World} {v : Value} {fs : List Fld.F} (h : FBuf W w v fs) (hb : Below w.heap.size w w') : FBuf W w' v fs := ⟨row_below h.1 hb, h.2.trans (hb.mono h.2.size)⟩
theorem FBuf.fin {W w : World} {v : Value} {fs : List Fld.F} (h : FBuf W w v fs) : FIn w v fs := FIn.of_row h.1

/-- 'append(fs, f)'. -/
theorem appF {ops : Array Oper} {rest : List Oper} {o : Oper} {a : Act} {Q : Exit → Act → World → Prop} {W w : World} {v : Value} {fs : List Fld.F} (h : FBuf W w v fs) (f : Fld.F) (hlen : fs.length ≤ 1000000000)
    (hgd : o.guard = none) (s x : Operand) (ho : o.op = .call { callee := .builtin .append, args := #[s, x], argTypes := #[24, 24] })
    (s0 s1 : ByteArray) (h0 : s0 = str f.1) (h1 : s1 = str f.2) (hs : a.eval s = v) (hx : a.eval x = .slice (some ⟨w.heap.size, 0, none⟩) 1 1)
    (hK : ∀ v' w', FBuf W w' v' (fs ++ [f]) → wpList Tryd.prog ops Q rest (a.put o.dst v') w') : wpList Tryd.prog ops Q (o :: rest) a (w.alloc (.cells #[.string s0, .string s1] 49)) := by
  subst h0 h1
  obtain ⟨i0, hi, hz0, hz1, hz2⟩ := info_parts fields_info
  have hA := h.after ((Below.refl _ w).alloc (Nat.le_refl _) (.cells #[.string (str f.1), .string (str f.2)] 49))
  refine wpList_append_own _ hgd s x _ ho W.heap.size 49 i0 _ 2 32 Tryd.underlying24 hi hz0 hz1 hz2 rfl (by decide) v fs.length (fieldCells fs) hs hA.1 ⟨w.heap.size, 0, none⟩ 1 1 (fieldCells [f]) hx rfl ?_ ?_ (by unfold maxLen; omega) (by omega) hA.2.size (fun v' w' h1 h2 _ => ?_)
  · intro j u hj
    match j, hj with
    | 0, hj =>
      simp [fieldCells] at hj; subst hj
      show (w.alloc (.cells #[.string (str f.1), .string (str f.2)] 49)).cell? ⟨w.heap.size, 0 + 0, none⟩ = _
      rw [World.cell?_alloc_at _ _ _ _ rfl]; rfl
    | 1, hj =>
      simp [fieldCells] at hj; subst hj
      show (w.alloc (.cells #[.string (str f.1), .string (str f.2)] 49)).cell? ⟨w.heap.size, 0 + 1, none⟩ = _
      rw [World.cell?_alloc_at _ _ _ _ rfl]; rfl
    | j + 2, hj => simp [fieldCells] at hj
  · intro u hu; simp [fieldCells] at hu; rcases hu with rfl | rfl <;> rfl
  · refine hK v' w' ⟨?_, hA.2.grown h2 hA.2.size (fun k hk => (hA.1.lt k hk).1)⟩
    rw [fieldCells_append, List.length_append]; exact h1

set_option maxHeartbeats 400000 in
theorem right_s (f : Fld.F) (w : World) (h0 : f.1.length ≤ 1000000) (h1 : f.2.length ≤ 1000000) :
    Calls Tryd.prog 27 #[fval f] w fun e w' => e = .returned (.bool (Fld.right f)) ∧ Below w.heap.size w w' := by
  obtain ⟨n, v⟩ := f
  have z0 : (str n).size ≤ 1000000 := by rw [str_size]; exact h0
  have z1 : (str v).size ≤ 1000000 := by rw [str_size]; exact h1
  have cT := Token_s (str n) (w.alloc (.cells #[.string (str n), .string (str v)] 49)) z0
  rw [str_list] at cT
  have cV := Value_s (str v) (w.alloc (.cells #[.string (str n), .string (str v)] 49)) z1
  rw [str_list] at cV
  have hb : Below w.heap.size w (w.alloc (.cells #[.string (str n), .string (str v)] 49)) := (Below.refl _ w).alloc (Nat.le_refl _) _
  unfold fval
  generalize str n = sn at *
  generalize str v = sv at *
  obtain ⟨tb, ht⟩ : ∃ tb, tb = Oct.token n := ⟨_, rfl⟩
  obtain ⟨vb, hv⟩ : ∃ vb, vb = Oct.value v := ⟨_, rfl⟩
  rw [← ht] at cT
  rw [← hv] at cV
  have HR : Hid (Fld.right (n, v) = (tb && vb)) := Lib.hid (by rw [ht, hv]; rfl)
  clear ht hv h0 h1 z0 z1
  cases tb with
  | true =>
    go_enter Tryd.func27, Tryd.ntmps27
    go_wp2_with (first | (go_at_call 40; refine cT.mono ?_; rintro e w1 ⟨rfl, rfl⟩) | (go_at_call 41; refine cV.mono ?_; rintro e w2 ⟨rfl, hb2⟩))
    go_ret
    exact ⟨ret_bool (by rw [HR.out]; simp), hb.trans (hb2.mono hb.size)⟩
  | false =>
    go_enter Tryd.func27, Tryd.ntmps27
    go_wp2_with (first | (go_at_call 40; refine cT.mono ?_; rintro e w1 ⟨rfl, rfl⟩) | (go_at_call 41; refine cV.mono ?_; rintro e w2 ⟨rfl, hb2⟩))
    go_ret
    exact ⟨ret_bool (by rw [HR.out]; simp), hb⟩

set_option maxHeartbeats 400000 in
theorem fits_s (f : Fld.F) (w : World) (h0 : f.1.length ≤ 1000000) (h1 : f.2.length ≤ 1000000) :
    Calls Tryd.prog 29 #[fval f] w fun e w' => e = .returned (.bool (Fld.right f)) ∧ Below w.heap.size w w' := by
  obtain ⟨n, v⟩ := f
  have z0 : (str n).size ≤ 1000000 := by rw [str_size]; exact h0
  have z1 : (str v).size ≤ 1000000 := by rw [str_size]; exact h1
  have cT := rToken_s (str n) (w.alloc (.cells #[.string (str n), .string (str v)] 49)) z0
  rw [str_list] at cT
  have cV := fun w => rValue_s (str v) w z1
  rw [str_list] at cV
  have hb : Below w.heap.size w (w.alloc (.cells #[.string (str n), .string (str v)] 49)) := (Below.refl _ w).alloc (Nat.le_refl _) _
  have hc1 : (w.alloc (.cells #[.string (str n), .string (str v)] 49)).cell? ⟨w.heap.size, 1, none⟩ = some (.string (str v)) := by
    rw [World.cell?_alloc_at _ _ _ _ rfl]; rfl
  unfold fval
  generalize str n = sn at *
  generalize str v = sv at *
  obtain ⟨tb, ht⟩ : ∃ tb, tb = Oct.token n := ⟨_, rfl⟩
  obtain ⟨vb, hv⟩ : ∃ vb, vb = Oct.value v := ⟨_, rfl⟩
  rw [← ht] at cT
  rw [← hv] at cV
  have HR : Hid (Fld.right (n, v) = (tb && vb)) := Lib.hid (by rw [ht, hv]; rfl)
  clear ht hv h0 h1 z0 z1
  have hl : w.heap.size < (w.alloc (.cells #[.string sn, .string sv] 49)).heap.size := by simp
  cases tb with
  | true =>
    go_enter Tryd.func29, Tryd.ntmps29
    go_wp2_with fail
    refine cT.mono ?_
    rintro e w1 ⟨rfl, hb1⟩
    have hc2 := (hb1.cell (p := ⟨w.heap.size, 1, none⟩) hl).trans hc1
    go_wp2_with (go_at_call 44; refine (cV _).mono ?_; rintro e w2 ⟨rfl, rfl⟩)
    go_ret
    exact ⟨ret_bool (by rw [HR.out]; simp), hb.trans (hb1.mono hb.size)⟩
  | false =>
    go_enter Tryd.func29, Tryd.ntmps29
    go_wp2_with fail
    refine cT.mono ?_
    rintro e w1 ⟨rfl, hb1⟩
    go_wp2_with fail
    go_ret
    exact ⟨ret_bool (by rw [HR.out]; simp), hb.trans (hb1.mono hb.size)⟩
end Go.Proofs.YtlekbnbdjahegaaDoor
