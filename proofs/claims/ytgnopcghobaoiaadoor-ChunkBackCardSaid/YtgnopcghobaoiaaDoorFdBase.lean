/- What lies below, out of the texts of the layers under this one: Fd1, Fd12, Fd13, Fd14, Fd15, Fd2, Fd3, Fd4, Fd5, FdMath, FdMathB, FdMathC, FdMathG. -/
import Derived.Test.YtgnopcghobaoiaaDoorFdMath
import Derived.Test.YtgnopcghobaoiaaDoorOctBase
import Derived.Test.YtgnopcghobaoiaaDoorQuiet
import Derived.Deep.RegionWith
import Derived.BigQuiet
import Derived.Deep.QuietTactic
import Derived.Lib.AppendStr
import Derived.Maps.OwnSet
import Derived.Maps.AppendAt
import Derived.StringKeys
import Derived.Test.YtgnopcghobaoiaaDoorShelf
import Derived.Deep.DeepCutAuto
import Derived.Lib.SlBytesConst
import Derived.LoopTactic
namespace Go.Proofs.YtgnopcghobaoiaaDoor
open Go.RowKit

/-- A field as a value. -/
def fval (f : Fld.F) : Value := .agg #[.string (str f.1), .string (str f.2)]
def fieldCells (fs : List Fld.F) : List Value := fs.flatMap fun f => [Value.string (str f.1), .string (str f.2)]
theorem fieldCells_length (fs : List Fld.F) : (fieldCells fs).length = fs.length * 2 := by
  unfold fieldCells; induction fs with
  | nil => rfl
  | cons f r ih => rw [List.flatMap_cons, List.length_append, ih]; simp; omega
theorem fieldCells_append (a b : List Fld.F) : fieldCells (a ++ b) = fieldCells a ++ fieldCells b := by unfold fieldCells; rw [List.flatMap_append]
theorem fieldCells_one (f : Fld.F) : fieldCells [f] = [Value.string (str f.1), .string (str f.2)] := rfl
theorem fieldCells_at (fs : List Fld.F) (j : Nat) (h : j < fs.length) : (fieldCells fs)[j * 2]? = some (.string (str fs[j].1)) ∧ (fieldCells fs)[j * 2 + 1]? = some (.string (str fs[j].2)) := by
  induction fs generalizing j with
  | nil => simp at h
  | cons f r ih =>
    match j with
    | 0 => exact ⟨rfl, rfl⟩
    | j + 1 =>
      have := ih j (by simpa using h)
      have e1 : (j + 1) * 2 = j * 2 + 2 := by omega
      have e2 : (j + 1) * 2 + 1 = j * 2 + 1 + 2 := by omega
      rw [e2, e1]
      exact this
theorem fields_info : (Tryd.prog.info? 57).map (fun i => (i.zero, i.size, i.bytes)) = some (some (.agg #[.string ⟨#[]⟩, .string ⟨#[]⟩]), 2, 32) := by kernel_rfl

/-- v reads as the fields fs. -/
def FIn (w : World) (v : Value) (fs : List Fld.F) : Prop := ∃ ao cap, v = .slice ao fs.length cap ∧ (fs = [] ∨ ∃ b o, ao = some ⟨b, o, none⟩ ∧ b < w.heap.size ∧ ∀ j (hj : j < fs.length), w.cell? ⟨b, o + j * 2, none⟩ = some (.string (str fs[j].1)) ∧ w.cell? ⟨b, o + j * 2 + 1, none⟩ = some (.string (str fs[j].2)))
theorem FIn.later {w w' : World} {v : Value} {fs : List Fld.F} (h : FIn w v fs) (hb : Below w.heap.size w w') : FIn w' v fs := by
  obtain ⟨ao, cap, hv, h⟩ := h
  refine ⟨ao, cap, hv, ?_⟩
  rcases h with h | ⟨b, o, h1, h2, h3⟩
  · exact .inl h
  · exact .inr ⟨b, o, h1, Nat.lt_of_lt_of_le h2 hb.size, fun j hj => ⟨by rw [hb.cell (p := ⟨b, o + j * 2, none⟩) h2]; exact (h3 j hj).1, by rw [hb.cell (p := ⟨b, o + j * 2 + 1, none⟩) h2]; exact (h3 j hj).2⟩⟩
theorem FIn.of_row {w : World} {base : Nat} {v : Value} {fs : List Fld.F} (h : w.ownsRow base 57 2 v fs.length (fieldCells fs)) : FIn w v fs := by
  rcases h.2 with ⟨hv, h0⟩ | ⟨g, cap, cur, hv, hg, hh, h1, h2, h3, h4⟩
  · exact ⟨none, 0, by rw [hv, h0], .inl (List.eq_nil_of_length_eq_zero h0)⟩
  · refine ⟨some ⟨g, 0, none⟩, cap, hv, .inr ⟨g, 0, rfl, lt_of_block hh, fun j hj => ?_⟩⟩
    have h5 : ∀ i, i < fs.length * 2 → cur.toList[i]? = (fieldCells fs)[i]? := fun i hi => by
      have h6 : (cur.toList.take (fs.length * 2))[i]? = (fieldCells fs)[i]? := by rw [h4]
      rw [List.getElem?_take_of_lt hi] at h6
      exact h6
    have h7 := fieldCells_at fs j hj
    constructor
    · have h8 := (h5 (j * 2) (by omega)).trans h7.1
      simp only [World.cell?, hh]
      simpa using h8
    · have h8 := (h5 (j * 2 + 1) (by omega)).trans h7.2
      simp only [World.cell?, hh]
      simpa using h8
theorem FIn.nil {w : World} (cap : Nat) (a : Option Addr) : FIn w (.slice a 0 cap) [] := ⟨a, cap, rfl, .inl rfl⟩

/-- v is a slice of the call's own, and holds the fields fs. -/
def FBuf (W w : World) (v : Value) (fs : List Fld.F) : Prop := w.ownsRow W.heap.size 57 2 v fs.length (fieldCells fs) ∧ Below W.heap.size W w
theorem FBuf.nil (W : World) : FBuf W W (.slice none 0 0) [] := ⟨World.ownsRow_nil _ _ _ _, Below.refl _ _⟩
theorem FBuf.nil_of {W w : World} (h : Below W.heap.size W w) : FBuf W w (.slice none 0 0) [] := ⟨World.ownsRow_nil _ _ _ _, h⟩
theorem row_after {w w' : World} {base e s n : Nat} {v : Value} {xs : List Value} (h : w.ownsRow base e s v n xs) (hb : ∀ (g : Nat) (cur : Array Value), w.heap[g]? = some (Obj.cells cur e (0, 0)) → w'.heap[g]? = some (Obj.cells cur e (0, 0))) : w'.ownsRow base e s v n xs := by
  refine ⟨h.1, ?_⟩
  rcases h.2 with h0 | ⟨g, cap, cur, hv, hg, hh, rest⟩
  · exact .inl h0
  · exact .inr ⟨g, cap, cur, hv, hg, hb g cur hh, rest⟩
theorem row_below {w w' : World} {base e s n : Nat} {v : Value} {xs : List Value} (h : w.ownsRow base e s v n xs) (hb : Below w.heap.size w w') : w'.ownsRow base e s v n xs :=
  row_after h (fun g cur hg => by rw [hb.block g (lt_of_block hg)]; exact hg)
theorem FBuf.after {W w w' : World} {v : Value} {fs : List Fld.F} (h : FBuf W w v fs) (hb : Below w.heap.size w w') : FBuf W w' v fs := ⟨row_below h.1 hb, h.2.trans (hb.mono h.2.size)⟩
theorem FBuf.fin {W w : World} {v : Value} {fs : List Fld.F} (h : FBuf W w v fs) : FIn w v fs := FIn.of_row h.1

/-- 'append(fs, f)'. -/
theorem appF {ops : Array Oper} {rest : List Oper} {o : Oper} {a : Act} {Q : Exit → Act → World → Prop} {W w : World} {v : Value} {fs : List Fld.F} (h : FBuf W w v fs) (f : Fld.F) (hlen : fs.length ≤ 1000000000)
    (hgd : o.guard = none) (s x : Operand) (ho : o.op = .call { callee := .builtin .append, args := #[s, x], argTypes := #[43, 43] })
    (s0 s1 : ByteArray) (h0 : s0 = str f.1) (h1 : s1 = str f.2) (hs : a.eval s = v) (hx : a.eval x = .slice (some ⟨w.heap.size, 0, none⟩) 1 1)
    (hK : ∀ v' w', FBuf W w' v' (fs ++ [f]) → wpList Tryd.prog ops Q rest (a.put o.dst v') w') : wpList Tryd.prog ops Q (o :: rest) a (w.alloc (.cells #[.string s0, .string s1] 57)) := by
  subst h0 h1
  obtain ⟨i0, hi, hz0, hz1, hz2⟩ := info_parts fields_info
  have hA := h.after ((Below.refl _ w).alloc (Nat.le_refl _) (.cells #[.string (str f.1), .string (str f.2)] 57))
  refine wpList_append_own _ hgd s x _ ho W.heap.size 57 i0 _ 2 32 Tryd.underlying43 hi hz0 hz1 hz2 rfl (by decide) v fs.length (fieldCells fs) hs hA.1 ⟨w.heap.size, 0, none⟩ 1 1 (fieldCells [f]) hx rfl ?_ ?_ (by unfold maxLen; omega) (by omega) hA.2.size (fun v' w' h1 h2 _ => ?_)
  · intro j u hj
    match j, hj with
    | 0, hj =>
      simp [fieldCells] at hj; subst hj
      show (w.alloc (.cells #[.string (str f.1), .string (str f.2)] 57)).cell? ⟨w.heap.size, 0 + 0, none⟩ = _
      rw [World.cell?_alloc_at _ _ _ _ rfl]; rfl
    | 1, hj =>
      simp [fieldCells] at hj; subst hj
      show (w.alloc (.cells #[.string (str f.1), .string (str f.2)] 57)).cell? ⟨w.heap.size, 0 + 1, none⟩ = _
      rw [World.cell?_alloc_at _ _ _ _ rfl]; rfl
    | j + 2, hj => simp [fieldCells] at hj
  · intro u hu; simp [fieldCells] at hu; rcases hu with rfl | rfl <;> rfl
  · refine hK v' w' ⟨?_, hA.2.grown h2 hA.2.size (fun k hk => (hA.1.lt k hk).1)⟩
    rw [fieldCells_append, List.length_append]; exact h1

set_option maxHeartbeats 400000 in
theorem right_s (f : Fld.F) (w : World) (h0 : f.1.length ≤ 1000000) (h1 : f.2.length ≤ 1000000) :
    Calls Tryd.prog 57 #[fval f] w fun e w' => e = .returned (.bool (Fld.right f)) ∧ Below w.heap.size w w' := by
  obtain ⟨n, v⟩ := f
  have z0 : (str n).size ≤ 1000000 := by rw [str_size]; exact h0
  have z1 : (str v).size ≤ 1000000 := by rw [str_size]; exact h1
  have cT := Token_s (str n) (w.alloc (.cells #[.string (str n), .string (str v)] 57)) z0
  rw [str_list] at cT
  have cV := Value_s (str v) (w.alloc (.cells #[.string (str n), .string (str v)] 57)) z1
  rw [str_list] at cV
  have hb : Below w.heap.size w (w.alloc (.cells #[.string (str n), .string (str v)] 57)) := (Below.refl _ w).alloc (Nat.le_refl _) _
  unfold fval
  generalize str n = sn at *
  generalize str v = sv at *
  obtain ⟨tb, ht⟩ : ∃ tb, tb = Oct.token n := ⟨_, rfl⟩
  obtain ⟨vb, hv⟩ : ∃ vb, vb = Oct.value v := ⟨_, rfl⟩
  rw [← ht] at cT
  rw [← hv] at cV
  have HR : Hid (Fld.right (n, v) = (tb && vb)) := Lib.hid (by rw [ht, hv]; rfl)
  clear ht hv h0 h1 z0 z1
  cases tb with
  | true =>
    go_enter Tryd.func57, Tryd.ntmps57
    go_wp2_with (first | (go_at_call 74; refine cT.mono ?_; rintro e w1 ⟨rfl, rfl⟩) | (go_at_call 38; refine cV.mono ?_; rintro e w2 ⟨rfl, hb2⟩))
    go_ret
    exact ⟨ret_bool (by rw [HR.out]; simp), hb.trans (hb2.mono hb.size)⟩
  | false =>
    go_enter Tryd.func57, Tryd.ntmps57
    go_wp2_with (first | (go_at_call 74; refine cT.mono ?_; rintro e w1 ⟨rfl, rfl⟩) | (go_at_call 38; refine cV.mono ?_; rintro e w2 ⟨rfl, hb2⟩))
    go_ret
    exact ⟨ret_bool (by rw [HR.out]; simp), hb⟩

set_option maxHeartbeats 400000 in
theorem fits_s (f : Fld.F) (w : World) (h0 : f.1.length ≤ 1000000) (h1 : f.2.length ≤ 1000000) :
    Calls Tryd.prog 25 #[fval f] w fun e w' => e = .returned (.bool (Fld.right f)) ∧ Below w.heap.size w w' := by
  obtain ⟨n, v⟩ := f
  have z0 : (str n).size ≤ 1000000 := by rw [str_size]; exact h0
  have z1 : (str v).size ≤ 1000000 := by rw [str_size]; exact h1
  have cT := rToken_s (str n) (w.alloc (.cells #[.string (str n), .string (str v)] 57)) z0
  rw [str_list] at cT
  have cV := fun w => rValue_s (str v) w z1
  rw [str_list] at cV
  have hb : Below w.heap.size w (w.alloc (.cells #[.string (str n), .string (str v)] 57)) := (Below.refl _ w).alloc (Nat.le_refl _) _
  have hc1 : (w.alloc (.cells #[.string (str n), .string (str v)] 57)).cell? ⟨w.heap.size, 1, none⟩ = some (.string (str v)) := by
    rw [World.cell?_alloc_at _ _ _ _ rfl]; rfl
  unfold fval
  generalize str n = sn at *
  generalize str v = sv at *
  obtain ⟨tb, ht⟩ : ∃ tb, tb = Oct.token n := ⟨_, rfl⟩
  obtain ⟨vb, hv⟩ : ∃ vb, vb = Oct.value v := ⟨_, rfl⟩
  rw [← ht] at cT
  rw [← hv] at cV
  have HR : Hid (Fld.right (n, v) = (tb && vb)) := Lib.hid (by rw [ht, hv]; rfl)
  clear ht hv h0 h1 z0 z1
  have hl : w.heap.size < (w.alloc (.cells #[.string sn, .string sv] 57)).heap.size := by simp
  cases tb with
  | true =>
    go_enter Tryd.func25, Tryd.ntmps25
    go_wp2_with fail
    refine cT.mono ?_
    rintro e w1 ⟨rfl, hb1⟩
    have hc2 := (hb1.cell (p := ⟨w.heap.size, 1, none⟩) hl).trans hc1
    go_wp2_with (go_at_call 33; refine (cV _).mono ?_; rintro e w2 ⟨rfl, rfl⟩)
    go_ret
    exact ⟨ret_bool (by rw [HR.out]; simp), hb.trans (hb1.mono hb.size)⟩
  | false =>
    go_enter Tryd.func25, Tryd.ntmps25
    go_wp2_with fail
    refine cT.mono ?_
    rintro e w1 ⟨rfl, hb1⟩
    go_wp2_with fail
    go_ret
    exact ⟨ret_bool (by rw [HR.out]; simp), hb.trans (hb1.mono hb.size)⟩
end Go.Proofs.YtgnopcghobaoiaaDoor

namespace Go.Proofs.YtgnopcghobaoiaaDoor
open Go.RowKit

theorem bdrewN (w : World) (n : Nat) : Below w.heap.size w (w.drewN n) := ⟨rfl, rfl, rfl, Nat.le_refl _, fun _ _ => rfl⟩
theorem bdrew2 (w : World) (m n : Nat) : Below w.heap.size w ((w.drewN m).drewN n) := ⟨rfl, rfl, rfl, Nat.le_refl _, fun _ _ => rfl⟩

def sameF (xs ys : List Fld.F) : Bool := decide (xs = ys)
theorem sameF_self (xs : List Fld.F) : sameF xs xs = true := by simp [sameF]
theorem sameF_len {xs ys : List Fld.F} (h : ¬ xs.length = ys.length) : false = sameF xs ys := by
  unfold sameF; rw [decide_eq_false]; intro e; rw [e] at h; exact h rfl
theorem sameF_at {xs ys : List Fld.F} {k : Nat} (h1 : k < xs.length) (h2 : k < ys.length) (h : ¬ xs[k] = ys[k]) : false = sameF xs ys := by
  unfold sameF; rw [decide_eq_false]; intro e; subst e; exact h rfl
theorem sameF_step {xs ys : List Fld.F} {k : Nat} (h1 : k < xs.length) (h2 : k < ys.length) (h : xs.take k = ys.take k) (he : xs[k] = ys[k]) : xs.take (k + 1) = ys.take (k + 1) := by
  rw [List.take_succ_eq_append_getElem h1, List.take_succ_eq_append_getElem h2, h, he]
theorem sameF_all {xs ys : List Fld.F} {k : Nat} (hk : xs.length ≤ k) (h1 : xs.length = ys.length) (h : xs.take k = ys.take k) : true = sameF xs ys := by
  rw [List.take_of_length_le hk, List.take_of_length_le (by omega)] at h
  unfold sameF; rw [decide_eq_true h]

/-- Few fields, none of them long. -/
def shortF (fs : List Fld.F) (most : Nat) : Bool := decide (fs.length ≤ most) && fs.all fun f => decide (f.1.length ≤ 500) && decide (f.2.length ≤ 2000)
theorem shortF_spec {fs : List Fld.F} {most : Nat} (h : shortF fs most = true) : fs.length ≤ most ∧ ∀ f ∈ fs, f.1.length ≤ 500 ∧ f.2.length ≤ 2000 := by
  unfold shortF at h
  simp only [Bool.and_eq_true, decide_eq_true_eq, List.all_eq_true] at h
  exact h
theorem shortF_many {fs : List Fld.F} {most : Nat} (h : most < fs.length) : false = shortF fs most := by
  unfold shortF; rw [decide_eq_false (by omega)]; rfl
theorem shortF_long {fs : List Fld.F} {most : Nat} {k : Nat} (hk : k < fs.length) (h : 500 < fs[k].1.length ∨ 2000 < fs[k].2.length) : false = shortF fs most := by
  have h2 : (fs.all fun f => decide (f.1.length ≤ 500) && decide (f.2.length ≤ 2000)) = false := by
    rw [List.all_eq_false]
    refine ⟨fs[k], List.getElem_mem hk, ?_⟩
    rw [Bool.and_eq_true, decide_eq_true_eq, decide_eq_true_eq]; omega
  unfold shortF; rw [h2, Bool.and_false]
theorem shortF_all {fs : List Fld.F} {most : Nat} (hm : fs.length ≤ most) (h : ∀ j (hj : j < fs.length), fs[j].1.length ≤ 500 ∧ fs[j].2.length ≤ 2000) : true = shortF fs most := by
  have h2 : (fs.all fun f => decide (f.1.length ≤ 500) && decide (f.2.length ≤ 2000)) = true := by
    rw [List.all_eq_true]
    intro f hf
    obtain ⟨j, hj, rfl⟩ := List.getElem_of_mem hf
    rw [decide_eq_true (h j hj).1, decide_eq_true (h j hj).2]; rfl
  unfold shortF; rw [h2, decide_eq_true hm]; rfl

end Go.Proofs.YtgnopcghobaoiaaDoor

namespace Go.Proofs.YtgnopcghobaoiaaDoor
open Go.RowKit

/-- Texts that the walks can reckon with. -/
def Small (fs : List Fld.F) : Prop := fs.length ≤ 1000000 ∧ ∀ f ∈ fs, f.1.length ≤ 1000000 ∧ f.2.length ≤ 1000000
theorem Small.at_ {fs : List Fld.F} (h : Small fs) (k : Nat) (hk : k < fs.length) : fs[k].1.length ≤ 1000000 ∧ fs[k].2.length ≤ 1000000 := h.2 _ (List.getElem_mem hk)
theorem Small.size {fs : List Fld.F} (h : Small fs) (k : Nat) : Fld.size (fs.take k) ≤ 2 + 2000004 * k := by
  induction k with
  | zero => exact Nat.le_refl 2
  | succ k ih =>
    by_cases hk : k < fs.length
    · rw [Fld.size_snoc fs k hk]
      have := h.at_ k hk
      unfold Fld.weight; omega
    · rw [List.take_of_length_le (by omega)]; rw [List.take_of_length_le (by omega)] at ih; omega
theorem shortF_small {fs : List Fld.F} {most : Nat} (h : shortF fs most = true) (hm : most ≤ 1000000) : Small fs := by
  obtain ⟨h1, h2⟩ := shortF_spec h
  exact ⟨by omega, fun f hf => by have := h2 f hf; omega⟩
theorem ret_num {k : IntKind} {a b : Int} (h : a = b) : Ending.returned (.int k a) = .returned (.int k b) := by rw [h]

/-- What a walk over fields holds of them. -/
def Cells (w : World) (b o n : Nat) (xs : List Fld.F) : Prop := ∃ hn : n = xs.length, b < w.heap.size ∧ ∀ j (hj : j < n), w.cell? ⟨b, o + j * 2, none⟩ = some (.string (str (xs[j]'(hn ▸ hj)).1)) ∧ w.cell? ⟨b, o + j * 2 + 1, none⟩ = some (.string (str (xs[j]'(hn ▸ hj)).2))
theorem Cells.at_ {w w' : World} {b o n : Nat} {xs : List Fld.F} (h : Cells w b o n xs) (hb : Below w.heap.size w w') (k : Nat) (hk : k < n) (hx : k < xs.length) :
    w'.cell? ⟨b, o + k * 2, none⟩ = some (.string (str xs[k].1)) ∧ w'.cell? ⟨b, o + k * 2 + 1, none⟩ = some (.string (str xs[k].2)) := by
  obtain ⟨hn, hl, h⟩ := h
  exact ⟨(hb.cell (p := ⟨b, o + k * 2, none⟩) hl).trans (h k hk).1, (hb.cell (p := ⟨b, o + k * 2 + 1, none⟩) hl).trans (h k hk).2⟩
theorem Cells.of {w : World} {ao : Option Addr} {xs : List Fld.F} {n : Nat} (hn : n = xs.length) (h0 : n ≠ 0)
    (h : xs = [] ∨ ∃ b o, ao = some ⟨b, o, none⟩ ∧ b < w.heap.size ∧ ∀ j (hj : j < xs.length), w.cell? ⟨b, o + j * 2, none⟩ = some (.string (str xs[j].1)) ∧ w.cell? ⟨b, o + j * 2 + 1, none⟩ = some (.string (str xs[j].2))) :
    ∃ b o, ao = some ⟨b, o, none⟩ ∧ Cells w b o n xs := by
  obtain ⟨b, o, h1, h2, h3⟩ := h.resolve_left (fun e => h0 (by rw [hn, e]; rfl))
  subst hn
  exact ⟨b, o, h1, rfl, h2, h3⟩

/-- A field's own block. -/
def fobj (x y : ByteArray) : Obj := .cells #[.string x, .string y] 57
theorem fcell {w w1 : World} {x y : ByteArray} (hb : Below (w.alloc (.cells #[.string x, .string y] 57)).heap.size (w.alloc (.cells #[.string x, .string y] 57)) w1) :
    w1.cell? ⟨w.heap.size, 0, none⟩ = some (.string x) ∧ w1.cell? ⟨w.heap.size, 1, none⟩ = some (.string y) ∧ Below w.heap.size w w1 := by
  have hl : w.heap.size < (w.alloc (.cells #[.string x, .string y] 57)).heap.size := by simp
  refine ⟨?_, ?_, ((Below.refl _ w).alloc (Nat.le_refl _) _).trans (hb.mono (by simp))⟩
  · rw [hb.cell (p := ⟨w.heap.size, 0, none⟩) hl, World.cell?_alloc_at _ _ _ _ rfl]; rfl
  · rw [hb.cell (p := ⟨w.heap.size, 1, none⟩) hl, World.cell?_alloc_at _ _ _ _ rfl]; rfl

end Go.Proofs.YtgnopcghobaoiaaDoor

namespace Go.Proofs.YtgnopcghobaoiaaDoor
open Go.RowKit

/-- 'append(b, s..)', s a string. -/
theorem appStr {ops : Array Oper} {rest : List Oper} {o : Oper} {a : Act} {Q : Exit → Act → World → Prop} {W w : World} {v : Value} {l : List UInt8} (h : Buf W w v l) (s : ByteArray) (hlen : l.length + s.size ≤ 100000000000)
    (hgd : o.guard = none) (sl x : Operand) (ho : o.op = .call { callee := .builtin .append, args := #[sl, x], argTypes := #[22, 9] })
    (hs : a.eval sl = v) (hx : a.eval x = .string s)
    (hK : ∀ v' w', Buf W w' v' (l ++ s.data.toList) → wpList Tryd.prog ops Q rest (a.put o.dst v') w') : wpList Tryd.prog ops Q (o :: rest) a w := by
  obtain ⟨i0, hi, hz0, hz1, hz2⟩ := info_parts bytes_info
  refine Lib.wpList_append_own_string _ hgd sl x _ _ ho W.heap.size 5 i0 Tryd.underlying22 Tryd.underlying9 hi hz0 hz1 hz2 v l.length (Lib.byteCells l) hs h.1 s hx (by unfold maxLen; omega) (by omega) h.2.size (fun v' w' h1 h2 _ => ?_)
  refine hK v' w' ⟨?_, h.2.grown h2 h.2.size (fun k hk => (h.1.lt k hk).1)⟩
  have e : Lib.byteCells (l ++ s.data.toList) = Lib.byteCells l ++ Lib.strCells s := by simp [Lib.byteCells, Lib.strCells]
  rw [e, List.length_append, Oct.length_size]
  exact h1

theorem line_data (x y : ByteArray) (f : Fld.F) (hx : x = str f.1) (hy : y = str f.2) : (x ++ ⟨#[58, 32]⟩ ++ y ++ ⟨#[13, 10]⟩ : ByteArray).data.toList = Fld.line f := by
  subst hx hy
  unfold Fld.line
  simp [str]
end Go.Proofs.YtgnopcghobaoiaaDoor

namespace Go.Proofs.YtgnopcghobaoiaaDoor
open Go.RowKit

theorem undrew {w w1 : World} (h : Below w.drew.heap.size w.drew w1) : Below w.heap.size w w1 := (Below.refl _ w).drew.trans h

/-- A field's block and a second one, behind a call. -/
theorem fcell2 {w w1 : World} {x y : ByteArray} {o : Obj} (hb : Below ((w.alloc (.cells #[.string x, .string y] 57)).alloc o).heap.size ((w.alloc (.cells #[.string x, .string y] 57)).alloc o) w1) :
    w1.cell? ⟨w.heap.size, 0, none⟩ = some (.string x) ∧ w1.cell? ⟨w.heap.size, 1, none⟩ = some (.string y) ∧ w1.heap[w.heap.size + 1]? = some o ∧ Below w.heap.size w w1 := by
  have hl : w.heap.size < ((w.alloc (.cells #[.string x, .string y] 57)).alloc o).heap.size := by simp; omega
  have hl2 : w.heap.size + 1 < ((w.alloc (.cells #[.string x, .string y] 57)).alloc o).heap.size := by simp
  have hl1 : w.heap.size < (w.alloc (.cells #[.string x, .string y] 57)).heap.size := by simp
  refine ⟨?_, ?_, ?_, (((Below.refl _ w).alloc (Nat.le_refl _) _).alloc (by simp) _).trans (hb.mono (by simp; omega))⟩
  · rw [hb.cell (p := ⟨w.heap.size, 0, none⟩) hl, World.cell?_alloc_lt _ _ _ hl1, World.cell?_alloc_at _ _ _ _ rfl]; rfl
  · rw [hb.cell (p := ⟨w.heap.size, 1, none⟩) hl, World.cell?_alloc_lt _ _ _ hl1, World.cell?_alloc_at _ _ _ _ rfl]; rfl
  · rw [hb.block _ hl2]
    have := heap_alloc_new (w.alloc (.cells #[.string x, .string y] 57)) o
    simpa using this

/-- A block of two cells. -/
theorem blk2 {w : World} {g : Nat} {a b : Value} {t : TypeId} (h : w.heap[g]? = some (.cells #[a, b] t (0, 0))) :
    w.cell? ⟨g, 0, none⟩ = some a ∧ w.cell? ⟨g, 1, none⟩ = some b ∧ w.frozen? ⟨g, 0, none⟩ = false ∧ w.frozen? ⟨g, 1, none⟩ = false := by
  refine ⟨?_, ?_, ?_, ?_⟩
  · simp only [World.cell?, h]; rfl
  · simp only [World.cell?, h]; rfl
  · simp only [World.frozen?, h]; rfl
  · simp only [World.frozen?, h]; rfl

theorem set2 {w : World} {g : Nat} {a b : Value} {t : TypeId} (h : w.heap[g]? = some (.cells #[a, b] t (0, 0))) (x y : Value) :
    ((w.setCell ⟨g, 0, none⟩ x).setCell ⟨g, 1, none⟩ y).heap[g]? = some (.cells #[x, y] t (0, 0)) := by
  simp [World.setCell, Array.getElem?_modify, h]

/-! ### sets of names, and numbers by name -/
def SetIs (w : World) (b n : Nat) (mem : List UInt8 → Bool) : Prop := ∃ D : DataW Unit, w.ownsMap Tryd.prog 9 unitElem b n D ∧ ∀ l, Maps.has D (.string l) = mem l
theorem strKeyed : Maps.Keyed Tryd.prog 9 := Maps.string_keyed Tryd.underlying9
theorem zeroInt (w : World) : (zeroValue 3).run Tryd.prog w = .ok (.int .i64 0) w := by kernel_rfl
theorem SetIs.later {w w' : World} {b n : Nat} {mem : List UInt8 → Bool} (h : SetIs w b n mem) (hb : w'.heap[b]? = w.heap[b]?) : SetIs w' b n mem := by
  obtain ⟨D, ⟨es, clock, h1, h2⟩, h3⟩ := h
  exact ⟨D, ⟨es, clock, hb.trans h1, h2⟩, h3⟩
theorem SetIs.lt {w : World} {b n : Nat} {mem : List UInt8 → Bool} (h : SetIs w b n mem) : b < w.heap.size := by
  obtain ⟨D, h, _⟩ := h; exact h.lt
theorem SetIs.made (w : World) : SetIs (w.alloc (.map #[] 0)) w.heap.size 0 (fun _ => false) := ⟨_, World.ownsMap_made w _ _ _, fun _ => rfl⟩
theorem litKey (l : List UInt8) : WideAt.IsKeyLit (.string l) := trivial
def MapIs (w : World) (b n : Nat) (look : List UInt8 → Option Int) : Prop := ∃ D : DataW Unit, w.ownsMap Tryd.prog 9 (plainElem Tryd.prog 3) b n D ∧ ∀ l, Maps.has D (.string l) = (look l).isSome ∧ ∀ i, look l = some i → ∀ z, D.atKey (.string l) z = .lit (.int .i64 i)
theorem MapIs.later {w w' : World} {b n : Nat} {mem : List UInt8 → Option Int} (h : MapIs w b n mem) (hb : w'.heap[b]? = w.heap[b]?) : MapIs w' b n mem := by
  obtain ⟨D, ⟨es, clock, h1, h2⟩, h3⟩ := h
  exact ⟨D, ⟨es, clock, hb.trans h1, h2⟩, h3⟩
theorem MapIs.lt {w : World} {b n : Nat} {mem : List UInt8 → Option Int} (h : MapIs w b n mem) : b < w.heap.size := by
  obtain ⟨D, h, _⟩ := h; exact h.lt
theorem MapIs.made (w : World) : MapIs (w.alloc (.map #[] 0)) w.heap.size 0 (fun _ => none) := ⟨_, World.ownsMap_made w _ _ _, fun _ => ⟨rfl, fun _ h => by cases h⟩⟩
end Go.Proofs.YtgnopcghobaoiaaDoor

namespace Go.Proofs.YtgnopcghobaoiaaDoor
open Go.RowKit

/-- The library's variable of the longest separator holds some number. -/
def MaxOk (w : World) : Prop := ∃ m, w.cell? ⟨0, 0, none⟩ = some (.int .i64 m)
theorem MaxOk.later {w w' : World} (h : MaxOk w) (hb : Below w.heap.size w w') : MaxOk w' := by
  obtain ⟨m, h⟩ := h
  exact ⟨m, (hb.cell (p := ⟨0, 0, none⟩) (World.block_lt_of_cell? w _ h)).trans h⟩
/-- Block g holds the octets l, from its start. -/
def Oc (w : World) (g : Nat) (l : List UInt8) : Prop := g < w.heap.size ∧ ∀ j (hj : j < l.length), w.cell? ⟨g, j, none⟩ = some (.int .u8 (l[j].toNat : Int))
theorem Oc.later {w w' : World} {g : Nat} {l : List UInt8} (h : Oc w g l) (hb : Below w.heap.size w w') : Oc w' g l :=
  ⟨Nat.lt_of_lt_of_le h.1 hb.size, fun j hj => (hb.cell (p := ⟨g, j, none⟩) h.1).trans (h.2 j hj)⟩
def ints (l : List UInt8) : List Int := l.map fun c => (c.toNat : Int)
theorem ints_bytes (l : List UInt8) : Lib.bytesOf (ints l) = l := by
  unfold Lib.bytesOf ints; rw [List.map_map]; conv => rhs; rw [← List.map_id l]
  apply List.map_congr_left; intro c _; simp
theorem ints_range (l : List UInt8) : ∀ x ∈ ints l, 0 ≤ x ∧ x < 256 := by
  intro x hx
  obtain ⟨c, _, rfl⟩ := List.mem_map.1 hx
  have := c.toNat_lt; omega
/-- bytes.Index of two octets. -/
theorem index_w (w : World) (g o n c : Nat) (l : List UInt8) (hl : l.length = n) (hn : n ≤ 1000000) (hnc : n ≤ c) (hc : ∀ j (hj : j < l.length), w.cell? ⟨g, o + j, none⟩ = some (.int .u8 (l[j].toNat : Int))) (b : Nat) (h0 : w.cell? ⟨b, 0, none⟩ = some (.int .u8 13)) (h1 : w.cell? ⟨b, 1, none⟩ = some (.int .u8 10)) (hm : MaxOk w) :
    Calls Tryd.prog 73 #[.slice (some ⟨g, o, none⟩) n c, .slice (some ⟨b, 0, none⟩) 2 2] w fun e w' => e = .returned (.int .i64 (Lib.index l [13, 10])) ∧ ∃ q, w' = w.drewN q := by
  obtain ⟨m, hm⟩ := hm
  have h := Tryd.bytes_Index_at ⟨g, o, none⟩ ⟨b, 0, none⟩ n c 2 2 (ints l) (ints [13, 10]) m w (by unfold ints; rw [List.length_map]; exact hl) rfl (ints_range l) (ints_range _)
    (fun i hi => by
      rw [Addr.add_lit, hc i (by omega)]
      unfold ints
      rw [List.getD_eq_getElem?_getD, List.getElem?_map, List.getElem?_eq_getElem (by omega)]; rfl)
    (fun i hi => by
      rw [Addr.add_lit]
      match i, hi with
      | 0, _ => exact h0
      | 1, _ => exact h1) hnc (by omega) (by decide) hm
  rw [ints_bytes, ints_bytes] at h
  exact h

theorem Oc.part {w : World} {g : Nat} {l : List UInt8} (h : Oc w g l) (n h6 : Nat) : ∀ j (hj : j < ((l.take h6).drop n).length), w.cell? ⟨g, n + j, none⟩ = some (.int .u8 (((l.take h6).drop n)[j].toNat : Int)) := by
  intro j hj
  rw [List.length_drop, List.length_take] at hj
  rw [h.2 (n + j) (by omega)]
  simp
/-- The separator's row, behind its conversion. -/
theorem crlf_block (w : World) : ∃ W1, (convert 22 22 (.slice (some ⟨w.heap.size, 0, none⟩) 2 2)).run Tryd.prog (w.alloc (.cells #[.int .u8 13, .int .u8 10] 5)) = .ok (.slice (some ⟨w.heap.size, 0, none⟩) 2 2) W1 ∧
    W1.cell? ⟨w.heap.size, 0, none⟩ = some (.int .u8 13) ∧ W1.cell? ⟨w.heap.size, 1, none⟩ = some (.int .u8 10) ∧ Below w.heap.size w W1 := by
  refine ⟨_, Lib.run_convert_bytes_const w _ _ _ 2 2 Tryd.underlying22 Tryd.underlying5, ?_, ?_, (Below.refl _ w).alloc (Nat.le_refl _) _⟩
  · rw [World.cell?_alloc_mark]; rfl
  · rw [World.cell?_alloc_mark]; rfl

set_option maxHeartbeats 1600000 in
set_option maxRecDepth 100000 in
/-- A line is there. -/
theorem lineAt_yes (g n c : Nat) (l : List UInt8) (w : World) (hl : l.length ≤ 1000000) (hlc : l.length ≤ c) (hc9 : c ≤ 9223372036854775807) (h : Oc w g l) (hm : MaxOk w) (hn : n ≤ l.length) (hn6 : n ≤ 65536) (i : Nat) (hi : Lib.index ((l.take 65536).drop n) [13, 10] = i) (hn2 : n + i + 2 ≤ 65536) (hn3 : n + i + 2 ≤ l.length) :
    Calls Tryd.prog 55 #[.slice (some ⟨g, 0, none⟩) l.length c, .int .i64 n] w fun e w' => e = .returned (.tuple #[.string (str ((l.take (n + i)).drop n)), .int .i64 0]) ∧ Below w.heap.size w w' := by
  obtain ⟨W1, hcs, cb0, cb1, hb0⟩ := crlf_block w
  have hO := h.later hb0
  have hM := hm.later hb0
  have hI := index_w W1 g n ((l.take 65536).drop n).length (c - n) ((l.take 65536).drop n) rfl (by rw [List.length_drop, List.length_take]; omega) (by rw [List.length_drop, List.length_take]; omega) (hO.part n 65536) w.heap.size cb0 cb1 hM
  rw [hi, List.length_drop, List.length_take] at hI
  have hcv : ∀ q, (convert 22 9 (.slice (some ⟨g, n, none⟩) i (c - n))).run Tryd.prog (W1.drewN q) = .ok (.string (str ((l.take (n + i)).drop n))) (W1.drewN q) := fun q => by
    have hlen : ((l.take (n + i)).drop n).length = i := by rw [List.length_drop, List.length_take]; omega
    have := run_convert_bytes_back (P := Tryd.prog) (W1.drewN q) 22 9 5 ⟨g, n, none⟩ (c - n) ((l.take (n + i)).drop n) Tryd.underlying22 Tryd.underlying5 Tryd.underlying9 (fun j hj => by
      rw [Addr.add_lit]; exact hO.part n (n + i) j hj)
    rw [hlen] at this
    exact this
  generalize str ((l.take (n + i)).drop n) = s at *
  obtain ⟨L, hL⟩ : ∃ L, L = l.length := ⟨_, rfl⟩
  rw [← hL] at hl hlc hn hn3 hI ⊢
  obtain ⟨M, hM1, hmin⟩ : ∃ M : Nat, M = min 65536 L ∧ min (L : Int) 65536 = (M : Int) := ⟨min 65536 L, rfl, by omega⟩
  rw [← hM1] at hI
  have hM2 : n + i + 2 ≤ M := by omega
  have hM3 : M ≤ c := by omega
  have hM4 : M ≤ 65536 := by omega
  clear h hO hM cb0 cb1 hi hm hL hM1
  go_enter Tryd.func55, Tryd.ntmps55
  go_wp2_with fail
  refine hI.mono ?_
  rintro e w1 ⟨rfl, q, rfl⟩
  go_wp2_with fail
  go_ret2
  exact ⟨rfl, hb0.trans ((bdrewN _ _).mono hb0.size)⟩

set_option maxHeartbeats 1600000 in
set_option maxRecDepth 100000 in
/-- There is none. -/
theorem lineAt_no (g n c : Nat) (l : List UInt8) (w : World) (hl : l.length ≤ 1000000) (hlc : l.length ≤ c) (_hc9 : c ≤ 9223372036854775807) (h : Oc w g l) (hm : MaxOk w) (hn : n ≤ l.length) (hn6 : n ≤ 65536) (hi : Lib.index ((l.take 65536).drop n) [13, 10] < 0) :
    Calls Tryd.prog 55 #[.slice (some ⟨g, 0, none⟩) l.length c, .int .i64 n] w fun e w' => e = .returned (.tuple #[.string ⟨#[]⟩, .int .i64 (if l.length > 65536 then 12 else 11)]) ∧ Below w.heap.size w w' := by
  obtain ⟨W1, hcs, cb0, cb1, hb0⟩ := crlf_block w
  have hO := h.later hb0
  have hM := hm.later hb0
  obtain ⟨L, hL⟩ : ∃ L, L = l.length := ⟨_, rfl⟩
  obtain ⟨M, hM1, hmin⟩ : ∃ M : Nat, M = min 65536 L ∧ min (L : Int) 65536 = (M : Int) := ⟨min 65536 L, rfl, by omega⟩
  have hM3 : M ≤ c := by omega
  have hM4 : M ≤ 65536 := by omega
  have hM5 : n ≤ M := by omega
  have hlen : ((l.take 65536).drop n).length = M - n := by rw [List.length_drop, List.length_take, ← hL, hM1]
  obtain ⟨a, ha, hI⟩ : ∃ a : Nat, (if c = n then a = 0 else a = n) ∧ Calls Tryd.prog 73 #[.slice (some ⟨g, a, none⟩) (M - n) (c - n), .slice (some ⟨w.heap.size, 0, none⟩) 2 2] W1 fun e w' => e = .returned (.int .i64 (Lib.index ((l.take 65536).drop n) [13, 10])) ∧ ∃ q, w' = W1.drewN q := by
    by_cases hcn : c = n
    · refine ⟨0, by rw [if_pos hcn], ?_⟩
      exact index_w W1 g 0 (M - n) (c - n) ((l.take 65536).drop n) hlen (by omega) (by omega) (fun j hj => by omega) w.heap.size cb0 cb1 hM
    · refine ⟨n, by rw [if_neg hcn], ?_⟩
      exact index_w W1 g n (M - n) (c - n) ((l.take 65536).drop n) hlen (by omega) (by omega) (hO.part n 65536) w.heap.size cb0 cb1 hM
  obtain ⟨r, hr⟩ : ∃ r : Int, r = Lib.index ((l.take 65536).drop n) [13, 10] := ⟨_, rfl⟩
  have hr9 : -9223372036854775808 ≤ r := by
    have := Lib.index_ge ((l.take 65536).drop n) [13, 10]; omega
  rw [← hr] at hI hi
  rw [← hL] at hl hlc hn ⊢
  clear h hO hM cb0 cb1 hm hL hM1 hlen hr
  by_cases hcn : c = n
  · rw [if_pos hcn] at ha
    subst ha
    by_cases h6 : 65536 < L
    · omega
    · rw [if_neg (by omega)]
      have b6 : ¬ (65536 : Int) < (L : Int) := by omega
      subst hcn
      have e0 : c - c = 0 := by omega
      have e1 : M - c = 0 := by omega
      rw [e0, e1] at hI
      go_enter Tryd.func55, Tryd.ntmps55
      go_wp2_with fail
      refine hI.mono ?_
      rintro e w1 ⟨rfl, q, rfl⟩
      go_wp2_with fail
      go_ret2
      exact ⟨rfl, hb0.trans ((bdrewN _ _).mono hb0.size)⟩
  · rw [if_neg hcn] at ha
    subst ha
    by_cases h6 : 65536 < L
    · rw [if_pos (by omega)]
      have b6 : (65536 : Int) < (L : Int) := by omega
      go_enter Tryd.func55, Tryd.ntmps55
      go_wp2_with fail
      refine hI.mono ?_
      rintro e w1 ⟨rfl, q, rfl⟩
      go_wp2_with fail
      go_ret2
      exact ⟨rfl, hb0.trans ((bdrewN _ _).mono hb0.size)⟩
    · rw [if_neg (by omega)]
      have b6 : ¬ (65536 : Int) < (L : Int) := by omega
      go_enter Tryd.func55, Tryd.ntmps55
      go_wp2_with fail
      refine hI.mono ?_
      rintro e w1 ⟨rfl, q, rfl⟩
      go_wp2_with fail
      go_ret2
      exact ⟨rfl, hb0.trans ((bdrewN _ _).mono hb0.size)⟩
end Go.Proofs.YtgnopcghobaoiaaDoor

namespace Go.Proofs.YtgnopcghobaoiaaDoor
open Go.RowKit

theorem cut_colon (l : List UInt8) : Lib.cut l [58] = if Fld.colon l = l.length then (l, [], false) else (l.take (Fld.colon l), l.drop (Fld.colon l + 1), true) := by
  unfold Lib.cut
  rw [Lib.index_one, Fld.colon_index]
  by_cases h : Fld.colon l = l.length
  · rw [if_pos h, if_neg (by decide)]; simp [h]
  · rw [if_neg h, if_pos (by omega), if_neg h]; simp

set_option maxHeartbeats 1600000 in
set_option maxRecDepth 100000 in
theorem read_w (l : List UInt8) (w : World) (hl : l.length ≤ 1000000) (hm : MaxOk w) :
    Calls Tryd.prog 56 #[.string (str l)] w fun e w' => e = .returned (fval (Fld.readLine l)) ∧ Below w.heap.size w w' := by
  obtain ⟨W1, hW1⟩ : ∃ W1, W1 = w.alloc (.cells #[.string ⟨#[]⟩, .string ⟨#[]⟩] 57) := ⟨_, rfl⟩
  have hb1 : Below w.heap.size w W1 := by rw [hW1]; exact (Below.refl _ w).alloc (Nat.le_refl _) _
  have hg : W1.heap[w.heap.size]? = some (.cells #[.string ⟨#[]⟩, .string ⟨#[]⟩] 57 (0, 0)) := by rw [hW1]; exact heap_alloc_new w _
  obtain ⟨m, hmc⟩ := hm.later hb1
  have cC := Tryd.strings_Cut (str l) ⟨#[58]⟩ m W1 (by rw [str_size]; omega) hmc
  rw [str_list, show (⟨#[58]⟩ : ByteArray).data.toList = [58] from rfl, cut_colon] at cC
  by_cases hc : Fld.colon l = l.length
  · rw [if_pos hc] at cC
    have HR : Hid (fval (Fld.readLine l) = .agg #[.string ⟨#[]⟩, .string ⟨#[]⟩]) := by unfold Fld.readLine; rw [if_pos hc]; exact Lib.hid rfl
    generalize str l = s at cC
    obtain ⟨q0, q1, q2, q3⟩ := blk2 hg
    clear hc hmc hm
    go_enter Tryd.func56, Tryd.ntmps56
    go_upto_region 1 with fail
    rw [← hW1]
    clear hW1
    go_wp2_with fail
    refine cC.mono ?_
    rintro e w2 ⟨rfl, q, rfl⟩
    go_wp2_with fail
    (try simp only [Exit.inBlock, Exit.then])
    refine bodyPost_ret (v := .agg #[.string ⟨#[]⟩, .string ⟨#[]⟩]) (results_cell_row rfl _ _ w.heap.size _ _ (0, 0) _ rfl (set2 (w := W1.drewN q) hg _ _) Tryd.underlying57 rfl (by kernel_rfl)) rfl ?_
    exact ⟨by rw [HR.out], ((hb1.trans ((bdrewN W1 q).mono hb1.size)).setCell (Nat.le_refl _) _).setCell (Nat.le_refl _) _⟩
  · rw [if_neg hc] at cC
    have hcl := Fld.colon_le l
    have HR : Hid (fval (Fld.readLine l) = .agg #[.string (str (l.take (Fld.colon l))), .string (str (Oct.trim (l.drop (Fld.colon l + 1))))]) := by unfold Fld.readLine; rw [if_neg hc]; exact Lib.hid rfl
    have c0 := fun w => Clone_s (str (l.take (Fld.colon l))) w (by rw [str_size, List.length_take]; omega)
    have c1 := fun w => Trim_s (str (l.drop (Fld.colon l + 1))) w (by rw [str_size, List.length_drop]; omega)
    rw [str_list] at c1
    have cC' : Calls Tryd.prog 36 #[.string (str l), .string ⟨#[58]⟩] W1 fun e w' => e = .returned (.tuple #[.string (str (l.take (Fld.colon l))), .string (str (l.drop (Fld.colon l + 1))), .bool true]) ∧ ∃ n, w' = W1.drewN n := cC
    generalize str l = s at cC'
    generalize str (l.take (Fld.colon l)) = s0 at *
    generalize str (l.drop (Fld.colon l + 1)) = s1 at *
    generalize str (Oct.trim (l.drop (Fld.colon l + 1))) = s2 at *
    clear hc hmc hm cC hcl
    go_enter Tryd.func56, Tryd.ntmps56
    go_upto_region 1 with fail
    rw [← hW1]
    clear hW1
    go_wp2_with fail
    refine cC'.mono ?_
    rintro e w2 ⟨rfl, q, rfl⟩
    go_wp2_with fail
    refine (c0 _).mono ?_
    rintro e w3 ⟨rfl, hb3⟩
    go_wp2_with fail
    refine (c1 _).mono ?_
    rintro e w4 ⟨rfl, hb4⟩
    have hb5 : Below W1.heap.size W1 w4 := (bdrewN W1 q).trans (hb3.trans (hb4.mono hb3.size))
    have hg4 := (hb5.block _ (lt_of_block hg)).trans hg
    obtain ⟨q0, q1, q2, q3⟩ := blk2 hg4
    clear hb3 hb4
    go_wp2_with fail
    (try simp only [Exit.inBlock, Exit.then])
    refine bodyPost_ret (v := .agg #[.string s0, .string s2]) (results_cell_row rfl _ _ w.heap.size _ _ (0, 0) _ rfl (set2 (w := w4) hg4 _ _) Tryd.underlying57 rfl (by kernel_rfl)) rfl ?_
    exact ⟨by rw [HR.out], ((hb1.trans (hb5.mono hb1.size)).setCell (Nat.le_refl _) _).setCell (Nat.le_refl _) _⟩
end Go.Proofs.YtgnopcghobaoiaaDoor

namespace Go.Proofs.YtgnopcghobaoiaaDoor
open Go.RowKit

theorem readLine_small (l : List UInt8) : (Fld.readLine l).1.length ≤ l.length ∧ (Fld.readLine l).2.length ≤ l.length := by
  unfold Fld.readLine
  split
  · exact ⟨Nat.zero_le _, Nat.zero_le _⟩
  · unfold Fld.cutField
    refine ⟨by simp only [List.length_take]; omega, ?_⟩
    have := Oct.trim_len (l.drop (Fld.colon l + 1))
    rw [List.length_drop] at this
    show (Oct.trim _).length ≤ _
    omega

set_option maxHeartbeats 3200000 in
set_option maxRecDepth 100000 in
theorem Parse_w (g c : Nat) (l : List UInt8) (w : World) (hl : l.length ≤ 1000000) (hlc : l.length ≤ c) (hc9 : c ≤ 9223372036854775807) (h : Oc w g l) (hm : MaxOk w) :
    Calls Tryd.prog 41 #[.slice (some ⟨g, 0, none⟩) l.length c] w fun e w' => ∃ v, e = .returned (.tuple #[v, .int .i64 (Fld.parse l).2.1, .int .i64 (Fld.parse l).2.2]) ∧ FBuf w w' v (Fld.parse l).1 := by
  obtain ⟨L, hL⟩ : ∃ L, L = l.length := ⟨_, rfl⟩
  have cY := fun (n : Nat) (w1 : World) (hb : Below w.heap.size w w1) => lineAt_yes g n c l w1 hl hlc hc9 (h.later hb) (hm.later hb)
  have cN := fun (n : Nat) (w1 : World) (hb : Below w.heap.size w w1) => lineAt_no g n c l w1 hl hlc hc9 (h.later hb) (hm.later hb)
  rw [← hL] at cY cN ⊢
  have HL := Lib.hid hL
  have HM := Lib.hid hm
  have hL9 : L ≤ 1000000 := by omega
  clear h hm hL hl hlc hc9
  go_enter Tryd.func41, Tryd.ntmps41
  go_wp2_with fail
  go_loopw [5, 6] (fun v i wr => ∃ (n : Nat) (acc : List Fld.F), i = .int .i64 n ∧ Fld.At l n acc ∧ FBuf w wr v acc) (fun _ i _ => L - (intOf i).toNat)
  case atStart => exact ⟨0, [], rfl, Fld.At.start l, FBuf.nil w⟩
  case round =>
    obtain ⟨n, acc, rfl, hA, hB⟩ := hrel
    have hn1 : n ≤ L := by have := hA.1; have := HL.out; omega
    have hn2 : n ≤ 65536 := hA.2.1
    have hac : acc.length ≤ 128 := hA.2.2.1
    have HA := Lib.hid hA
    rcases (show Lib.index ((l.take 65536).drop n) [13, 10] < 0 ∨ 0 ≤ Lib.index ((l.take 65536).drop n) [13, 10] by omega) with hneg | hpos
    · have HP := Lib.hid (hA.none hneg)
      have hc := cN n wr hB.2 hn1 hn2 hneg
      have HN : Hid (Below w.heap.size w wr) := hB.2
      rw [← HL.out] at HP
      by_cases h6 : 65536 < L
      · rw [if_pos h6] at hc HP
        clear hA hneg h6
        go_wp2_with (go_at_call 55; refine hc.mono ?_; rintro e w1 ⟨rfl, hb1⟩)
        go_ret3
        exact ⟨_, by rw [HP.out]; rfl, by rw [HP.out]; exact FBuf.nil_of (HN.out.trans (hb1.mono HN.out.size))⟩
      · rw [if_neg h6] at hc HP
        clear hA hneg h6
        go_wp2_with (go_at_call 55; refine hc.mono ?_; rintro e w1 ⟨rfl, hb1⟩)
        go_ret3
        exact ⟨_, by rw [HP.out]; rfl, by rw [HP.out]; exact FBuf.nil_of (HN.out.trans (hb1.mono HN.out.size))⟩
    · obtain ⟨i, hi⟩ : ∃ i : Nat, Lib.index ((l.take 65536).drop n) [13, 10] = i := ⟨_, (Int.toNat_of_nonneg hpos).symm⟩
      obtain ⟨he, he1, he2⟩ := Fld.head_some hA.1 hi
      have hc := cY n wr hB.2 hn1 hn2 i hi he1 (by have := HL.out; omega)
      by_cases h0 : i = 0
      · subst h0
        have HP := Lib.hid (hA.last he he1)
        have e0 : str ((l.take (n + 0)).drop n) = ⟨#[]⟩ := by
          rw [Nat.add_zero, List.drop_of_length_le (by rw [List.length_take]; omega)]; rfl
        rw [e0] at hc
        clear hA hpos hi he he2 e0
        go_wp2_with (go_at_call 55; refine hc.mono ?_; rintro e w1 ⟨rfl, hb1⟩)
        go_ret3
        exact ⟨_, by rw [HP.out]; rfl, by rw [HP.out]; exact hB.after hb1⟩
      · obtain ⟨ln, hln⟩ : ∃ ln, ln = (l.take (n + i)).drop n := ⟨_, rfl⟩
        have hll : ln.length = i := by rw [hln, List.length_drop, List.length_take]; have := HL.out; omega
        rw [← hln] at hc
        have hi9 : i ≤ 1000000 := by omega
        have hnL : n + i + 2 ≤ L := by have := HL.out; omega
        have cR := fun w1 (hm : MaxOk w1) => read_w ln w1 (by omega) hm
        have zr := readLine_small ln
        have cF := fun w1 => right_s (Fld.readLine ln) w1 (by omega) (by omega)
        have hxe : (str ln).toList.isEmpty = false := by
          rw [str_toList]; cases h : ln with
          | nil => rw [h] at hll; simp at hll; omega
          | cons _ _ => rfl
        have hxn : ¬ (str ln).toList = [] := by
          rw [str_toList]; intro h; rw [h] at hll; simp at hll; omega
        have hxs : ((str ln).size : Int) = (i : Int) := by rw [str_size, hll]
        have HR0 : Hid (Fld.right (Fld.readLine ln) = false → Fld.parse l = ([], 0, 10)) := fun hr => hA.form he he1 (by omega) (by rw [← hln]; exact Fld.readLine_no hr)
        have HR1 : Hid (Fld.right (Fld.readLine ln) = true → acc.length ≥ 128 → Fld.parse l = ([], 0, 13)) := fun hr hm => hA.many he he1 (by omega) (f := Fld.readLine ln) (by rw [← hln]; exact Fld.readLine_yes hr) hm
        have HR2 : Hid (Fld.right (Fld.readLine ln) = true → acc.length < 128 → Fld.At l (n + i + 2) (acc ++ [Fld.readLine ln])) := fun hr hm => hA.next he he2 (by omega) he1 (by omega) (by rw [← hln]; exact Fld.readLine_yes hr) hm
        obtain ⟨f, hf⟩ : ∃ f, f = Fld.readLine ln := ⟨_, rfl⟩
        rw [← hf] at cR cF HR0 HR1 HR2
        generalize str ln = s at *
        obtain ⟨fx, hfx⟩ : ∃ x, x = str f.1 := ⟨_, rfl⟩
        obtain ⟨fy, hfy⟩ : ∃ y, y = str f.2 := ⟨_, rfl⟩
        unfold fval at cR cF
        rw [← hfx, ← hfy] at cR cF
        have HX := Lib.hid hfx
        have HY := Lib.hid hfy
        have HB : Hid (Below w.heap.size w wr) := hB.2
        clear hA hpos hi he he2 hln hll zr hf hfx hfy h0
        go_wp2_with (go_at_call 55; refine hc.mono ?_; rintro e w1 ⟨rfl, hb1⟩)
        have hm1 : MaxOk w1 := (HM.out.later HB.out).later hb1
        refine (cR w1 hm1).mono ?_
        rintro e w2 ⟨rfl, hb2⟩
        cases hr : Fld.right f with
        | false =>
          rw [hr] at cF
          have HP := Lib.hid (HR0.out hr)
          clear hr hm1
          go_wp2_with (go_at_call 57; refine (cF _).mono ?_; rintro e w3 ⟨rfl, hb3⟩)
          obtain ⟨_, _, hb4⟩ := fcell hb3
          go_ret3
          exact ⟨_, by rw [HP.out]; rfl, by rw [HP.out]; exact FBuf.nil_of ((HB.out.trans (hb1.mono HB.out.size)).trans ((hb2.trans (hb4.mono hb2.size)).mono (Nat.le_trans HB.out.size hb1.size)))⟩
        | true =>
          rw [hr] at cF
          by_cases h128 : acc.length = 128
          · have HP := Lib.hid (HR1.out hr (by omega))
            obtain ⟨ao, ca, rfl, _⟩ := hB.fin
            rw [h128] at *
            clear hr hm1 HR0 HR1 HR2 h128
            go_wp2_with (go_at_call 57; refine (cF _).mono ?_; rintro e w3 ⟨rfl, hb3⟩)
            obtain ⟨_, _, hb4⟩ := fcell hb3
            go_ret3
            exact ⟨_, by rw [HP.out]; rfl, by rw [HP.out]; exact FBuf.nil_of ((HB.out.trans (hb1.mono HB.out.size)).trans ((hb2.trans (hb4.mono hb2.size)).mono (Nat.le_trans HB.out.size hb1.size)))⟩
          · have HP := Lib.hid (HR2.out hr (by omega))
            have b1 : ((acc.length : Int) == 128) = false := beq_eq_false_iff_ne.2 (by omega)
            have hal : acc.length ≤ 1000000000 := by omega
            obtain ⟨ao, ca, hv5, _⟩ := hB.fin
            obtain ⟨A, hA5⟩ : ∃ A, A = acc.length := ⟨_, rfl⟩
            rw [← hA5] at hv5 b1
            have HA5 := Lib.hid hA5
            subst hv5
            clear hr hm1 HR0 HR1 HR2 h128 hA5
            go_wp2_with (first
              | (go_at_call 57; refine (cF _).mono ?_; rintro e w3 ⟨rfl, hb3⟩; obtain ⟨f0, f1, hb4⟩ := fcell hb3; have hB3 := hB.after (hb1.trans ((hb2.trans (hb4.mono hb2.size)).mono hb1.size)))
              | (at_builtin; refine appF hB3 f hal rfl _ _ rfl fx fy HX.out HY.out rfl rfl ?_; intro v' w4 hB4))
            go_roundw
            case rel => exact ⟨n + i + 2, acc ++ [f], by go_num, HP.out, hB4⟩
            case measure => simp [intOf]; omega
end Go.Proofs.YtgnopcghobaoiaaDoor

namespace Go.Proofs.YtgnopcghobaoiaaDoor
open Go.RowKit

/-- v reads as the octets l. -/
def BIn (w : World) (v : Value) (l : List UInt8) : Prop := ∃ ao cap, v = .slice ao l.length cap ∧ l.length ≤ cap ∧ cap ≤ 9223372036854775807 ∧ (l = [] ∨ ∃ b o, ao = some ⟨b, o, none⟩ ∧ b < w.heap.size ∧ ∀ j (hj : j < l.length), w.cell? ⟨b, o + j, none⟩ = some (.int .u8 (l[j].toNat : Int)))
theorem colon_is {l : List UInt8} {k : Nat} (hk : k ≤ l.length) (h1 : ∀ j (h : j < l.length), j < k → l[j] ≠ 58) (h2 : ∀ h : k < l.length, l[k] = 58) : Fld.colon l = k := Fld.colon_at l k h1 h2 hk
theorem ext_head (s : ByteArray) (ln : List UInt8) (k : Nat) (h : s.data.toList = ln) : s.extract 0 k = str (ln.take k) := by
  rw [← str_of (s.extract 0 k), cut_mid, h, List.drop_zero]
theorem ext_tail (s : ByteArray) (ln : List UInt8) (k : Nat) (h : s.data.toList = ln) : (s.extract k s.size).data.toList = ln.drop k := by
  rw [cut_mid, List.take_of_length_le (by rw [Oct.length_size]; exact Nat.le_refl _), h]

theorem colon_s (s : ByteArray) (k : Nat) (hk : k ≤ s.size) (h1 : ∀ j (h : j < s.size), j < k → s[j] ≠ 58) (h2 : ∀ h : k < s.size, s[k] = 58) : Fld.colon s.data.toList = k := by
  refine Fld.colon_at _ k (fun j hj hjk => ?_) (fun h => ?_) (by rw [Oct.length_size]; exact hk)
  · have hs : j < s.size := by rw [Oct.length_size] at hj; exact hj
    have := h1 j hs hjk
    rw [Array.getElem_toList]; exact this
  · have hs : k < s.size := by rw [Oct.length_size] at h; exact h
    have := h2 hs
    rw [Array.getElem_toList]; exact this

set_option maxHeartbeats 6400000 in
set_option maxRecDepth 100000 in
theorem rParse_w (v : Value) (l : List UInt8) (w : World) (hl : l.length ≤ 1000000) (h : BIn w v l) :
    Calls Tryd.prog 17 #[v] w fun e w' => ∃ v, e = .returned (.tuple #[v, .int .i64 (Fld.parse l).2.1, .int .i64 (Fld.parse l).2.2]) ∧ FBuf w w' v (Fld.parse l).1 := by
  obtain ⟨ao, c, rfl, hlc, hc9, hb⟩ := h
  obtain ⟨L, hL⟩ : ∃ L, L = l.length := ⟨_, rfl⟩
  have HL := Lib.hid hL
  have HB0 := Lib.hid hb
  rw [← hL] at hl hlc ⊢
  clear hb hL
  go_enter Tryd.func17, Tryd.ntmps17
  go_wp2_with fail
  go_loopw [5, 6] (fun v i wr => ∃ (n : Nat) (acc : List Fld.F), i = .int .i64 n ∧ Fld.At l n acc ∧ FBuf w wr v acc) (fun _ i _ => L - (intOf i).toNat)
  case atStart => exact ⟨0, [], rfl, Fld.At.start l, FBuf.nil w⟩
  case round =>
    obtain ⟨n, acc, rfl, hA, hB⟩ := hrel
    have hn1 : n ≤ L := by have := hA.1; have := HL.out; omega
    have hn2 : n ≤ 65536 := hA.2.1
    have hac : acc.length ≤ 128 := hA.2.2.1
    have HA := Lib.hid hA
    have HB := Lib.hid hB
    clear hA
    go_wp2_with fail
    go_loop [7] (fun i => ∃ e : Nat, n ≤ e ∧ e ≤ L ∧ i = .int .i64 e ∧ Hid (∀ j, n ≤ j → j < e → ¬ Fld.isC l j)) (fun i => L - (intOf i).toNat)
    case atStart => exact ⟨n, Nat.le_refl _, hn1, rfl, fun j h1 h2 => by omega⟩
    case round =>
      obtain ⟨e, hne, heL, rfl, HE⟩ := hrel
      by_cases hlt : e + 1 < L
      · obtain ⟨b, o, hao, hbl, hcell⟩ := HB0.out.resolve_left (fun x => by have := HL.out; rw [x] at this; simp at this; omega)
        subst hao
        have k0 : e < l.length := by have := HL.out; omega
        have k1 : e + 1 < l.length := by have := HL.out; omega
        have c0 := (hB.2.cell (p := ⟨b, o + e, none⟩) hbl).trans (hcell e k0)
        have c1 := (hB.2.cell (p := ⟨b, o + (e + 1), none⟩) hbl).trans (hcell (e + 1) k1)
        have g0 : l[e]? = some l[e] := List.getElem?_eq_getElem k0
        have g1 : l[e + 1]? = some l[e + 1] := List.getElem?_eq_getElem k1
        have HCV : Hid (∀ j (hj : j < l.length), u5 = u5 ∧ wr.cell? ⟨b, o + j, none⟩ = some (.int .u8 (l[j].toNat : Int))) := fun j hj => ⟨rfl, (hB.2.cell (p := ⟨b, o + j, none⟩) hbl).trans (hcell j hj)⟩
        generalize l[e] = x0 at c0 g0
        generalize l[e + 1] = x1 at c1 g1
        have hx0 := x0.toNat_lt
        have hx1 := x1.toNat_lt
        clear hcell
        by_cases h13 : (x0.toNat : Int) = 13
        · by_cases h10 : (x1.toNat : Int) = 10
          · have hend : Fld.endAt l n = some e := Fld.endAt_some hne ⟨by rw [g0, Oct.u8_eq (n := 13) h13], by rw [g1, Oct.u8_eq (n := 10) h10]⟩ HE.out
            have hnc : ¬ c = n := by omega
            clear g0 g1
            by_cases h6 : 65536 < e + 2
            · have HP := Lib.hid (HA.out.long hend h6)
              have b6 : (65536 : Int) < (e : Int) + 2 := by omega
              have hnb := hB.2
              clear hend h6 HCV
              go_wp2_with fail
              go_ret3
              exact ⟨_, by rw [HP.out]; rfl, by rw [HP.out]; exact FBuf.nil_of hnb⟩
            · have b6 : ¬ (65536 : Int) < (e : Int) + 2 := by omega
              have hlen : ((l.take e).drop n).length = e - n := by rw [List.length_drop, List.length_take]; omega
              have hcv := run_convert_bytes_back (P := Tryd.prog) wr 22 9 5 ⟨b, o + n, none⟩ (c - n) ((l.take e).drop n) Tryd.underlying22 Tryd.underlying5 Tryd.underlying9 (fun j hj => by
                rw [hlen] at hj
                rw [Addr.add_lit, Nat.add_assoc, (HCV.out (n + j) (by omega)).2]
                simp)
              rw [hlen] at hcv
              by_cases h0 : e = n
              · subst h0
                have HP := Lib.hid (HA.out.last hend (by omega))
                have e0 : (⟨((l.take e).drop e).toArray⟩ : ByteArray) = ⟨#[]⟩ := by
                  rw [List.drop_of_length_le (by rw [List.length_take]; omega)]
                rw [e0] at hcv
                rw [Nat.sub_self] at hcv
                clear hend h6 HCV e0 hlen
                go_upto_region 12 with fail
                clear b6
                go_wp2_with fail
                go_ret3
                exact ⟨_, by rw [HP.out]; rfl, by rw [HP.out]; exact HB.out⟩
              · obtain ⟨s, hs⟩ : ∃ s : ByteArray, s = ⟨((l.take e).drop n).toArray⟩ := ⟨_, rfl⟩
                have hsl : s.data.toList = (l.take e).drop n := by rw [hs]
                have hss : s.size = e - n := by rw [← Oct.length_size, hsl, hlen]
                rw [← hs] at hcv
                have hxe : s.toList.isEmpty = false := by
                  rw [Lib.toList_data]; cases h : s.data.toList with
                  | nil => have := Oct.length_size s; rw [h] at this; simp at this; omega
                  | cons _ _ => rfl
                have hxn : ¬ s.toList = [] := by
                  rw [Lib.toList_data]; intro h; have := Oct.length_size s; rw [h] at this; simp at this; omega
                have HSL := Lib.hid hsl
                have HEND := Lib.hid hend
                have hs9 : s.size ≤ 1000000 := by omega
                clear hss
                clear hend HCV hlen hs hsl
                go_upto_region 12 with fail
                clear b6
                go_wp2_with fail
                clear hcv
                go_loop [9] (fun i => ∃ k : Nat, k ≤ s.size ∧ i = .int .i64 k ∧ Hid (∀ j (h : j < s.size), j < k → s[j] ≠ 58)) (fun i => s.size - (intOf i).toNat)
                case atStart => exact ⟨0, by omega, rfl, fun j _ h => by omega⟩
                case round =>
                  obtain ⟨k, hk, rfl, HK⟩ := hrel
                  by_cases hks : k < s.size
                  · by_cases h58 : (s[k].toNat : Int) = 58
                    · have hcol := colon_s s k hk HK.out (fun _ => Oct.u8_eq (n := 58) h58)
                      rw [HSL.out] at hcol
                      have hkne : ¬ (k : Int) = (s.size : Int) := by omega
                      have hk1 : k + 1 ≤ s.size := hks
                      have hk2 : (k : Int) + 1 ≤ (s.size : Int) := by omega
                      have hk3 : (0 : Int) ≤ (k : Int) + 1 := by omega
                      have hk4 : (k : Int) ≤ (s.size : Int) := by omega
                      have hk5 : ((k : Int) + 1).toNat = k + 1 := by omega
                      have hk6 : IntKind.i64.wrap ((k : Int) + 1) = (k : Int) + 1 := by rw [IntKind.wrap_i64]; omega
                      have HX : Hid (s.extract 0 k = str (Fld.cutField ((l.take e).drop n)).1) := by
                        unfold Fld.cutField; rw [hcol]; exact Lib.hid (ext_head s _ k HSL.out)
                      have HY : Hid (str (Oct.trim (s.extract (k + 1) s.size).data.toList) = str (Fld.cutField ((l.take e).drop n)).2) := by
                        unfold Fld.cutField; rw [hcol, ext_tail s _ (k + 1) HSL.out]; exact Lib.hid rfl
                      have HCOL : Hid (Fld.colon ((l.take e).drop n) ≠ ((l.take e).drop n).length) := by
                        rw [hcol, ← HSL.out, Oct.length_size]; exact Lib.hid (by omega)
                      have cT := fun w => rTrim_s (s.extract (k + 1) s.size) w (by rw [ByteArray.size_extract]; omega)
                      generalize str (Oct.trim (s.extract (k + 1) s.size).data.toList) = Y at cT HY
                      have hwd : Below wr.heap.size wr wr.drew := (Below.refl _ wr).drew
                      clear hcol
                      go_wp2_with fail
                      go_region_with (go_at_call 24; refine (cT _).mono ?_; rintro e w1 ⟨rfl, rfl⟩)
                      all_goals
                        have hlt0 : wr.heap.size < (wr.alloc (.cells #[.string (s.extract 0 k), .string Y] 57)).heap.size := by simp
                        have g1 : (wr.alloc (.cells #[.string (s.extract 0 k), .string Y] 57)).drew.heap[wr.heap.size]? = some (.cells #[.string (s.extract 0 k), .string Y] 57 (0, 0)) := heap_alloc_new wr _
                        have hb1 : Below wr.heap.size wr (wr.alloc (.cells #[.string (s.extract 0 k), .string Y] 57)).drew := ((Below.refl _ wr).alloc (Nat.le_refl _) _).drew
                        generalize (wr.alloc (.cells #[.string (s.extract 0 k), .string Y] 57)).drew = w1 at *
                        generalize s.extract 0 k = X at *
                        obtain ⟨f0, f1, _, _⟩ := blk2 g1
                        have zz := readLine_small ((l.take e).drop n)
                        rw [← HSL.out, Oct.length_size, HSL.out, Fld.readLine, if_neg HCOL.out] at zz
                        obtain ⟨f, hf⟩ : ∃ f, f = Fld.cutField ((l.take e).drop n) := ⟨_, rfl⟩
                        rw [← hf] at zz HX HY
                        have HF := Lib.hid hf
                        have cF := fun w => fits_s f w (by omega) (by omega)
                        unfold fval at cF
                        rw [← HX.out, ← HY.out] at cF
                        clear hlt0 hf zz cT hwd hk1 hk2 hk3 hk4 hk5 hk6 h58 hkne hks
                        have HR0 : Hid (Fld.right f = false → Fld.parse l = ([], 0, 10)) := fun hr => HA.out.form HEND.out (by omega) h0 (Fld.fieldOf_wrong (by rw [← HF.out]; exact hr))
                        have HR1 : Hid (Fld.right f = true → acc.length ≥ 128 → Fld.parse l = ([], 0, 13)) := fun hr hm => HA.out.many HEND.out (by omega) h0 (f := f) (by rw [HF.out]; exact Fld.fieldOf_yes HCOL.out (by rw [← HF.out]; exact hr)) hm
                        have HR2 : Hid (Fld.right f = true → acc.length < 128 → Fld.At l (e + 2) (acc ++ [f])) := fun hr hm => HA.out.next HEND.out (by have := HL.out; omega) hne (by omega) h0 (by rw [HF.out]; exact Fld.fieldOf_yes HCOL.out (by rw [← HF.out]; exact hr)) hm
                        have hnL : e + 2 ≤ L := by omega
                        have hnn : n ≤ e := hne
                        clear h6 hne heL
                        cases hr : Fld.right f with
                        | false =>
                          rw [hr] at cF
                          have HP := Lib.hid (HR0.out hr)
                          clear hr
                          go_wp2_with (go_at_call 25; refine (cF _).mono ?_; rintro e w3 ⟨rfl, hb3⟩)
                          go_ret3
                          exact ⟨_, by rw [HP.out]; rfl, by rw [HP.out]; exact FBuf.nil_of (HB.out.2.trans ((hb1.trans (hb3.mono hb1.size)).mono HB.out.2.size))⟩
                        | true =>
                          rw [hr] at cF
                          obtain ⟨ax, cx, hv5, _⟩ := hB.fin
                          obtain ⟨A, hA5⟩ : ∃ A, A = acc.length := ⟨_, rfl⟩
                          rw [← hA5] at hv5 hac
                          have HA5 := Lib.hid hA5
                          subst hv5
                          clear hA5
                          by_cases h128 : 128 ≤ A
                          · have HP := Lib.hid (HR1.out hr (by have := HA5.out; omega))
                            have b1 : (128 : Int) ≤ (A : Int) := by omega
                            clear hr HR0 HR1 HR2 h128
                            go_wp2_with (go_at_call 25; refine (cF _).mono ?_; rintro e w3 ⟨rfl, hb3⟩)
                            go_ret3
                            exact ⟨_, by rw [HP.out]; rfl, by rw [HP.out]; exact FBuf.nil_of (HB.out.2.trans ((hb1.trans (hb3.mono hb1.size)).mono HB.out.2.size))⟩
                          · have HP := Lib.hid (HR2.out hr (by have := HA5.out; omega))
                            have b1 : ¬ (128 : Int) ≤ (A : Int) := by omega
                            have hal : acc.length ≤ 1000000000 := by have := HA5.out; omega
                            clear hr HR0 HR1 HR2 h128
                            go_wp2_with (first
                              | (go_at_call 25; refine (cF _).mono ?_; rintro e w3 ⟨rfl, hb3⟩; obtain ⟨f0', f1', _, _⟩ := blk2 ((hb3.block _ (lt_of_block g1)).trans g1); have hB3 := HB.out.after (hb1.trans (hb3.mono hb1.size)))
                              | (at_builtin; refine appF hB3 f hal rfl _ _ rfl X Y HX.out HY.out rfl rfl ?_; intro v' w4 hB4))
                            go_roundw
                            case rel => exact ⟨e + 2, acc ++ [f], by go_num, HP.out, hB4⟩
                            case measure => simp [intOf]; omega
                    · have HK2 : Hid (∀ j (h : j < s.size), j < k + 1 → s[j] ≠ 58) := fun j h hj he => by
                        rcases Nat.lt_or_ge j k with hjk | hjk
                        · exact HK.out j h hjk he
                        · obtain rfl : j = k := by omega
                          exact h58 (by rw [he]; rfl)
                      have b58 : ((s[k].toNat : Int) == 58) = false := beq_eq_false_iff_ne.2 h58
                      go_wp2_with fail
                      go_round
                      case rel => exact ⟨k + 1, by omega, by go_num, HK2⟩
                      case measure => simp [intOf]; omega
                  · obtain rfl : k = s.size := by omega
                    have hcol := colon_s s s.size (Nat.le_refl _) HK.out (fun h => by omega)
                    rw [HSL.out] at hcol
                    have HP := Lib.hid (HA.out.form HEND.out (by omega) h0 (Fld.fieldOf_no (by rw [hcol, ← HSL.out, Oct.length_size])))
                    have hnb := hB.2
                    clear hcol
                    go_wp2_with fail
                    go_ret3
                    exact ⟨_, by rw [HP.out]; rfl, by rw [HP.out]; exact FBuf.nil_of hnb⟩
          · have HE2 : Hid (∀ j, n ≤ j → j < e + 1 → ¬ Fld.isC l j) := fun j hj1 hj2 hc => by
              rcases Nat.lt_or_ge j e with hj | hj
              · exact HE.out j hj1 hj hc
              · obtain rfl : j = e := by omega
                have h2 := hc.2
                rw [g1] at h2
                have := Option.some.inj h2
                subst this
                exact h10 rfl
            have b10 : ((x1.toNat : Int) == 10) = false := beq_eq_false_iff_ne.2 h10
            clear g0 g1
            go_wp2_with fail
            go_round
            case rel => exact ⟨e + 1, by omega, by omega, by go_num, HE2⟩
            case measure => simp [intOf]; omega
        · have HE2 : Hid (∀ j, n ≤ j → j < e + 1 → ¬ Fld.isC l j) := fun j hj1 hj2 hc => by
            rcases Nat.lt_or_ge j e with hj | hj
            · exact HE.out j hj1 hj hc
            · obtain rfl : j = e := by omega
              have h2 := hc.1
              rw [g0] at h2
              have := Option.some.inj h2
              subst this
              exact h13 rfl
          have b13 : ((x0.toNat : Int) == 13) = false := beq_eq_false_iff_ne.2 h13
          clear g0 g1
          go_wp2_with fail
          go_round
          case rel => exact ⟨e + 1, by omega, by omega, by go_num, HE2⟩
          case measure => simp [intOf]; omega
      · have hend : Fld.endAt l n = none := Fld.endAt_none (fun j hj hc => by
          rcases Nat.lt_or_ge j e with h | h
          · exact HE.out j hj h hc
          · have := Fld.isC_lt hc; have := HL.out; omega)
        have HP := Lib.hid (HA.out.more hend)
        rw [← HL.out] at HP
        have hnb := hB.2
        by_cases h6 : 65536 < L
        · rw [if_pos h6] at HP
          have b6 : (65536 : Int) < (L : Int) := by omega
          clear hend h6
          go_wp2_with fail
          go_ret3
          exact ⟨_, by rw [HP.out]; rfl, by rw [HP.out]; exact FBuf.nil_of hnb⟩
        · rw [if_neg h6] at HP
          have b6 : ¬ (65536 : Int) < (L : Int) := by omega
          clear hend h6
          go_wp2_with fail
          go_ret3
          exact ⟨_, by rw [HP.out]; rfl, by rw [HP.out]; exact FBuf.nil_of hnb⟩
end Go.Proofs.YtgnopcghobaoiaaDoor
