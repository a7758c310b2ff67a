/- The statements of layer 9: VaryBlanks: what the walk takes. -/
import Derived.Test.YtelndkglimkfeaaDoorVr13
import Derived.Test.YtelndkglimkfeaaDoorVr12
import Derived.Deep.RegionLaw
import Derived.Deep.CutBlock
namespace Go.Proofs.YtelndkglimkfeaaDoor
open Go.RowKit

/-- 'append(fs, f)' as one operation of a region, with a word on the other blocks. -/
theorem appFO {o : Oper} {a : Act} {K : Act → World → Prop} {Q : Exit → Act → World → Prop} {W w : World} {v : Value} {fs : List Fld.F} (h : FBuf W w v fs) (f : Fld.F) (hlen : fs.length ≤ 1000000000)
    (s x : Operand) (ho : o.op = .call { callee := .builtin .append, args := #[s, x], argTypes := #[29, 29] })
    (s0 s1 : ByteArray) (h0 : s0 = str f.1) (h1 : s1 = str f.2) (hs : a.eval s = v) (hx : a.eval x = .slice (some ⟨w.heap.size, 0, none⟩) 1 1)
    (hK : ∀ v' w', FBuf W w' v' (fs ++ [f]) → Kept 35 w w' → K (a.put o.dst v') w') : o.wp Tryd.prog a (w.alloc (.cells #[.string s0, .string s1] 35)) K Q := by
  subst h0 h1
  obtain ⟨i0, hi, hz0, hz1, hz2⟩ := info_parts fields_info
  have hA := h.after ((Below.refl _ w).alloc (Nat.le_refl _) (.cells #[.string (str f.1), .string (str f.2)] 35))
  refine wp_append_own _ s x _ ho W.heap.size 35 i0 _ 2 32 Tryd.underlying29 hi hz0 hz1 hz2 rfl (by decide) v fs.length (fieldCells fs) hs hA.1 ⟨w.heap.size, 0, none⟩ 1 1 (fieldCells [f]) hx rfl ?_ ?_ (by unfold maxLen; omega) (by omega) hA.2.size (fun v' w' h1 h2 _ => ?_)
  · intro j u hj
    match j, hj with
    | 0, hj =>
      simp [fieldCells] at hj; subst hj
      show (w.alloc (.cells #[.string (str f.1), .string (str f.2)] 35)).cell? ⟨w.heap.size, 0 + 0, none⟩ = _
      rw [World.cell?_alloc_at _ _ _ _ rfl]; rfl
    | 1, hj =>
      simp [fieldCells] at hj; subst hj
      show (w.alloc (.cells #[.string (str f.1), .string (str f.2)] 35)).cell? ⟨w.heap.size, 0 + 1, none⟩ = _
      rw [World.cell?_alloc_at _ _ _ _ rfl]; rfl
    | j + 2, hj => simp [fieldCells] at hj
  · intro u hu; simp [fieldCells] at hu; rcases hu with rfl | rfl <;> rfl
  · refine hK v' w' ⟨?_, hA.2.grown h2 hA.2.size (fun k hk => (hA.1.lt k hk).1)⟩ (kept_append h2 hA.1)
    rw [fieldCells_append, List.length_append]; exact h1

theorem row_kept {w w' : World} {base e s n : Nat} {v : Value} {xs : List Value} (h : w.ownsRow base e s v n xs) {e' : TypeId} (hk : Kept e' w w') (hne : e ≠ e') : w'.ownsRow base e s v n xs :=
  row_after h (fun _ _ hg => hk _ _ hg (fun cs fz hc => by injection hc with _ h2 _; exact hne h2))
theorem Row.kept {w w' : World} {g : Nat} {l : List UInt8} (h : Row w g l) {e' : TypeId} (hk : Kept e' w w') (hne : 5 ≠ e') : Row w' g l := by
  obtain ⟨C, n, h1, h2⟩ := h
  exact ⟨C, n, hk _ _ h1 (fun cs fz hc => by injection hc with _ h2 _; exact hne h2), h2⟩
theorem Row.later {w w' : World} {g : Nat} {l : List UInt8} (h : Row w g l) (hb : Below w.heap.size w w') : Row w' g l := by
  obtain ⟨C, n, h1, h2⟩ := h
  exact ⟨C, n, (hb.block _ (lt_of_block h1)).trans h1, h2⟩
/-- 'string(name)'. -/
theorem Row.string {w : World} {g n cap : Nat} {l : List UInt8} (h : Row w g l) (hn : n = l.length) : (convert 37 9 (.slice (some ⟨g, 0, none⟩) n cap)).run Tryd.prog w = .ok (.string (str l)) w := by
  subst hn
  exact run_convert_bytes_back (P := Tryd.prog) w 37 9 5 ⟨g, 0, none⟩ cap l Tryd.underlying37 Tryd.underlying5 Tryd.underlying9 (fun j hj => by
    rw [Addr.add_lit, Nat.zero_add]; exact (h.cell j hj).1)

theorem odd_fits {fs : List Fld.F} (h : shortS fs = true) : Fits (Vr.odd fs) := by
  obtain ⟨h1, h2⟩ := shortS_spec h
  have h3 := Vr.odd_length fs 500 (fun f hf => (h2 f hf).2)
  have h4 := Nat.mul_le_mul_right (500 + 2) h1
  have h5 := Vr.odd_sizes fs 300 500 h2
  exact ⟨⟨by omega, fun f hf => by have := h5 f hf; omega⟩, by omega, fun f hf => by have := h5 f hf; omega⟩
theorem odd_fits1 {fs : List Fld.F} {m : Fld.F} (h : shortS fs = true) (h1 : m.1.length ≤ 300) (h2 : m.2.length ≤ 500) : Fits (Vr.odd fs ++ [m]) := by
  obtain ⟨h0, h3⟩ := shortS_spec h
  have h4 := Vr.odd_length fs 500 (fun f hf => (h3 f hf).2)
  have h5 := Nat.mul_le_mul_right (500 + 2) h0
  have h6 := odd_fits h
  refine ⟨⟨by rw [List.length_append]; simp; omega, fun f hf => ?_⟩, by rw [List.length_append]; simp; omega, fun f hf => ?_⟩
  · rcases List.mem_append.1 hf with hf | hf
    · exact h6.small.2 f hf
    · rw [List.mem_singleton.1 hf]; omega
  · rcases List.mem_append.1 hf with hf | hf
    · exact h6.val f hf
    · rw [List.mem_singleton.1 hf]; omega
/-- What stands of a field's pieces behind the first k. -/
def oddTo (f : Fld.F) (ps : List (List UInt8)) : List Fld.F := (if Oct.splitText f.2 = [] then [f] else []) ++ ps.map fun p => (Vr.upper f.1, Vr.wrap p)
theorem oddTo_all (f : Fld.F) : oddTo f (Oct.splitText f.2) = Vr.oddOf f := rfl
theorem oddTo_snoc (f : Fld.F) (ps : List (List UInt8)) (k : Nat) (h : k < ps.length) : oddTo f (ps.take (k + 1)) = oddTo f (ps.take k) ++ [(Vr.upper f.1, Vr.wrap ps[k])] := by
  unfold oddTo; rw [List.take_succ_eq_append_getElem h, List.map_append, List.append_assoc]; rfl
theorem oddTo_length (f : Fld.F) (ps : List (List UInt8)) : (oddTo f ps).length ≤ 1 + ps.length := by
  unfold oddTo; rw [List.length_append, List.length_map]; split <;> simp
theorem wrap_str (p : List UInt8) : (⟨#[32, 9]⟩ : ByteArray) ++ str p ++ ⟨#[32, 44]⟩ = str (Vr.wrap p) := by
  apply ByteArray.ext; simp [str, Vr.wrap]
theorem calm_all {fs : List Fld.F} {k : Nat} (h : k < fs.length) (ha : (fs.take k).all Vr.calmF = true) (hc : Vr.calmF fs[k] = true) : (fs.take (k + 1)).all Vr.calmF = true := by
  rw [List.take_succ_eq_append_getElem h, List.all_append, ha]; simp [hc]
theorem calm_snoc {ps : List (List UInt8)} {k : Nat} (h : k < ps.length) (ha : (ps.take k).all (fun p => !p.contains 34) = true) (hc : 34 ∉ ps[k]) : (ps.take (k + 1)).all (fun p => !p.contains 34) = true := by
  rw [List.take_succ_eq_append_getElem h, List.all_append, ha]; simpa using hc
theorem no34_snoc (s : ByteArray) (j : Nat) (h : j < s.size) (hn : 34 ∉ s.data.toList.take j) (hc : ¬ (s[j].toNat : Int) = 34) : 34 ∉ s.data.toList.take (j + 1) := by
  rw [Oct.take_snoc s j h, List.mem_append]
  rintro (e | e)
  · exact hn e
  · have : (34 : UInt8) = s[j] := List.mem_singleton.1 e
    exact hc (by rw [← this]; rfl)
end Go.Proofs.YtelndkglimkfeaaDoor
