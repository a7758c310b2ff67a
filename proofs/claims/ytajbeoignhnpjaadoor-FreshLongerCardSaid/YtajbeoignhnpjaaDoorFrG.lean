/- Package fresh, the program's side: the calls of the layers below, as its functions make them. -/
import Derived.Test.YtajbeoignhnpjaaDoorFrE
import Derived.Test.YtajbeoignhnpjaaDoorFr1
import Derived.Deep.DeepCutAuto
namespace Go.Proofs.YtajbeoignhnpjaaDoor
open Go.RowKit

theorem small_of {fs : List Fld.F} (h : shortR fs = true) : Small fs := by
  obtain ⟨h1, h2⟩ := shortR_spec h
  exact ⟨by omega, fun f hf => by have := h2 f hf; omega⟩
theorem got_len {fs : List Fld.F} (h : shortR fs = true) (nm : List UInt8) : (Fld.get fs nm).length ≤ 30 ∧ ∀ l ∈ Fld.get fs nm, l.length ≤ 500 := by
  obtain ⟨h1, h2⟩ := shortR_spec h
  have h3 := Fld.get_length fs nm
  exact ⟨by omega, Fld.get_small fun f hf => (h2 f hf).2⟩
/-- The values of the fields of a name. -/
theorem Get_r (fv : Value) (fs : List Fld.F) (nm : List UInt8) (hn : nm.length ≤ 100) (h : shortR fs = true) (w : World) (hf : FIn w fv fs) :
    Calls Tryd.prog 22 #[fv, .string (str nm)] w fun e w' => ∃ v, e = .returned v ∧ SIn w' v (Fld.get fs nm) ∧ Below w.heap.size w w' :=
  (Get_w fv fs nm w hf (small_of h) (by omega)).mono fun _ _ ⟨v, he, hb⟩ => ⟨v, he, hb.sin, hb.2⟩
/-- What it says. -/
theorem Says_r (v : Value) (fs : List Fld.F) (h : shortR fs = true) (w : World) (hv : SIn w v (Fld.get fs Fr.kCC)) (hm : MaxOk w) :
    Calls Tryd.prog 21 #[v] w fun e w' => e = .returned (cval (Fr.says fs)) ∧ Below w.heap.size w w' := by
  obtain ⟨h1, h2⟩ := got_len h Fr.kCC
  exact Parse_w v _ w hv (by omega) (fun l hl => by have := h2 l hl; omega) hm
/-- Texts that come in: none, or the first one's cell. -/
theorem sin_first {w : World} {v : Value} {l : List UInt8} {ls : List (List UInt8)} (h : SIn w v (l :: ls)) : ∃ b o c, v = .slice (some ⟨b, o, none⟩) (ls.length + 1) c ∧ w.cell? ⟨b, o, none⟩ = some (.string (str l)) := by
  obtain ⟨ao, c, hv, h⟩ := h
  rcases h with h | ⟨b, o, rfl, _, hc⟩
  · cases h
  · exact ⟨b, o, c, hv, by have := hc 0 (by simp); simpa using this⟩
theorem sin_none {w : World} {v : Value} (h : SIn w v []) : ∃ ao c, v = .slice ao 0 c := by
  obtain ⟨ao, c, hv, _⟩ := h
  exact ⟨ao, c, hv⟩
/-- The number of the first field age. -/
theorem Number_r (v : List UInt8) (w : World) (hv : v.length ≤ 500) :
    Calls Tryd.prog 34 #[.string (str v), .int .i64 2147483647] w fun e w' => e = .returned (.tuple #[.int .i64 (Oct.number 10 2147483647 v).1, .int .i64 (Oct.number 10 2147483647 v).2]) ∧ Below w.heap.size w w' := by
  have := Number_is (str v) 2147483647 _ _ w (by rw [str_size]; omega) (by decide) (by decide) (rfl : Oct.number 10 2147483647 (str v).data.toList = ((Oct.number 10 2147483647 (str v).data.toList).1, (Oct.number 10 2147483647 (str v).data.toList).2))
  rw [str_list] at this
  exact this
end Go.Proofs.YtajbeoignhnpjaaDoor
