/- Package vary: what a request has of a name, and its key. -/
import Derived.Test.YtelndkglimkfeaaDoorFdBase
import Derived.Test.YtelndkglimkfeaaDoorVrMathC
namespace Go.Proofs.YtelndkglimkfeaaDoor
open Go.RowKit

/-- strings.Join(pieces, ","). -/
theorem Join_w {base : Nat} (v : Value) (ls : List (List UInt8)) (w : World) (h : w.ownsRow base 9 1 v ls.length (strCells ls)) (hN : ls.length ≤ 140737488355328) (hl : (Lib.join ls [44]).length ≤ 140737488355328) :
    Calls Tryd.prog 44 #[v, .string ⟨#[44]⟩] w fun e w' => e = .returned (.string (str (Lib.join ls [44]))) ∧ Below w.heap.size w w' := by
  rcases h.2 with ⟨rfl, h0⟩ | ⟨g, cap, cur, rfl, hg, hh, h1, h2, h3, h4⟩
  · have : ls = [] := List.eq_nil_of_length_eq_zero h0
    subst this
    exact (Tryd.strings_Join_none none 0 ⟨#[44]⟩ w).mono (by rintro e w' ⟨rfl, rfl⟩; exact ⟨rfl, Below.refl _ _⟩)
  · have e1 : (ls.map str).map (fun s : ByteArray => s.data.toList) = ls := by
      rw [List.map_map]
      conv => rhs; rw [← List.map_id ls]
      apply List.map_congr_left; intro l _; exact str_list l
    have c := Tryd.strings_Join g 0 cap (ls.map str) ⟨#[44]⟩ w (fun j x hj => by
      have hjl : j < ls.length := by
        have := (List.getElem?_eq_some_iff.1 hj).1
        simpa using this
      have h5 : cur.toList[j]? = some (.string x) := by
        have h6 : (cur.toList.take (ls.length * 1))[j]? = (strCells ls)[j]? := by rw [h4]
        rw [List.getElem?_take_of_lt (by omega)] at h6
        rw [h6]
        unfold strCells
        rw [List.getElem?_map] at hj ⊢
        rw [List.getElem?_eq_getElem hjl] at hj ⊢
        simp only [Option.map_some, Option.some.injEq] at hj ⊢
        rw [hj]
      simp only [World.cell?, hh]
      simpa using h5) (lt_of_block hh) (by rw [List.length_map]; exact hN) (by rw [List.length_map]; exact h1) (by rw [e1]; exact hl)
    rw [e1, List.length_map] at c
    exact c

/-- A function that is asked what fields have of names: it holds on to the block where the fields' slice lies. -/
def PartFn (w : World) (vf : Value) (fs : List Fld.F) : Prop := ∃ b va, vf = .func (.func 42) #[] #[.pointer (some ⟨b, 0, none⟩)] ∧ w.heap[b]? = some (.cells #[va] 29 (0, 0)) ∧ FIn w va fs
theorem PartFn.later {w w' : World} {vf : Value} {fs : List Fld.F} (h : PartFn w vf fs) (hb : Below w.heap.size w w') : PartFn w' vf fs := by
  obtain ⟨b, va, rfl, h1, h2⟩ := h
  exact ⟨b, va, rfl, (hb.block _ (lt_of_block h1)).trans h1, h2.later hb⟩

theorem parts_w (va : Value) (fs : List Fld.F) (w : World) (ha : FIn w va fs) :
    Calls Tryd.prog 28 #[va] w fun e w' => ∃ vf, e = .returned vf ∧ PartFn w' vf fs ∧ Below w.heap.size w w' := by
  have hmf : ∀ (fn : Fn) (first cap : Array Value) (w : World), (Instr.makeFunc fn first cap).run Tryd.prog w = .ok (.func fn first cap) w := fun _ _ _ _ => rfl
  have hb : Below w.heap.size w (w.alloc (.cells #[va] 29)) := (Below.refl _ w).alloc (Nat.le_refl _) _
  have hP : PartFn (w.alloc (.cells #[va] 29)) (.func (.func 42) #[] #[.pointer (some ⟨w.heap.size, 0, none⟩)]) fs := ⟨_, va, rfl, heap_alloc_new w _, ha.later hb⟩
  obtain ⟨aa, ca, rfl, _⟩ := ha
  have HP := Lib.hid hP
  clear hP
  go_enter Tryd.func28, Tryd.ntmps28
  go_wp2
  go_ret
  exact ⟨_, rfl, HP.out, hb⟩

/-- How many fields there may be, how long their values. -/
structure Fits (fs : List Fld.F) : Prop where
  small : Small fs
  len : fs.length ≤ 50000
  val : ∀ f ∈ fs, f.2.length ≤ 1000000
theorem Fits.joined {fs : List Fld.F} (h : Fits fs) (n : List UInt8) : (Vr.joined n fs).length ≤ 100000050000 := by
  have h1 := Vr.joined_length n fs 1000000 h.val
  have h2 := Nat.mul_le_mul_right (2 * 1000000 + 1) h.len
  omega

set_option maxHeartbeats 1600000 in
set_option maxRecDepth 100000 in
theorem part_c (nm : List UInt8) (b : Nat) (va : Value) (fs : List Fld.F) (w : World) (hb : w.heap[b]? = some (.cells #[va] 29 (0, 0))) (ha : FIn w va fs) (hf : Fits fs) (hn : nm.length ≤ 1000000) :
    Calls Tryd.prog 42 #[.string (str nm), .pointer (some ⟨b, 0, none⟩)] w fun e w' => e = .returned (.string (str (Vr.part nm fs))) ∧ Below w.heap.size w w' := by
  have cG := Get_w va fs nm w ha hf.small (by omega)
  have hc0 := cell_of_one hb
  have hgl : (Fld.get fs nm).length ≤ 50000 := Nat.le_trans (Fld.get_length fs nm) hf.len
  have hgv : ∀ l ∈ Fld.get fs nm, l.length ≤ 1000000 := Fld.get_small hf.val
  have hj := hf.joined nm
  have hpl := Oct.splitAll_len (Fld.get fs nm) hgv
  have cS := fun (v : Value) (w1 : World) (h : SIn w1 v (Fld.get fs nm)) => Split_t v (Fld.get fs nm) w1 h hgl hgv
  have cJ := fun (base : Nat) (v : Value) (w1 : World) (h : w1.ownsRow base 9 1 v (Oct.splitAll (Fld.get fs nm)).length (strCells (Oct.splitAll (Fld.get fs nm)))) => Join_w v _ w1 h (by omega) (by unfold Vr.joined at hj; omega)
  have hsz : (str (Lib.join (Oct.splitAll (Fld.get fs nm)) [44])).size ≤ 100000050000 := by rw [str_size]; exact hj
  have hP0 : Fld.get fs nm = [] → Vr.part nm fs = [] := fun e => by unfold Vr.part Vr.has; rw [e]; rfl
  have hP1 : Fld.get fs nm ≠ [] → str (Vr.part nm fs) = (⟨#[58]⟩ : ByteArray) ++ str (Lib.join (Oct.splitAll (Fld.get fs nm)) [44]) := fun e => by
    have : Vr.has nm fs = true := by unfold Vr.has; cases h : Fld.get fs nm with | nil => exact absurd h e | cons _ _ => rfl
    unfold Vr.part; rw [this, if_pos rfl]; unfold Vr.joined
    apply ByteArray.ext; simp [str]
  obtain ⟨aa, ca, rfl, _⟩ := id ha
  generalize str nm = s at *
  clear ha hf hn hj hpl
  by_cases h0 : Fld.get fs nm = []
  · have HP := Lib.hid (hP0 h0)
    rw [h0] at cG
    clear hP0 hP1 h0 cS cJ hsz hgl hgv
    go_enter Tryd.func42, Tryd.ntmps42
    go_wp2_with fail
    refine cG.mono ?_
    rintro e w1 ⟨v, rfl, hB⟩
    have hb1 := hB.2
    obtain ⟨ao, cap, rfl, _⟩ := hB.sin
    go_wp2_with fail
    go_ret
    exact ⟨by rw [HP.out]; rfl, hb1⟩
  · have HP := Lib.hid (hP1 h0)
    have hne : (Fld.get fs nm).length ≠ 0 := fun e => h0 (List.eq_nil_of_length_eq_zero e)
    generalize Fld.get fs nm = G at *
    obtain ⟨n, hn⟩ : ∃ n, n = G.length := ⟨_, rfl⟩
    rw [← hn] at hne hgl
    have bn : ((n : Int) == 0) = false := by rw [beq_eq_false_iff_ne]; omega
    have HN := Lib.hid hn
    generalize str (Lib.join (Oct.splitAll G) [44]) = J at *
    clear hP0 hP1 h0 hgv
    go_enter Tryd.func42, Tryd.ntmps42
    go_wp2_with fail
    refine cG.mono ?_
    rintro e w1 ⟨v, rfl, hB⟩
    have hb1 := hB.2
    have cS1 := cS v w1 hB.sin
    obtain ⟨ao, cap, rfl, _⟩ := hB.sin
    rw [← HN.out] at cS1 ⊢
    clear hn hB cS cG
    go_wp2_with fail
    refine cS1.mono ?_
    rintro e w2 ⟨v2, rfl, hR, hb2⟩
    have cJ1 := cJ _ v2 w2 hR
    have hb12 := hb1.trans (hb2.mono hb1.size)
    clear cJ hR cS1
    go_wp2_with fail
    refine cJ1.mono ?_
    rintro e w3 ⟨rfl, hb3⟩
    go_wp2_with fail
    go_ret
    exact ⟨by rw [HP.out]; rfl, hb12.trans (hb3.mono hb12.size)⟩
end Go.Proofs.YtelndkglimkfeaaDoor
