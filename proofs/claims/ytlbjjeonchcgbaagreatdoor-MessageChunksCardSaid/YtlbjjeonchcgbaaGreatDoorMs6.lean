/- The statements of layer 8: which messages aren't too great. -/
import Derived.Test.YtlbjjeonchcgbaaGreatDoorMs5
namespace Go.Proofs.YtlbjjeonchcgbaaGreatDoor
open Go.RowKit

def SmP (s : St.S) (fs : List Fld.F) (x m : List UInt8) : Prop :=
  s.method.length ≤ 100 ∧ s.target.length ≤ 2000 ∧ s.reason.length ≤ 500 ∧ fs.length ≤ 140 ∧ x.length ≤ 3000 ∧ m.length ≤ 100 ∧ ∀ f ∈ fs, f.1.length ≤ 200 ∧ f.2.length ≤ 500
instance (s : St.S) (fs : List Fld.F) (x m : List UInt8) : Decidable (SmP s fs x m) := by unfold SmP; infer_instance
def smallB (s : St.S) (fs : List Fld.F) (x m : List UInt8) : Bool := decide (SmP s fs x m)
theorem smallB_sm {s : St.S} {fs : List Fld.F} {x m : List UInt8} (h : smallB s fs x m = true) (h1 : s.status ≤ 9223372036854775807) (h2 : s.minor ≤ 9223372036854775807) : Sm s fs x m := by
  have ⟨a, b, c, d, e, f, g⟩ : SmP s fs x m := of_decide_eq_true h
  exact ⟨a, b, c, d, g, e, f, h1, h2⟩
theorem small_no {s : St.S} {fs : List Fld.F} {x m : List UInt8} (h : ¬ SmP s fs x m) : false = smallB s fs x m := (decide_eq_false h).symm
theorem small_yes {s : St.S} {fs : List Fld.F} {x m : List UInt8} (h : SmP s fs x m) : true = smallB s fs x m := (decide_eq_true h).symm

set_option maxHeartbeats 6400000 in
set_option maxRecDepth 100000 in
theorem small_w (s : St.S) (fv bv : Value) (fs : List Fld.F) (x m : List UInt8) (w : World) (hF : FIn w fv fs) (hx : BIn w bv x) :
    Calls Tryz.prog 13 #[mval s fv bv, .string (str m)] w fun e w' => e = .returned (.bool (smallB s fs x m)) ∧ Below w.heap.size w w' := by
  obtain ⟨aa, ca, rfl⟩ : ∃ a c, fv = .slice a fs.length c := by obtain ⟨a, c, h, _⟩ := hF; exact ⟨a, c, h⟩
  obtain ⟨ba, bc, rfl⟩ : ∃ a c, bv = .slice a x.length c := by obtain ⟨a, c, h, _⟩ := hx; exact ⟨a, c, h⟩
  rw [mval_s]
  have z0 := str_size s.method
  have z1 := str_size s.target
  have z2 := str_size s.reason
  have z5 := str_size m
  obtain ⟨n, z3⟩ : ∃ n, n = fs.length := ⟨_, rfl⟩
  obtain ⟨X, z4⟩ : ∃ X, X = x.length := ⟨_, rfl⟩
  rw [← z3] at hF ⊢
  rw [← z4] at ⊢
  generalize str s.method = a0 at *
  generalize str s.target = a1 at *
  generalize s.status = st at *
  generalize str s.reason = a3 at *
  generalize s.minor = mi at *
  generalize str m = mm at *
  have HZ : Hid (a0.size = s.method.length ∧ a1.size = s.target.length ∧ a3.size = s.reason.length ∧ mm.size = m.length ∧ n = fs.length ∧ X = x.length) := Lib.hid ⟨z0, z1, z2, z5, z3, z4⟩
  clear hx z0 z1 z2 z3 z4 z5
  go_enter Tryz.func13, Tryz.ntmps13
  go_upto_region 1 with fail
  have b0 : (w.alloc (.cells #[.string a0, .string a1, .int .i64 st, .string a3, .int .i64 mi, .slice aa n ca, .slice ba X bc] 28)).heap[w.heap.size]? = some (.cells #[.string a0, .string a1, .int .i64 st, .string a3, .int .i64 mi, .slice aa n ca, .slice ba X bc] 28 (0, 0)) := heap_alloc_new w _
  have hb0 : Below w.heap.size w (w.alloc (.cells #[.string a0, .string a1, .int .i64 st, .string a3, .int .i64 mi, .slice aa n ca, .slice ba X bc] 28)) := (Below.refl _ w).alloc (Nat.le_refl _) _
  have cF := hF.later hb0
  clear hF
  generalize w.alloc (.cells #[.string a0, .string a1, .int .i64 st, .string a3, .int .i64 mi, .slice aa n ca, .slice ba X bc] 28) = W0 at *
  generalize hpp : w.heap.size = p at b0 ⊢
  obtain ⟨c0, c1, c2, c3, c4, c5, c6⟩ := set7 b0
  clear b0
  by_cases t0 : (100 : Int) < a0.size
  · have HR : Hid (false = smallB s fs x m) := Lib.hid (small_no fun h => by have := h.1; have hz := HZ.out; omega)
    clear cF
    go_wp2_with fail
    go_ret
    exact ⟨ret_bool' HR.out, by first | exact hb0 | (rw [← hpp]; exact hb0)⟩
  by_cases t1 : (2000 : Int) < a1.size
  · have HR : Hid (false = smallB s fs x m) := Lib.hid (small_no fun h => by have := h.2.1; have hz := HZ.out; omega)
    clear cF
    go_wp2_with fail
    go_ret
    exact ⟨ret_bool' HR.out, by first | exact hb0 | (rw [← hpp]; exact hb0)⟩
  by_cases t2 : (500 : Int) < a3.size
  · have HR : Hid (false = smallB s fs x m) := Lib.hid (small_no fun h => by have := h.2.2.1; have hz := HZ.out; omega)
    clear cF
    go_wp2_with fail
    go_ret
    exact ⟨ret_bool' HR.out, by first | exact hb0 | (rw [← hpp]; exact hb0)⟩
  by_cases t3 : (140 : Int) < n
  · have HR : Hid (false = smallB s fs x m) := Lib.hid (small_no fun h => by have := h.2.2.2.1; have hz := HZ.out; omega)
    clear cF
    go_wp2_with fail
    go_ret
    exact ⟨ret_bool' HR.out, by first | exact hb0 | (rw [← hpp]; exact hb0)⟩
  by_cases t4 : (3000 : Int) < X
  · have HR : Hid (false = smallB s fs x m) := Lib.hid (small_no fun h => by have := h.2.2.2.2.1; have hz := HZ.out; omega)
    clear cF
    go_wp2_with fail
    go_ret
    exact ⟨ret_bool' HR.out, by first | exact hb0 | (rw [← hpp]; exact hb0)⟩
  by_cases t5 : (100 : Int) < mm.size
  · have HR : Hid (false = smallB s fs x m) := Lib.hid (small_no fun h => by have := h.2.2.2.2.2.1; have hz := HZ.out; omega)
    clear cF
    go_wp2_with fail
    go_ret
    exact ⟨ret_bool' HR.out, by first | exact hb0 | (rw [← hpp]; exact hb0)⟩
  have HN := Lib.hid HZ.out.2.2.2.2.1
  have HT : Hid (s.method.length ≤ 100 ∧ s.target.length ≤ 2000 ∧ s.reason.length ≤ 500 ∧ fs.length ≤ 140 ∧ x.length ≤ 3000 ∧ m.length ≤ 100) := Lib.hid (by have hz := HZ.out; exact ⟨by omega, by omega, by omega, by omega, by omega, by omega⟩)
  have hn9 : n ≤ 140 := by omega
  by_cases h0 : n = 0
  · subst h0
    have HR : Hid (true = smallB s fs x m) := Lib.hid (small_yes ⟨HT.out.1, HT.out.2.1, HT.out.2.2.1, HT.out.2.2.2.1, HT.out.2.2.2.2.1, HT.out.2.2.2.2.2, fun f hf => by
      rw [List.eq_nil_of_length_eq_zero HN.out.symm] at hf; cases hf⟩)
    clear cF hn9 HT HN
    go_wp2_with fail
    refine wp_loop_rounds 1 ?_
    rw [rounds_succ]
    go_wp2_with fail
    go_ret
    exact ⟨ret_bool' HR.out, by first | exact hb0 | (rw [← hpp]; exact hb0)⟩
  obtain ⟨fa, fo, rfl, hcf⟩ : ∃ b o, aa = some ⟨b, o, none⟩ ∧ ∀ j (hj : j < fs.length), W0.cell? ⟨b, o + j * 2, none⟩ = some (.string (str fs[j].1)) ∧ W0.cell? ⟨b, o + j * 2 + 1, none⟩ = some (.string (str fs[j].2)) := by
    obtain ⟨a9, c9, e9, h9⟩ := cF
    rcases h9 with h9 | ⟨b, o, h1, _, h3⟩
    · exact absurd (by rw [HN.out, h9]; rfl) h0
    · refine ⟨b, o, ?_, h3⟩
      injection e9 with e1; rw [e1, h1]
  have HC : Hid (∀ j (hj : j < n), W0.cell? ⟨fa, fo + j * 2, none⟩ = some (.string (str (fs[j]'(HN.out ▸ hj)).1)) ∧ W0.cell? ⟨fa, fo + j * 2 + 1, none⟩ = some (.string (str (fs[j]'(HN.out ▸ hj)).2))) := Lib.hid fun j hj => hcf j (by have := HN.out; omega)
  clear cF hcf
  go_wp2_with fail
  go_loopw [5] (fun i wr => ∃ k q : Nat, k ≤ n ∧ i = .int .i64 k ∧ wr = W0.drewN q ∧ Hid (∀ f ∈ fs.take k, f.1.length ≤ 200 ∧ f.2.length ≤ 500)) (fun i _ => n - (intOf i).toNat)
  case atStart => exact ⟨0, 0, by omega, rfl, rfl, Lib.hid (fun f hf => by cases hf)⟩
  case round =>
    obtain ⟨k, q, hk, rfl, rfl, HK⟩ := hrel
    by_cases hlt : k < n
    · have ka : k < fs.length := by have := HN.out; omega
      obtain ⟨d1, d2⟩ := HC.out k hlt
      have s1 : (str fs[k].1).size = fs[k].1.length := str_size _
      have s2 : (str fs[k].2).size = fs[k].2.length := str_size _
      by_cases u1 : (200 : Int) < (str fs[k].1).size
      · have HR : Hid (false = smallB s fs x m) := Lib.hid (small_no fun h => by have := (h.2.2.2.2.2.2 fs[k] (List.getElem_mem ka)).1; omega)
        generalize str fs[k].1 = y at *
        generalize str fs[k].2 = y' at *
        clear s1 s2
        go_wp2_with fail
        go_ret
        exact ⟨ret_bool' HR.out, by first | exact bt5 hb0 (bdrewN _ _) | (rw [← hpp]; exact bt5 hb0 (bdrewN _ _))⟩
      by_cases u2 : (500 : Int) < (str fs[k].2).size
      · have HR : Hid (false = smallB s fs x m) := Lib.hid (small_no fun h => by have := (h.2.2.2.2.2.2 fs[k] (List.getElem_mem ka)).2; omega)
        generalize str fs[k].1 = y at *
        generalize str fs[k].2 = y' at *
        clear s1 s2
        go_wp2_with fail
        go_ret
        exact ⟨ret_bool' HR.out, by first | exact bt5 hb0 (bdrewN _ _) | (rw [← hpp]; exact bt5 hb0 (bdrewN _ _))⟩
      have HK2 : Hid (∀ f ∈ fs.take (k + 1), f.1.length ≤ 200 ∧ f.2.length ≤ 500) := Lib.hid (fun f hf => by
        rw [List.take_succ_eq_append_getElem ka] at hf
        rcases List.mem_append.1 hf with h | h
        · exact HK.out f h
        · rw [List.mem_singleton.1 h]; omega)
      generalize str fs[k].1 = y at *
      generalize str fs[k].2 = y' at *
      clear s1 s2
      go_wp2_with fail
      go_roundw
      case rel => exact ⟨k + 1, _, by omega, by go_num, rfl, HK2⟩
      case measure => simp [intOf]; omega
    · have HR : Hid (true = smallB s fs x m) := Lib.hid (small_yes ⟨HT.out.1, HT.out.2.1, HT.out.2.2.1, HT.out.2.2.2.1, HT.out.2.2.2.2.1, HT.out.2.2.2.2.2, fun f hf => HK.out f (by rw [List.take_of_length_le (by have := HN.out; omega)]; exact hf)⟩)
      go_wp2_with fail
      go_ret
      exact ⟨ret_bool' HR.out, by first | exact bt5 hb0 (bdrewN _ _) | (rw [← hpp]; exact bt5 hb0 (bdrewN _ _))⟩
end Go.Proofs.YtlbjjeonchcgbaaGreatDoor
