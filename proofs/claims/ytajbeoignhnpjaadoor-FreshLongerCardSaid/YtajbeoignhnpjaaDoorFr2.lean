/- Package fresh: the document's When; the laws' small functions: aged, the digits. -/
import Derived.Test.YtajbeoignhnpjaaDoorFr1
import Derived.Deep.DeepCutAuto
import Derived.Deep.CutBlock
namespace Go.Proofs.YtajbeoignhnpjaaDoor
open Go.RowKit

theorem tcells {w : World} {g : Nat} {a b : Int} {t : TypeId} (hh : w.heap[g]? = some (.cells #[.int .i64 a, .int .i64 b] t (0, 0))) :
    w.cell? ⟨g, 0, none⟩ = some (.int .i64 a) ∧ w.cell? ⟨g, 1, none⟩ = some (.int .i64 b) := by
  simp [World.cell?, hh]

set_option maxHeartbeats 800000 in
set_option maxRecDepth 100000 in
theorem When_w (a g : Int) (w : World) :
    Calls Tryd.prog 10 #[tv a g] w fun e w' => e = .returned (.tuple #[.int .i64 (Fr.ask a), .int .i64 (Fr.got a g)]) ∧ Below w.heap.size w w' := by
  unfold tv
  have GF := fun w => far_w w
  have GC := fun n w => Cap_w n 1099511627776 w (by decide)
  have HA : Hid (Fr.ask a = Fr.cap a 1099511627776) := Lib.hid rfl
  have HG : Hid (Fr.got a g = max (Fr.cap g 1099511627776) (Fr.cap a 1099511627776)) := Lib.hid rfl
  rw [HA.out]
  generalize Fr.got a g = z at HG ⊢
  generalize hx : Fr.cap a 1099511627776 = x at HG ⊢
  generalize hy : Fr.cap g 1099511627776 = y at HG
  have cA : ∀ w, Calls Tryd.prog 17 #[.int .i64 a, .int .i64 1099511627776] w fun e w' => e = .returned (.int .i64 x) ∧ w = w' := fun w => by rw [← hx]; exact GC a w
  have cG : ∀ w, Calls Tryd.prog 17 #[.int .i64 g, .int .i64 1099511627776] w fun e w' => e = .returned (.int .i64 y) ∧ w = w' := fun w => by rw [← hy]; exact GC g w
  clear hx hy HA GC
  obtain ⟨W, hW⟩ : ∃ W, W = w.alloc (.cells #[.int .i64 a, .int .i64 g] 29) := ⟨_, rfl⟩
  have hbw : Below w.heap.size w W := by rw [hW]; exact (Below.refl _ w).alloc (Nat.le_refl _) _
  obtain ⟨c0, c1⟩ := tcells (w := W) (g := w.heap.size) (a := a) (b := g) (by rw [hW]; exact heap_alloc_new w _)
  go_enter Tryd.func10, Tryd.ntmps10
  go_upto_region 1 with fail
  rw [← hW]
  clear hW
  have l0 := fun p : LateOf W => p.cell c0
  refine wp_region_late (by kernel_rfl) (by kernel_rfl) ?_
  repeat (quiet_step (first | (go_at_call 18; exact late_same _ (GF _)) | (go_at_call 17; exact late_same _ (cA _))))
  refine wpQuiet_nil ?_
  intro w1 hw'
  have hb1 : Below W.heap.size W w1 := by obtain ⟨p, rfl⟩ := hw'; exact p.h
  have c1' := (hb1.cell (p := ⟨w.heap.size, 1, none⟩) (World.block_lt_of_cell? _ _ c1)).trans c1
  have hbw1 := hbw.trans (hb1.mono hbw.size)
  clear hw' l0 hb1 c0 c1 hbw W
  go_upto_region 2 with fail
  have l1 := fun p : LateOf w1 => p.cell c1'
  refine wp_region_late (by kernel_rfl) (by kernel_rfl) ?_
  repeat (quiet_step (first | (go_at_call 18; exact late_same _ (GF _)) | (go_at_call 17; exact late_same _ (cG _))))
  refine wpQuiet_nil ?_
  intro w2 hw'
  have hb2 : Below w1.heap.size w1 w2 := by obtain ⟨p, rfl⟩ := hw'; exact p.h
  have hbw2 := hbw1.trans (hb2.mono hbw1.size)
  clear hw' l1 hb2 c1' hbw1 w1
  by_cases h : y < x
  · have HR : Hid (z = x) := Lib.hid (by rw [HG.out]; omega)
    go_wp2_with fail
    go_ret2
    exact ⟨by rw [HR.out]; rfl, hbw2⟩
  · have HR : Hid (z = y) := Lib.hid (by rw [HG.out]; omega)
    go_wp2_with fail
    go_ret2
    exact ⟨by rw [HR.out]; rfl, hbw2⟩

theorem str_put (c : UInt8) (l : List UInt8) : str [c] ++ str l = str (c :: l) := by
  rw [← str_of (str [c] ++ str l)]; simp [str_list]
/-- A digit as a text, by way of an octet. -/
theorem digit_back (w : World) (d : Nat) (hd : d < 10) (c : Nat) :
    (convert 25 9 (.slice (some ⟨w.heap.size, 0, none⟩) 1 c)).run Tryd.prog (w.alloc (.cells #[.int .u8 (48 + (d : Int))] 5)) = .ok (.string (str [Oct.ch d])) (w.alloc (.cells #[.int .u8 (48 + (d : Int))] 5)) := by
  have := run_convert_bytes_back (P := Tryd.prog) (w.alloc (.cells #[.int .u8 (48 + (d : Int))] 5)) 25 9 5 ⟨w.heap.size, 0, none⟩ c [Oct.ch d] Tryd.underlying25 Tryd.underlying5 Tryd.underlying9 (fun j hj => by
    obtain rfl : j = 0 := by simp at hj; omega
    have h1 : (w.alloc (.cells #[.int .u8 (48 + (d : Int))] 5)).heap[w.heap.size]? = some (.cells #[.int .u8 (48 + (d : Int))] 5 (0, 0)) := heap_alloc_new w _
    show World.cell? _ ⟨w.heap.size, 0 + 0, none⟩ = _
    simp only [World.cell?, h1]
    rw [List.getElem_cons_zero, Oct.ch_small d hd]
    rfl)
  exact this

set_option maxHeartbeats 1600000 in
set_option maxRecDepth 100000 in
theorem digits_w (n : Nat) (w : World) (hn : n ≤ 2147483647) : Calls Tryd.prog 12 #[.int .i64 n] w fun e w' => e = .returned (.string (str (Oct.dgs 10 n))) ∧ Below w.heap.size w w' := by
  have HN := Lib.hid hn
  clear hn
  go_enter Tryd.func12, Tryd.ntmps12
  go_wp2_with fail
  go_loopw [0, 3] (fun x s wr => ∃ (v : Nat) (tl : List UInt8), x = .int .i64 v ∧ s = .string (str tl) ∧ v ≤ n ∧ Below w.heap.size w wr ∧ Hid (Oct.dgs 10 n = Oct.dgs 10 v ++ tl) ∧ Hid (tl.length + v ≤ n)) (fun x _ _ => (intOf x).toNat)
  case atStart => exact ⟨n, [], rfl, rfl, Nat.le_refl _, Below.refl _ w, Lib.hid (by simp), Lib.hid (by simp)⟩
  case round =>
    obtain ⟨v, tl, rfl, rfl, hv, hB, HD, HL⟩ := hrel
    obtain ⟨d, hd⟩ : ∃ d, d = v % 10 := ⟨_, rfl⟩
    obtain ⟨u, hu⟩ : ∃ u, u = v / 10 := ⟨_, rfl⟩
    have hn9 := HN.out
    have hd10 : d < 10 := by omega
    have hcv := digit_back wr d hd10
    have t1 : Int.tmod (v : Int) 10 = (d : Int) := by rw [Int.tmod_eq_emod_of_nonneg (by omega)]; omega
    have t2 : Int.tdiv (v : Int) 10 = (u : Int) := by rw [Int.tdiv_eq_ediv_of_nonneg (by omega)]; omega
    have w2 : IntKind.i64.wrap (u : Int) = (u : Int) := by rw [IntKind.wrap_i64]; omega
    have w3 : IntKind.i64.wrap (d : Int) = (d : Int) := by rw [IntKind.wrap_i64]; omega
    have w1 : IntKind.i64.wrap (48 + (d : Int)) = 48 + (d : Int) := by rw [IntKind.wrap_i64]; omega
    have w4 : IntKind.u8.wrap (48 + (d : Int)) = 48 + (d : Int) := by rw [IntKind.wrap_u8]; omega
    have hz : (str tl).size ≤ 2147483647 := by rw [str_size]; have := HL.out; have := HN.out; omega
    have hz1 : (str [Oct.ch d]).size = 1 := by rw [str_size]; rfl
    have hst := str_put (Oct.ch d) tl
    have hsum : ¬ 9223372036854775807 < 1 + (str tl).size := by omega
    by_cases h0 : u = 0
    · have HR : Hid (str (Oct.ch d :: tl) = str (Oct.dgs 10 n)) := Lib.hid (by rw [HD.out, Oct.dgs_last (show v < 10 by omega), hd, Nat.mod_eq_of_lt (show v < 10 by omega)]; rfl)
      generalize str (Oct.ch d :: tl) = T2 at *
      generalize str tl = T1 at *
      generalize str [Oct.ch d] = T0 at *
      have h0u : (u : Int) = 0 := by omega
      rw [h0u] at t2
      clear hd hu HN h0 h0u w2 HD
      go_wp2_with fail
      go_ret
      exact ⟨by rw [HR.out]; rfl, hB.alloc hB.size _⟩
    · have hv16 : ¬ v < 10 := by omega
      have h0b : ((u : Int) == 0) = false := beq_eq_false_iff_ne.2 (by omega)
      have HD2 : Hid (Oct.dgs 10 n = Oct.dgs 10 u ++ (Oct.ch d :: tl)) := Lib.hid (by rw [HD.out, Oct.dgs_more (by decide) (show 10 ≤ v by omega), hd, hu]; simp)
      have HL2 : Hid ((Oct.ch d :: tl).length + u ≤ n ∧ u < v) := Lib.hid (by have := HL.out; simp; omega)
      have hun : u ≤ n := by omega
      clear hd hu HD HL hv16
      generalize hT2 : str (Oct.ch d :: tl) = T2 at *
      generalize str tl = T1 at *
      generalize str [Oct.ch d] = T0 at *
      clear h0
      go_wp2_with fail
      go_roundw
      case rel => exact ⟨u, Oct.ch d :: tl, rfl, by rw [hT2], hun, hB.alloc hB.size _, HD2, Lib.hid HL2.out.1⟩
      case measure => have := HL2.out; simp [intOf]; omega

theorem fcells2 {w : World} {g : Nat} {a b : Value} {t : TypeId} (hh : w.heap[g]? = some (.cells #[a, b] t (0, 0))) : w.cell? ⟨g, 0, none⟩ = some a ∧ w.cell? ⟨g, 1, none⟩ = some b := by
  simp [World.cell?, hh]
theorem two_old (w : World) (A B : Obj) : ((w.alloc A).alloc B).heap[w.heap.size]? = some A := by
  rw [((Below.refl _ (w.alloc A)).alloc (Nat.le_refl _) B).block w.heap.size (lt_of_block (heap_alloc_new w A))]
  exact heap_alloc_new w A
theorem kcc_put (s : List UInt8) : (⟨#[109, 97, 120, 45, 97, 103, 101, 61]⟩ : ByteArray) ++ str s = str (Fr.kEq ++ s) := by
  rw [← str_of ((⟨#[109, 97, 120, 45, 97, 103, 101, 61]⟩ : ByteArray) ++ str s)]; simp [str_list, Fr.kEq]

set_option maxHeartbeats 1600000 in
set_option maxRecDepth 100000 in
theorem aged_w (s : List UInt8) (w : World) (hs : s.length ≤ 2147483647) : Calls Tryd.prog 13 #[.string (str s)] w fun e w' => (∃ fv bv, e = .returned (mv ⟨#[]⟩ ⟨#[]⟩ 200 ⟨#[]⟩ 1 fv bv) ∧ FIn w' fv (Fr.aged s) ∧ Sl bv) ∧ Below w.heap.size w w' := by
  have hst := kcc_put s
  have hz : (str s).size ≤ 2147483647 := by rw [str_size]; omega
  have hz1 : (⟨#[109, 97, 120, 45, 97, 103, 101, 61]⟩ : ByteArray).size = 8 := rfl
  have hsum : ¬ 9223372036854775807 < 8 + (str s).size := by omega
  generalize hT : str (Fr.kEq ++ s) = T at hst
  generalize str s = x at *
  go_enter Tryd.func13, Tryd.ntmps13
  go_wp2_with fail
  (try simp only [Exit.inBlock, Exit.then])
  have hg := two_old w (.cells #[.string ⟨#[]⟩, .string ⟨#[]⟩, .int .i64 200, .string ⟨#[]⟩, .int .i64 1, .slice (some ⟨w.heap.size + 1, 0, none⟩) 1 1, .slice none 0 0] 27) (.cells #[.string ⟨#[67, 97, 99, 104, 101, 45, 67, 111, 110, 116, 114, 111, 108]⟩, .string T] 48)
  have hf := heap_alloc2_new w (.cells #[.string ⟨#[]⟩, .string ⟨#[]⟩, .int .i64 200, .string ⟨#[]⟩, .int .i64 1, .slice (some ⟨w.heap.size + 1, 0, none⟩) 1 1, .slice none 0 0] 27) (.cells #[.string ⟨#[67, 97, 99, 104, 101, 45, 67, 111, 110, 116, 114, 111, 108]⟩, .string T] 48)
  obtain ⟨f0, f1⟩ := fcells2 hf
  refine bodyPost_ret (v := mv ⟨#[]⟩ ⟨#[]⟩ 200 ⟨#[]⟩ 1 (.slice (some ⟨w.heap.size + 1, 0, none⟩) 1 1) (.slice none 0 0)) (results_cell_row rfl _ _ w.heap.size _ _ (0, 0) _ rfl hg Tryd.underlying27 rfl (by kernel_rfl)) rfl ?_
  refine ⟨⟨_, _, rfl, ⟨some ⟨w.heap.size + 1, 0, none⟩, 1, rfl, .inr ⟨w.heap.size + 1, 0, rfl, lt_of_block hf, ?_⟩⟩, ⟨none, 0, 0, rfl⟩⟩, ((Below.refl _ w).alloc (Nat.le_refl _) _).alloc (by simp) _⟩
  intro j hj
  obtain rfl : j = 0 := by simp [Fr.aged] at hj; omega
  exact ⟨f0, f1.trans (by rw [← hT]; rfl)⟩
end Go.Proofs.YtajbeoignhnpjaaDoor
