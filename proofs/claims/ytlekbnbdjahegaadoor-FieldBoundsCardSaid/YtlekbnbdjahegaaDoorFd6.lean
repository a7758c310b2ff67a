/- Package field: a set of names, and what is asked of it. -/
import Derived.Test.YtlekbnbdjahegaaDoorFd5
namespace Go.Proofs.YtlekbnbdjahegaaDoor
open Go.RowKit

/-- Is a name, in small letters, one of these? -/
def inSet (ls : List (List UInt8)) (l : List UInt8) : Bool := (ls.map Oct.lower).contains l
theorem inSet_snoc (ls : List (List UInt8)) (k : Nat) (h : k < ls.length) (l : List UInt8) : inSet (ls.take (k + 1)) l = (l == Oct.lower ls[k] || inSet (ls.take k) l) := by
  unfold inSet
  rw [List.take_succ_eq_append_getElem h, List.map_append, List.contains_eq_any_beq, List.contains_eq_any_beq, List.any_append]
  simp [Bool.or_comm]
theorem inSet_zero (ls : List (List UInt8)) : inSet (ls.take 0) = fun _ => false := rfl
/-- The map's variable lies in block g, the map in block b. -/
structure NamesAt (W w : World) (b g n : Nat) (mem : List UInt8 → Bool) : Prop where
  var : w.heap[g]? = some (.cells #[.map (some b)] 62 (0, 0))
  set : SetIs w b n mem
  ne : g ≠ b
  bb : W.heap.size ≤ b
  bg : W.heap.size ≤ g
  below : Below W.heap.size W w
theorem NamesAt.later {W w w' : World} {b g n : Nat} {mem : List UInt8 → Bool} (h : NamesAt W w b g n mem) (hb : Below w.heap.size w w') : NamesAt W w' b g n mem :=
  ⟨(hb.block _ (lt_of_block h.var)).trans h.var, h.set.later (hb.block _ h.set.lt), h.ne, h.bb, h.bg, h.below.trans (hb.mono h.below.size)⟩
theorem NamesAt.turned {W w w' : World} {b g n m : Nat} {mem mem' : List UInt8 → Bool} (h : NamesAt W w b g n mem) (ht : w.mapTurned w' b) (hs : SetIs w' b m mem') : NamesAt W w' b g m mem' := by
  have hg := ht.grown
  exact ⟨(hg.block _ (lt_of_block h.var) (by simpa using h.ne)).trans h.var, hs, h.ne, h.bb, h.bg, h.below.grown hg h.below.size (fun k hk => by cases hk; exact h.bb)⟩
theorem NamesAt.start (W : World) : NamesAt W ((W.alloc (.map #[] 0)).alloc (.cells #[.map (some W.heap.size)] 62)) W.heap.size (W.heap.size + 1) 0 (fun _ => false) := by
  refine ⟨?_, (SetIs.made W).later ?_, by omega, Nat.le_refl _, Nat.le_succ _, ((Below.refl _ W).alloc (Nat.le_refl _) _).alloc (by simp) _⟩
  · have := heap_alloc_new (W.alloc (.map #[] 0)) (.cells #[.map (some W.heap.size)] 62)
    simpa using this
  · exact Below.heap_alloc _ _ _ (by simp)
theorem NamesAt.cell {W w : World} {b g n : Nat} {mem : List UInt8 → Bool} (h : NamesAt W w b g n mem) : w.cell? ⟨g, 0, none⟩ = some (.map (some b)) := by
  simp only [World.cell?, h.var]; rfl

theorem SIn.at_ {w : World} {v : Value} {ls : List (List UInt8)} (h : SIn w v ls) (hne : ls ≠ []) : ∃ b o cap, v = .slice (some ⟨b, o, none⟩) ls.length cap ∧ ∀ w', Below w.heap.size w w' → ∀ j (hj : j < ls.length), w'.cell? ⟨b, o + j, none⟩ = some (.string (str ls[j])) := by
  obtain ⟨ao, cap, rfl, h⟩ := h
  obtain ⟨b, o, rfl, h1, h2⟩ := h.resolve_left hne
  exact ⟨b, o, cap, rfl, fun w' hb j hj => (hb.cell (p := ⟨b, o + j, none⟩) h1).trans (h2 j hj)⟩
theorem lower_size (l : List UInt8) : (str (Oct.lower l)).size = l.length := by rw [str_size, Oct.lower_length]

set_option maxHeartbeats 1600000 in
set_option maxRecDepth 100000 in
theorem among_w (va : Value) (ls : List (List UInt8)) (w : World) (ha : SIn w va ls) (hl : ls.length ≤ 1000000) (hs : ∀ l ∈ ls, l.length ≤ 9223372036854775807) :
    Calls Tryd.prog 31 #[va] w fun e w' => ∃ b g, e = .returned (.func (.func 45) #[] #[.pointer (some ⟨g, 0, none⟩)]) ∧ NamesAt w w' b g ls.length (inSet ls) := by
  have hmm := @run_makeMap Tryd.prog
  have hmf : ∀ (fn : Fn) (first cap : Array Value) (w : World), (Instr.makeFunc fn first cap).run Tryd.prog w = .ok (.func fn first cap) w := fun _ _ _ _ => rfl
  have hst := NamesAt.start w
  by_cases h0 : ls = []
  · obtain ⟨ao, cap, rfl, _⟩ := ha
    have HL := Lib.hid h0
    have e0 : ls.length = 0 := by rw [h0]; rfl
    rw [e0]
    clear h0 hs hl e0
    go_enter Tryd.func31, Tryd.ntmps31
    go_wp2_with fail
    refine wp_loop_rounds 1 ?_
    rw [rounds_succ]
    go_wp2_with fail
    go_ret
    exact ⟨_, _, rfl, by rw [HL.out]; exact hst⟩
  obtain ⟨b, o, cap, rfl, hc⟩ := ha.at_ h0
  obtain ⟨n, hn⟩ : ∃ n, n = ls.length := ⟨_, rfl⟩
  have HN := Lib.hid hn
  have HC : Hid (∀ w', Below w.heap.size w w' → ∀ j (hj : j < ls.length), w'.cell? ⟨b, o + j, none⟩ = some (.string (str ls[j]))) := hc
  have HS := Lib.hid hs
  rw [← hn] at hl ⊢
  clear ha h0 hc hs hn
  go_enter Tryd.func31, Tryd.ntmps31
  go_wp2_with fail
  go_loopw [5, 9] (fun _ i wr => ∃ k : Nat, k ≤ n ∧ i = .int .i64 k ∧ NamesAt w wr w.heap.size (w.heap.size + 1) k (inSet (ls.take k))) (fun _ i _ => n - (intOf i).toNat)
  case atStart => exact ⟨0, by omega, rfl, by rw [inSet_zero]; exact hst⟩
  case round =>
    obtain ⟨k, hk, rfl, hN⟩ := hrel
    clear hst
    by_cases hlt : k < n
    · have ka : k < ls.length := by have := HN.out; omega
      have c1 := HC.out wr hN.below k ka
      have z : (str ls[k]).size ≤ 9223372036854775807 := by rw [str_size]; exact HS.out _ (List.getElem_mem ka)
      have cL := fun w => Lower_big (str ls[k]) w z
      rw [str_list] at cL
      have z2 : (str (Oct.lower ls[k])).size ≤ 9223372036854775807 := by rw [lower_size]; exact HS.out _ (List.getElem_mem ka)
      have HM : Hid (∀ l, inSet (ls.take (k + 1)) l = (l == (str (Oct.lower ls[k])).data.toList || inSet (ls.take k) l)) := fun l => by rw [str_list]; exact inSet_snoc ls k ka l
      generalize str ls[k] = x at c1 cL
      generalize str (Oct.lower ls[k]) = y at cL z2 HM
      obtain ⟨mem, hmem⟩ : ∃ mem, mem = inSet (ls.take k) := ⟨_, rfl⟩
      rw [← hmem] at hN HM
      have hv := hN.cell
      clear z hmem
      go_wp2_with fail
      go_region_with (go_at_call 33; refine (cL _).mono ?_; rintro e w1 ⟨rfl, hb1⟩; have hN1 := hN.later (undrew hb1); have hv1 := hN1.cell; obtain ⟨w2, hr, hset, htn⟩ := hN1.set.store (by omega) y z2)
      all_goals
        go_wp2_with fail
        go_roundw
        case rel => exact ⟨k + 1, by omega, by go_num, by rw [show inSet (ls.take (k + 1)) = _ from funext HM.out]; exact hN1.turned htn hset⟩
        case measure => simp [intOf]; omega
    · have hE := Fld.take_whole ls k (by have := HN.out; omega)
      obtain rfl : k = n := by omega
      rw [hE] at hN
      clear hE
      go_wp2_with fail
      go_ret
      exact ⟨_, _, rfl, hN⟩

set_option maxHeartbeats 1600000 in
set_option maxRecDepth 100000 in
theorem among1_c (W : World) (f : Fld.F) (b g n : Nat) (mem : List UInt8 → Bool) (w : World) (hN : NamesAt W w b g n mem) (h0 : f.1.length ≤ 1000000) :
    Calls Tryd.prog 45 #[fval f, .pointer (some ⟨g, 0, none⟩)] w fun e w' => e = .returned (.bool (mem (Oct.lower f.1))) ∧ Below w.heap.size w w' := by
  obtain ⟨nm, v⟩ := f
  have h0' : nm.length ≤ 1000000 := h0
  have z : (str nm).size ≤ 9223372036854775807 := by rw [str_size]; omega
  have cL := fun w => Lower_big (str nm) w z
  rw [str_list] at cL
  have z2 : (str (Oct.lower nm)).size ≤ 9223372036854775807 := by rw [lower_size]; omega
  have HM : Hid (mem (Oct.lower nm) = mem (str (Oct.lower nm)).data.toList) := by rw [str_list]; exact Lib.hid rfl
  have hv := hN.cell
  have hn1 := hN.later ((Below.refl _ w).alloc (Nat.le_refl _) (.cells #[.string (str nm), .string (str v)] 49))
  have hv1 := hn1.cell
  have hv1' := fun o => (hn1.later ((Below.refl _ (w.alloc (.cells #[.string (str nm), .string (str v)] 49))).alloc (Nat.le_refl _) o)).cell
  unfold fval
  generalize str nm = x at *
  generalize str v = x' at *
  generalize str (Oct.lower nm) = y at *
  have hb0 : Below w.heap.size w (w.alloc (.cells #[.string x, .string x'] 49)) := (Below.refl _ w).alloc (Nat.le_refl _) _
  have hal : ∀ w1 w2 : World, Below w1.heap.size w1 w2 → ∀ o, Below w1.heap.size w1 (w2.alloc o) := fun w1 w2 h o => h.alloc h.size o
  clear z h0 h0'
  go_enter Tryd.func45, Tryd.ntmps45
  go_wp2_with fail
  go_region_with (go_at_call 33; refine (cL _).mono ?_; rintro e w1 ⟨rfl, hb1⟩; have hb2 : Below (w.alloc (.cells #[.string x, .string x'] 49)).heap.size (w.alloc (.cells #[.string x, .string x'] 49)) w1 := (by first | exact undrew hb1 | exact ((Below.refl _ (w.alloc (.cells #[.string x, .string x'] 49))).alloc (Nat.le_refl _) _).trans ((undrew hb1).mono (by simp))); have hN2 := hn1.later hb2; have hv2 := hN2.cell; have hlk := hN2.set.look y z2; have hN3 := fun o => hn1.later (hal _ _ hb2 o); have hv3 := fun o => (hN3 o).cell; have hlk3 := fun o => (hN3 o).set.look y z2)
  all_goals
    go_wp2_with fail
    go_ret
    exact ⟨ret_bool HM.out.symm, by first | exact hb0.trans (hb2.mono hb0.size) | exact hb0.trans ((hal _ _ hb2 _).mono hb0.size)⟩

end Go.Proofs.YtlekbnbdjahegaaDoor
