/- Package field: names in small letters, however long; a field, cloned; a set of names. -/
import Derived.Test.YtlekbnbdjahegaaDoorFd4
import Derived.Maps.OwnSet
import Derived.Maps.AppendAt
import Derived.StringKeys
namespace Go.Proofs.YtlekbnbdjahegaaDoor
open Go.RowKit

set_option maxHeartbeats 800000 in
set_option maxRecDepth 100000 in
theorem Lower_big (s : ByteArray) (w : World) (hs : s.size ≤ 9223372036854775807) :
    Calls Tryd.prog 33 #[.string s] w fun e w' => e = .returned (.string (str (Oct.lower s.data.toList))) ∧ Below w.heap.size w w' := by
  have hcv := run_bytes_of_string (P := Tryd.prog) w 9 22 5 s Tryd.underlying9 Tryd.underlying22 Tryd.underlying5
  have hR := Row.copy w s (grownCap w s.size 0 5)
  have hb1 : Below w.heap.size w ((w.drew.alloc (.cells (bytesRow s (grownCap w s.size 0 5)) 5 ((bytesRow s (grownCap w s.size 0 5)).size, (bytesRow s (grownCap w s.size 0 5)).size + 1)))) := (Below.refl _ w).drew.alloc (Nat.le_refl _) _
  generalize grownCap w s.size 0 5 = cap at hcv hR hb1
  generalize ((w.drew.alloc (.cells (bytesRow s cap) 5 ((bytesRow s cap).size, (bytesRow s cap).size + 1)))) = W1 at hcv hR hb1
  go_enter Tryd.func33, Tryd.ntmps33
  go_wp2_with fail
  clear hcv
  go_loopw [4, 9] (fun _ i wr => ∃ k : Nat, k ≤ s.size ∧ i = .int .i64 k ∧ Row wr w.heap.size (Oct.lowTo s.data.toList k) ∧ Below w.heap.size w wr) (fun _ i _ => s.size - (intOf i).toNat)
  case atStart => exact ⟨0, by omega, rfl, by rw [Oct.lowTo_zero]; exact hR, hb1⟩
  case round =>
    obtain ⟨k, hk, rfl, hR', hb⟩ := hrel
    clear hR hb1
    by_cases hlt : k < s.size
    · have hkl : k < (Oct.lowTo s.data.toList k).length := by rw [Oct.lowTo_length, Oct.length_size]; exact hlt
      obtain ⟨hcell, hfz⟩ := hR'.cell k hkl
      rw [Oct.lowTo_at s k hlt] at hcell
      have HN := Lib.hid (Oct.lowTo_next s k hlt)
      have hc := (s[k]).toNat_lt
      rcases (show (s[k].toNat : Int) < 65 ∨ ((65 : Int) ≤ s[k].toNat ∧ (s[k].toNat : Int) ≤ 90) ∨ (90 : Int) < s[k].toNat by omega) with hu | ⟨h1, h2⟩ | hu
      · have HL := Lib.hid (Oct.lowTo_same s k hlt (by omega))
        go_wp2_with fail
        go_roundw
        case rel => exact ⟨k + 1, by omega, by go_num, by rw [HL.out]; exact hR', hb⟩
        case measure => simp [intOf]; omega
      · have HS := hR'.set k hkl (Oct.low s[k]) _ (Oct.low_yes s[k] h1 h2)
        go_wp2_with fail
        go_roundw
        case rel => exact ⟨k + 1, by omega, by go_num, by rw [HN.out]; exact HS, hb.setCell (Nat.le_refl _) _⟩
        case measure => simp [intOf]; omega
      · have HL := Lib.hid (Oct.lowTo_same s k hlt (by omega))
        go_wp2_with fail
        go_roundw
        case rel => exact ⟨k + 1, by omega, by go_num, by rw [HL.out]; exact hR', hb⟩
        case measure => simp [intOf]; omega
    · obtain rfl : k = s.size := by omega
      have hsz : (Oct.lowTo s.data.toList s.size).length = s.size := by rw [Oct.lowTo_length, Oct.length_size]
      have hcv := run_convert_bytes_back (P := Tryd.prog) wr 22 9 5 ⟨w.heap.size, 0, none⟩ cap (Oct.lowTo s.data.toList s.size) Tryd.underlying22 Tryd.underlying5 Tryd.underlying9 (fun j hj => by
        rw [Addr.add_lit, Nat.zero_add]; exact (hR'.cell j hj).1)
      rw [hsz] at hcv
      clear hsz
      go_wp2_with fail
      go_ret
      exact ⟨ret_str (by rw [Oct.lowTo_all]; rfl), hb⟩


theorem undrew {w w1 : World} (h : Below w.drew.heap.size w.drew w1) : Below w.heap.size w w1 := (Below.refl _ w).drew.trans h

/-- A field's block and a second one, behind a call. -/
theorem fcell2 {w w1 : World} {x y : ByteArray} {o : Obj} (hb : Below ((w.alloc (.cells #[.string x, .string y] 49)).alloc o).heap.size ((w.alloc (.cells #[.string x, .string y] 49)).alloc o) w1) :
    w1.cell? ⟨w.heap.size, 0, none⟩ = some (.string x) ∧ w1.cell? ⟨w.heap.size, 1, none⟩ = some (.string y) ∧ w1.heap[w.heap.size + 1]? = some o ∧ Below w.heap.size w w1 := by
  have hl : w.heap.size < ((w.alloc (.cells #[.string x, .string y] 49)).alloc o).heap.size := by simp; omega
  have hl2 : w.heap.size + 1 < ((w.alloc (.cells #[.string x, .string y] 49)).alloc o).heap.size := by simp
  have hl1 : w.heap.size < (w.alloc (.cells #[.string x, .string y] 49)).heap.size := by simp
  refine ⟨?_, ?_, ?_, (((Below.refl _ w).alloc (Nat.le_refl _) _).alloc (by simp) _).trans (hb.mono (by simp; omega))⟩
  · rw [hb.cell (p := ⟨w.heap.size, 0, none⟩) hl, World.cell?_alloc_lt _ _ _ hl1, World.cell?_alloc_at _ _ _ _ rfl]; rfl
  · rw [hb.cell (p := ⟨w.heap.size, 1, none⟩) hl, World.cell?_alloc_lt _ _ _ hl1, World.cell?_alloc_at _ _ _ _ rfl]; rfl
  · rw [hb.block _ hl2]
    have := heap_alloc_new (w.alloc (.cells #[.string x, .string y] 49)) o
    simpa using this

/-- A block of two cells. -/
theorem blk2 {w : World} {g : Nat} {a b : Value} {t : TypeId} (h : w.heap[g]? = some (.cells #[a, b] t (0, 0))) :
    w.cell? ⟨g, 0, none⟩ = some a ∧ w.cell? ⟨g, 1, none⟩ = some b ∧ w.frozen? ⟨g, 0, none⟩ = false ∧ w.frozen? ⟨g, 1, none⟩ = false := by
  refine ⟨?_, ?_, ?_, ?_⟩
  · simp only [World.cell?, h]; rfl
  · simp only [World.cell?, h]; rfl
  · simp only [World.frozen?, h]; rfl
  · simp only [World.frozen?, h]; rfl

theorem set2 {w : World} {g : Nat} {a b : Value} {t : TypeId} (h : w.heap[g]? = some (.cells #[a, b] t (0, 0))) (x y : Value) :
    ((w.setCell ⟨g, 0, none⟩ x).setCell ⟨g, 1, none⟩ y).heap[g]? = some (.cells #[x, y] t (0, 0)) := by
  simp [World.setCell, Array.getElem?_modify, h]

set_option maxHeartbeats 1600000 in
set_option maxRecDepth 100000 in
theorem clone_s (f : Fld.F) (w : World) (h0 : f.1.length ≤ 1000000) (h1 : f.2.length ≤ 1000000) :
    Calls Tryd.prog 32 #[fval f] w fun e w' => e = .returned (fval f) ∧ Below w.heap.size w w' := by
  obtain ⟨n, v⟩ := f
  have z0 : (str n).size ≤ 1000000 := by rw [str_size]; exact h0
  have z1 : (str v).size ≤ 1000000 := by rw [str_size]; exact h1
  have c0 := fun w => Clone_s (str n) w z0
  have c1 := fun w => Clone_s (str v) w z1
  unfold fval
  generalize str n = x at *
  generalize str v = y at *
  clear h0 h1 z0 z1
  go_enter Tryd.func32, Tryd.ntmps32
  go_wp2_with fail
  go_region_with (first | (go_at_call 36; refine (c0 _).mono ?_; rintro e w1 ⟨rfl, hb1⟩; obtain ⟨e0, e1, e2, hb3⟩ := fcell2 (undrew hb1)) | (go_at_call 36; refine (c1 _).mono ?_; rintro e w2 ⟨rfl, hb2⟩; have g2 := (hb2.block _ (lt_of_block e2)).trans e2; obtain ⟨k0, k1, k2, k3⟩ := blk2 g2))
  all_goals go_wp2_with fail
  all_goals (try simp only [Exit.inBlock, Exit.then])
  all_goals refine bodyPost_ret (v := .agg #[.string x, .string y]) (results_cell_row rfl _ _ (w.heap.size + 1) _ _ (0, 0) _ rfl (set2 g2 _ _) Tryd.underlying49 rfl (by kernel_rfl)) rfl ?_
  all_goals exact ⟨rfl, ((hb3.trans (hb2.mono hb3.size)).setCell (Nat.le_succ _) _).setCell (Nat.le_succ _) _⟩

/-! ### sets of names, and numbers by name -/
def SetIs (w : World) (b n : Nat) (mem : List UInt8 → Bool) : Prop := ∃ D : DataW Unit, w.ownsMap Tryd.prog 9 unitElem b n D ∧ ∀ l, Maps.has D (.string l) = mem l
theorem strKeyed : Maps.Keyed Tryd.prog 9 := Maps.string_keyed Tryd.underlying9
theorem zeroUnit (w : World) : (zeroValue 64).run Tryd.prog w = .ok (.agg #[]) w := by kernel_rfl
theorem zeroInt (w : World) : (zeroValue 3).run Tryd.prog w = .ok (.int .i64 0) w := by kernel_rfl
theorem SetIs.later {w w' : World} {b n : Nat} {mem : List UInt8 → Bool} (h : SetIs w b n mem) (hb : w'.heap[b]? = w.heap[b]?) : SetIs w' b n mem := by
  obtain ⟨D, ⟨es, clock, h1, h2⟩, h3⟩ := h
  exact ⟨D, ⟨es, clock, hb.trans h1, h2⟩, h3⟩
theorem SetIs.lt {w : World} {b n : Nat} {mem : List UInt8 → Bool} (h : SetIs w b n mem) : b < w.heap.size := by
  obtain ⟨D, h, _⟩ := h; exact h.lt
theorem SetIs.made (w : World) : SetIs (w.alloc (.map #[] 0)) w.heap.size 0 (fun _ => false) := ⟨_, World.ownsMap_made w _ _ _, fun _ => rfl⟩
theorem litKey (l : List UInt8) : WideAt.IsKeyLit (.string l) := trivial
theorem SetIs.store {w : World} {b n : Nat} {mem : List UInt8 → Bool} (h : SetIs w b n mem) (hn : n ≤ 1000000000) (s : ByteArray) (hs : s.size ≤ 9223372036854775807) :
    ∃ w', (Instr.mapUpdate 62 (.map (some b)) (.string s) (.agg #[])).run Tryd.prog w = .ok () w' ∧ SetIs w' b (n + 1) (fun l => l == s.data.toList || mem l) ∧ w.mapTurned w' b := by
  obtain ⟨D, h1, h2⟩ := h
  obtain ⟨w', hr, h3, h4⟩ := h1.store strKeyed Tryd.underlying62 (by unfold maxLen; omega) (WideMaps.keyOf_string_mk Tryd.underlying9 (s := s) (by unfold maxLen; omega)) (unitElem_mk (H := Unit))
  refine ⟨w', hr, ⟨_, h3, fun l => ?_⟩, h4⟩
  by_cases e : l = s.data.toList
  · subst e
    rw [Maps.has_put_same h1.isMap (litKey _)]; simp
  · rw [Maps.has_put_other (by simpa using e), h2]; simp [e]
theorem SetIs.look {w : World} {b n : Nat} {mem : List UInt8 → Bool} (h : SetIs w b n mem) (s : ByteArray) (hs : s.size ≤ 9223372036854775807) :
    (Instr.lookup 62 (.map (some b)) (.string s) true).run Tryd.prog w = .ok (.tuple #[.agg #[], .bool (mem s.data.toList)]) w := by
  obtain ⟨D, h1, h2⟩ := h
  obtain ⟨v, ps, hr, hv⟩ := h1.look_ok strKeyed Tryd.underlying62 (zeroUnit w) (unitElem_mk (H := Unit)) (WideMaps.keyOf_string_mk Tryd.underlying9 (s := s) (by unfold maxLen; omega))
  rw [hr, (unitElem_inv hv).1, h2]

def MapIs (w : World) (b n : Nat) (look : List UInt8 → Option Int) : Prop := ∃ D : DataW Unit, w.ownsMap Tryd.prog 9 (plainElem Tryd.prog 3) b n D ∧ ∀ l, Maps.has D (.string l) = (look l).isSome ∧ ∀ i, look l = some i → ∀ z, D.atKey (.string l) z = .lit (.int .i64 i)
theorem MapIs.later {w w' : World} {b n : Nat} {mem : List UInt8 → Option Int} (h : MapIs w b n mem) (hb : w'.heap[b]? = w.heap[b]?) : MapIs w' b n mem := by
  obtain ⟨D, ⟨es, clock, h1, h2⟩, h3⟩ := h
  exact ⟨D, ⟨es, clock, hb.trans h1, h2⟩, h3⟩
theorem MapIs.lt {w : World} {b n : Nat} {mem : List UInt8 → Option Int} (h : MapIs w b n mem) : b < w.heap.size := by
  obtain ⟨D, h, _⟩ := h; exact h.lt
theorem MapIs.made (w : World) : MapIs (w.alloc (.map #[] 0)) w.heap.size 0 (fun _ => none) := ⟨_, World.ownsMap_made w _ _ _, fun _ => ⟨rfl, fun _ h => by cases h⟩⟩
theorem MapIs.store {w : World} {b n : Nat} {look : List UInt8 → Option Int} (h : MapIs w b n look) (hn : n ≤ 1000000000) (s : ByteArray) (hs : s.size ≤ 9223372036854775807) (i : Int) (hi : (Lit.int .i64 i).wf = true) :
    ∃ w', (Instr.mapUpdate 61 (.map (some b)) (.string s) (.int .i64 i)).run Tryd.prog w = .ok () w' ∧ MapIs w' b (n + 1) (fun l => if l = s.data.toList then some i else look l) ∧ w.mapTurned w' b := by
  obtain ⟨D, h1, h2⟩ := h
  obtain ⟨w', hr, h3, h4⟩ := h1.store strKeyed Tryd.underlying61 (by unfold maxLen; omega) (WideMaps.keyOf_string_mk Tryd.underlying9 (s := s) (by unfold maxLen; omega)) (plainElem_int (H := Unit) Tryd.underlying3 hi)
  refine ⟨w', hr, ⟨_, h3, fun l => ?_⟩, h4⟩
  by_cases e : l = s.data.toList
  · subst e
    simp only [if_true]
    refine ⟨Maps.has_put_same h1.isMap (litKey _) _, fun j hj z => ?_⟩
    cases hj
    exact Maps.atKey_put_same h1.isMap (litKey _) _ _
  · simp only [if_neg e]
    refine ⟨by rw [Maps.has_put_other (by simpa using e)]; exact (h2 l).1, fun j hj z => ?_⟩
    rw [Maps.atKey_put_other (by simpa using e)]
    exact (h2 l).2 j hj z
theorem MapIs.look {w : World} {b n : Nat} {look : List UInt8 → Option Int} (h : MapIs w b n look) (s : ByteArray) (hs : s.size ≤ 9223372036854775807) :
    ∃ c : Int, (Instr.lookup 61 (.map (some b)) (.string s) true).run Tryd.prog w = .ok (.tuple #[.int .i64 c, .bool (look s.data.toList).isSome]) w ∧ ∀ i, look s.data.toList = some i → c = i := by
  obtain ⟨D, h1, h2⟩ := h
  obtain ⟨v, ps, hr, hv⟩ := h1.look_ok strKeyed Tryd.underlying61 (zeroInt w) (plainElem_int (H := Unit) Tryd.underlying3 (by decide)) (WideMaps.keyOf_string_mk Tryd.underlying9 (s := s) (by unfold maxLen; omega))
  obtain ⟨c, rfl, hc, _⟩ := plainElem_int_inv Tryd.underlying3 hv
  refine ⟨c, by rw [hr, (h2 _).1], fun i hi => ?_⟩
  rw [(h2 _).2 i hi] at hc
  simp at hc
  exact hc.1.symm

end Go.Proofs.YtlekbnbdjahegaaDoor
