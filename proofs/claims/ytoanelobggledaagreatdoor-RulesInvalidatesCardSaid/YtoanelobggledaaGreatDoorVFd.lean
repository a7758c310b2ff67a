/- What lies below, out of the texts of the layers under this one: Fd1, Fd10, Fd2, Fd3, Fd4, Fd5, Fd6, Fd7, Fd8, Fd9, FdMath, FdMathB, FdMathC, FdMathD, FdMathE, FdMathG. -/
import Derived.Test.YtoanelobggledaaGreatDoorVOctBase
import Derived.Deep.LoopGhost
import Derived.Deep.RegionWith
import Derived.Laws.AppendOwnNone
import Derived.Lib.AppendStr
import Derived.Lib.AppendZerosOnto
import Derived.Maps.AppendAt
import Derived.Maps.OwnSet
import Derived.StillTailTactics
import Derived.StringKeys
namespace Go.Proofs.YtoanelobggledaaGreatDoor
open Go.RowKit

def fval (f : Fld.F) : Value := .agg #[.string (str f.1), .string (str f.2)]
def FIn (w : World) (v : Value) (fs : List Fld.F) : Prop := ∃ ao cap, v = .slice ao fs.length cap ∧ (fs = [] ∨ ∃ b o, ao = some ⟨b, o, none⟩ ∧ b < w.heap.size ∧ ∀ j (hj : j < fs.length), w.cell? ⟨b, o + j * 2, none⟩ = some (.string (str fs[j].1)) ∧ w.cell? ⟨b, o + j * 2 + 1, none⟩ = some (.string (str fs[j].2)))
theorem FIn.later {w w' : World} {v : Value} {fs : List Fld.F} (h : FIn w v fs) (hb : Below w.heap.size w w') : FIn w' v fs := by
  obtain ⟨ao, cap, hv, h⟩ := h
  refine ⟨ao, cap, hv, ?_⟩
  rcases h with h | ⟨b, o, h1, h2, h3⟩
  · exact .inl h
  · exact .inr ⟨b, o, h1, Nat.lt_of_lt_of_le h2 hb.size, fun j hj => ⟨by rw [hb.cell (p := ⟨b, o + j * 2, none⟩) h2]; exact (h3 j hj).1, by rw [hb.cell (p := ⟨b, o + j * 2 + 1, none⟩) h2]; exact (h3 j hj).2⟩⟩
theorem FIn.nil {w : World} (cap : Nat) (a : Option Addr) : FIn w (.slice a 0 cap) [] := ⟨a, cap, rfl, .inl rfl⟩
theorem row_after {w w' : World} {base e s n : Nat} {v : Value} {xs : List Value} (h : w.ownsRow base e s v n xs) (hb : ∀ (g : Nat) (cur : Array Value), w.heap[g]? = some (Obj.cells cur e (0, 0)) → w'.heap[g]? = some (Obj.cells cur e (0, 0))) : w'.ownsRow base e s v n xs := by
  refine ⟨h.1, ?_⟩
  rcases h.2 with h0 | ⟨g, cap, cur, hv, hg, hh, rest⟩
  · exact .inl h0
  · exact .inr ⟨g, cap, cur, hv, hg, hb g cur hh, rest⟩
theorem row_below {w w' : World} {base e s n : Nat} {v : Value} {xs : List Value} (h : w.ownsRow base e s v n xs) (hb : Below w.heap.size w w') : w'.ownsRow base e s v n xs :=
  row_after h (fun g cur hg => by rw [hb.block g (lt_of_block hg)]; exact hg)
end Go.Proofs.YtoanelobggledaaGreatDoor

namespace Go.Proofs.YtoanelobggledaaGreatDoor
open Go.RowKit

theorem bdrewN (w : World) (n : Nat) : Below w.heap.size w (w.drewN n) := ⟨rfl, rfl, rfl, Nat.le_refl _, fun _ _ => rfl⟩
end Go.Proofs.YtoanelobggledaaGreatDoor

namespace Go.Proofs.YtoanelobggledaaGreatDoor
open Go.RowKit

def Small (fs : List Fld.F) : Prop := fs.length ≤ 1000000 ∧ ∀ f ∈ fs, f.1.length ≤ 1000000 ∧ f.2.length ≤ 1000000
theorem Small.at_ {fs : List Fld.F} (h : Small fs) (k : Nat) (hk : k < fs.length) : fs[k].1.length ≤ 1000000 ∧ fs[k].2.length ≤ 1000000 := h.2 _ (List.getElem_mem hk)
theorem Small.size {fs : List Fld.F} (h : Small fs) (k : Nat) : Fld.size (fs.take k) ≤ 2 + 2000004 * k := by
  induction k with
  | zero => exact Nat.le_refl 2
  | succ k ih =>
    by_cases hk : k < fs.length
    · rw [Fld.size_snoc fs k hk]
      have := h.at_ k hk
      unfold Fld.weight; omega
    · rw [List.take_of_length_le (by omega)]; rw [List.take_of_length_le (by omega)] at ih; omega
def Cells (w : World) (b o n : Nat) (xs : List Fld.F) : Prop := ∃ hn : n = xs.length, b < w.heap.size ∧ ∀ j (hj : j < n), w.cell? ⟨b, o + j * 2, none⟩ = some (.string (str (xs[j]'(hn ▸ hj)).1)) ∧ w.cell? ⟨b, o + j * 2 + 1, none⟩ = some (.string (str (xs[j]'(hn ▸ hj)).2))
theorem Cells.at_ {w w' : World} {b o n : Nat} {xs : List Fld.F} (h : Cells w b o n xs) (hb : Below w.heap.size w w') (k : Nat) (hk : k < n) (hx : k < xs.length) :
    w'.cell? ⟨b, o + k * 2, none⟩ = some (.string (str xs[k].1)) ∧ w'.cell? ⟨b, o + k * 2 + 1, none⟩ = some (.string (str xs[k].2)) := by
  obtain ⟨hn, hl, h⟩ := h
  exact ⟨(hb.cell (p := ⟨b, o + k * 2, none⟩) hl).trans (h k hk).1, (hb.cell (p := ⟨b, o + k * 2 + 1, none⟩) hl).trans (h k hk).2⟩
theorem Cells.of {w : World} {ao : Option Addr} {xs : List Fld.F} {n : Nat} (hn : n = xs.length) (h0 : n ≠ 0)
    (h : xs = [] ∨ ∃ b o, ao = some ⟨b, o, none⟩ ∧ b < w.heap.size ∧ ∀ j (hj : j < xs.length), w.cell? ⟨b, o + j * 2, none⟩ = some (.string (str xs[j].1)) ∧ w.cell? ⟨b, o + j * 2 + 1, none⟩ = some (.string (str xs[j].2))) :
    ∃ b o, ao = some ⟨b, o, none⟩ ∧ Cells w b o n xs := by
  obtain ⟨b, o, h1, h2, h3⟩ := h.resolve_left (fun e => h0 (by rw [hn, e]; rfl))
  subst hn
  exact ⟨b, o, h1, rfl, h2, h3⟩
theorem fcell {w w1 : World} {x y : ByteArray} (hb : Below (w.alloc (.cells #[.string x, .string y] 53)).heap.size (w.alloc (.cells #[.string x, .string y] 53)) w1) :
    w1.cell? ⟨w.heap.size, 0, none⟩ = some (.string x) ∧ w1.cell? ⟨w.heap.size, 1, none⟩ = some (.string y) ∧ Below w.heap.size w w1 := by
  have hl : w.heap.size < (w.alloc (.cells #[.string x, .string y] 53)).heap.size := by simp
  refine ⟨?_, ?_, ((Below.refl _ w).alloc (Nat.le_refl _) _).trans (hb.mono (by simp))⟩
  · rw [hb.cell (p := ⟨w.heap.size, 0, none⟩) hl, World.cell?_alloc_at _ _ _ _ rfl]; rfl
  · rw [hb.cell (p := ⟨w.heap.size, 1, none⟩) hl, World.cell?_alloc_at _ _ _ _ rfl]; rfl
end Go.Proofs.YtoanelobggledaaGreatDoor

namespace Go.Proofs.YtoanelobggledaaGreatDoor
open Go.RowKit

theorem appStr {ops : Array Oper} {rest : List Oper} {o : Oper} {a : Act} {Q : Exit → Act → World → Prop} {W w : World} {v : Value} {l : List UInt8} (h : Buf W w v l) (s : ByteArray) (hlen : l.length + s.size ≤ 100000000000)
    (hgd : o.guard = none) (sl x : Operand) (ho : o.op = .call { callee := .builtin .append, args := #[sl, x], argTypes := #[25, 9] })
    (hs : a.eval sl = v) (hx : a.eval x = .string s)
    (hK : ∀ v' w', Buf W w' v' (l ++ s.data.toList) → wpList Tryz.prog ops Q rest (a.put o.dst v') w') : wpList Tryz.prog ops Q (o :: rest) a w := by
  obtain ⟨i0, hi, hz0, hz1, hz2⟩ := info_parts bytes_info
  refine Lib.wpList_append_own_string _ hgd sl x _ _ ho W.heap.size 5 i0 Tryz.underlying25 Tryz.underlying9 hi hz0 hz1 hz2 v l.length (Lib.byteCells l) hs h.1 s hx (by unfold maxLen; omega) (by omega) h.2.size (fun v' w' h1 h2 _ => ?_)
  refine hK v' w' ⟨?_, h.2.grown h2 h.2.size (fun k hk => (h.1.lt k hk).1)⟩
  have e : Lib.byteCells (l ++ s.data.toList) = Lib.byteCells l ++ Lib.strCells s := by simp [Lib.byteCells, Lib.strCells]
  rw [e, List.length_append, Oct.length_size]
  exact h1
end Go.Proofs.YtoanelobggledaaGreatDoor

namespace Go.Proofs.YtoanelobggledaaGreatDoor
open Go.RowKit

set_option maxHeartbeats 800000 in
set_option maxRecDepth 100000 in
theorem Lower_big (s : ByteArray) (w : World) (hs : s.size ≤ 9223372036854775807) :
    Calls Tryz.prog 101 #[.string s] w fun e w' => e = .returned (.string (str (Oct.lower s.data.toList))) ∧ Below w.heap.size w w' := by
  have hcv := run_bytes_of_string (P := Tryz.prog) w 9 25 5 s Tryz.underlying9 Tryz.underlying25 Tryz.underlying5
  have hR := Row.copy w s (grownCap w s.size 0 5)
  have hb1 : Below w.heap.size w ((w.drew.alloc (.cells (bytesRow s (grownCap w s.size 0 5)) 5 ((bytesRow s (grownCap w s.size 0 5)).size, (bytesRow s (grownCap w s.size 0 5)).size + 1)))) := (Below.refl _ w).drew.alloc (Nat.le_refl _) _
  generalize grownCap w s.size 0 5 = cap at hcv hR hb1
  generalize ((w.drew.alloc (.cells (bytesRow s cap) 5 ((bytesRow s cap).size, (bytesRow s cap).size + 1)))) = W1 at hcv hR hb1
  go_enter Tryz.func101, Tryz.ntmps101
  go_wp2_with fail
  clear hcv
  go_loopw [4, 9] (fun _ i wr => ∃ k : Nat, k ≤ s.size ∧ i = .int .i64 k ∧ Row wr w.heap.size (Oct.lowTo s.data.toList k) ∧ Below w.heap.size w wr) (fun _ i _ => s.size - (intOf i).toNat)
  case atStart => exact ⟨0, by omega, rfl, by rw [Oct.lowTo_zero]; exact hR, hb1⟩
  case round =>
    obtain ⟨k, hk, rfl, hR', hb⟩ := hrel
    clear hR hb1
    by_cases hlt : k < s.size
    · have hkl : k < (Oct.lowTo s.data.toList k).length := by rw [Oct.lowTo_length, Oct.length_size]; exact hlt
      obtain ⟨hcell, hfz⟩ := hR'.cell k hkl
      rw [Oct.lowTo_at s k hlt] at hcell
      have HN := Lib.hid (Oct.lowTo_next s k hlt)
      have hc := (s[k]).toNat_lt
      rcases (show (s[k].toNat : Int) < 65 ∨ ((65 : Int) ≤ s[k].toNat ∧ (s[k].toNat : Int) ≤ 90) ∨ (90 : Int) < s[k].toNat by omega) with hu | ⟨h1, h2⟩ | hu
      · have HL := Lib.hid (Oct.lowTo_same s k hlt (by omega))
        go_wp2_with fail
        go_roundw
        case rel => exact ⟨k + 1, by omega, by go_num, by rw [HL.out]; exact hR', hb⟩
        case measure => simp [intOf]; omega
      · have HS := hR'.set k hkl (Oct.low s[k]) _ (Oct.low_yes s[k] h1 h2)
        go_wp2_with fail
        go_roundw
        case rel => exact ⟨k + 1, by omega, by go_num, by rw [HN.out]; exact HS, hb.setCell (Nat.le_refl _) _⟩
        case measure => simp [intOf]; omega
      · have HL := Lib.hid (Oct.lowTo_same s k hlt (by omega))
        go_wp2_with fail
        go_roundw
        case rel => exact ⟨k + 1, by omega, by go_num, by rw [HL.out]; exact hR', hb⟩
        case measure => simp [intOf]; omega
    · obtain rfl : k = s.size := by omega
      have hsz : (Oct.lowTo s.data.toList s.size).length = s.size := by rw [Oct.lowTo_length, Oct.length_size]
      have hcv := run_convert_bytes_back (P := Tryz.prog) wr 25 9 5 ⟨w.heap.size, 0, none⟩ cap (Oct.lowTo s.data.toList s.size) Tryz.underlying25 Tryz.underlying5 Tryz.underlying9 (fun j hj => by
        rw [Addr.add_lit, Nat.zero_add]; exact (hR'.cell j hj).1)
      rw [hsz] at hcv
      clear hsz
      go_wp2_with fail
      go_ret
      exact ⟨ret_str (by rw [Oct.lowTo_all]; rfl), hb⟩
theorem undrew {w w1 : World} (h : Below w.drew.heap.size w.drew w1) : Below w.heap.size w w1 := (Below.refl _ w).drew.trans h
def SetIs (w : World) (b n : Nat) (mem : List UInt8 → Bool) : Prop := ∃ D : DataW Unit, w.ownsMap Tryz.prog 9 unitElem b n D ∧ ∀ l, Maps.has D (.string l) = mem l
theorem strKeyed : Maps.Keyed Tryz.prog 9 := Maps.string_keyed Tryz.underlying9
theorem zeroUnit (w : World) : (zeroValue 124).run Tryz.prog w = .ok (.agg #[]) w := by kernel_rfl
theorem SetIs.later {w w' : World} {b n : Nat} {mem : List UInt8 → Bool} (h : SetIs w b n mem) (hb : w'.heap[b]? = w.heap[b]?) : SetIs w' b n mem := by
  obtain ⟨D, ⟨es, clock, h1, h2⟩, h3⟩ := h
  exact ⟨D, ⟨es, clock, hb.trans h1, h2⟩, h3⟩
theorem SetIs.lt {w : World} {b n : Nat} {mem : List UInt8 → Bool} (h : SetIs w b n mem) : b < w.heap.size := by
  obtain ⟨D, h, _⟩ := h; exact h.lt
theorem SetIs.made (w : World) : SetIs (w.alloc (.map #[] 0)) w.heap.size 0 (fun _ => false) := ⟨_, World.ownsMap_made w _ _ _, fun _ => rfl⟩
theorem litKey (l : List UInt8) : WideAt.IsKeyLit (.string l) := trivial
theorem SetIs.store {w : World} {b n : Nat} {mem : List UInt8 → Bool} (h : SetIs w b n mem) (hn : n ≤ 1000000000) (s : ByteArray) (hs : s.size ≤ 9223372036854775807) :
    ∃ w', (Instr.mapUpdate 123 (.map (some b)) (.string s) (.agg #[])).run Tryz.prog w = .ok () w' ∧ SetIs w' b (n + 1) (fun l => l == s.data.toList || mem l) ∧ w.mapTurned w' b := by
  obtain ⟨D, h1, h2⟩ := h
  obtain ⟨w', hr, h3, h4⟩ := h1.store strKeyed Tryz.underlying123 (by unfold maxLen; omega) (WideMaps.keyOf_string_mk Tryz.underlying9 (s := s) (by unfold maxLen; omega)) (unitElem_mk (H := Unit))
  refine ⟨w', hr, ⟨_, h3, fun l => ?_⟩, h4⟩
  by_cases e : l = s.data.toList
  · subst e
    rw [Maps.has_put_same h1.isMap (litKey _)]; simp
  · rw [Maps.has_put_other (by simpa using e), h2]; simp [e]
theorem SetIs.look {w : World} {b n : Nat} {mem : List UInt8 → Bool} (h : SetIs w b n mem) (s : ByteArray) (hs : s.size ≤ 9223372036854775807) :
    (Instr.lookup 123 (.map (some b)) (.string s) true).run Tryz.prog w = .ok (.tuple #[.agg #[], .bool (mem s.data.toList)]) w := by
  obtain ⟨D, h1, h2⟩ := h
  obtain ⟨v, ps, hr, hv⟩ := h1.look_ok strKeyed Tryz.underlying123 (zeroUnit w) (unitElem_mk (H := Unit)) (WideMaps.keyOf_string_mk Tryz.underlying9 (s := s) (by unfold maxLen; omega))
  rw [hr, (unitElem_inv hv).1, h2]
def MapIs (w : World) (b n : Nat) (look : List UInt8 → Option Int) : Prop := ∃ D : DataW Unit, w.ownsMap Tryz.prog 9 (plainElem Tryz.prog 3) b n D ∧ ∀ l, Maps.has D (.string l) = (look l).isSome ∧ ∀ i, look l = some i → ∀ z, D.atKey (.string l) z = .lit (.int .i64 i)
theorem MapIs.later {w w' : World} {b n : Nat} {mem : List UInt8 → Option Int} (h : MapIs w b n mem) (hb : w'.heap[b]? = w.heap[b]?) : MapIs w' b n mem := by
  obtain ⟨D, ⟨es, clock, h1, h2⟩, h3⟩ := h
  exact ⟨D, ⟨es, clock, hb.trans h1, h2⟩, h3⟩
end Go.Proofs.YtoanelobggledaaGreatDoor

namespace Go.Proofs.YtoanelobggledaaGreatDoor
open Go.RowKit

def inSet (ls : List (List UInt8)) (l : List UInt8) : Bool := (ls.map Oct.lower).contains l
theorem inSet_snoc (ls : List (List UInt8)) (k : Nat) (h : k < ls.length) (l : List UInt8) : inSet (ls.take (k + 1)) l = (l == Oct.lower ls[k] || inSet (ls.take k) l) := by
  unfold inSet
  rw [List.take_succ_eq_append_getElem h, List.map_append, List.contains_eq_any_beq, List.contains_eq_any_beq, List.any_append]
  simp [Bool.or_comm]
theorem inSet_zero (ls : List (List UInt8)) : inSet (ls.take 0) = fun _ => false := rfl
structure NamesAt (W w : World) (b g n : Nat) (mem : List UInt8 → Bool) : Prop where
  var : w.heap[g]? = some (.cells #[.map (some b)] 123 (0, 0))
  set : SetIs w b n mem
  ne : g ≠ b
  bb : W.heap.size ≤ b
  bg : W.heap.size ≤ g
  below : Below W.heap.size W w
theorem NamesAt.later {W w w' : World} {b g n : Nat} {mem : List UInt8 → Bool} (h : NamesAt W w b g n mem) (hb : Below w.heap.size w w') : NamesAt W w' b g n mem :=
  ⟨(hb.block _ (lt_of_block h.var)).trans h.var, h.set.later (hb.block _ h.set.lt), h.ne, h.bb, h.bg, h.below.trans (hb.mono h.below.size)⟩
theorem NamesAt.turned {W w w' : World} {b g n m : Nat} {mem mem' : List UInt8 → Bool} (h : NamesAt W w b g n mem) (ht : w.mapTurned w' b) (hs : SetIs w' b m mem') : NamesAt W w' b g m mem' := by
  have hg := ht.grown
  exact ⟨(hg.block _ (lt_of_block h.var) (by simpa using h.ne)).trans h.var, hs, h.ne, h.bb, h.bg, h.below.grown hg h.below.size (fun k hk => by cases hk; exact h.bb)⟩
theorem NamesAt.start (W : World) : NamesAt W ((W.alloc (.map #[] 0)).alloc (.cells #[.map (some W.heap.size)] 123)) W.heap.size (W.heap.size + 1) 0 (fun _ => false) := by
  refine ⟨?_, (SetIs.made W).later ?_, by omega, Nat.le_refl _, Nat.le_succ _, ((Below.refl _ W).alloc (Nat.le_refl _) _).alloc (by simp) _⟩
  · have := heap_alloc_new (W.alloc (.map #[] 0)) (.cells #[.map (some W.heap.size)] 123)
    simpa using this
  · exact Below.heap_alloc _ _ _ (by simp)
theorem NamesAt.cell {W w : World} {b g n : Nat} {mem : List UInt8 → Bool} (h : NamesAt W w b g n mem) : w.cell? ⟨g, 0, none⟩ = some (.map (some b)) := by
  simp only [World.cell?, h.var]; rfl
theorem SIn.at_ {w : World} {v : Value} {ls : List (List UInt8)} (h : SIn w v ls) (hne : ls ≠ []) : ∃ b o cap, v = .slice (some ⟨b, o, none⟩) ls.length cap ∧ ∀ w', Below w.heap.size w w' → ∀ j (hj : j < ls.length), w'.cell? ⟨b, o + j, none⟩ = some (.string (str ls[j])) := by
  obtain ⟨ao, cap, rfl, h⟩ := h
  obtain ⟨b, o, rfl, h1, h2⟩ := h.resolve_left hne
  exact ⟨b, o, cap, rfl, fun w' hb j hj => (hb.cell (p := ⟨b, o + j, none⟩) h1).trans (h2 j hj)⟩
theorem lower_size (l : List UInt8) : (str (Oct.lower l)).size = l.length := by rw [str_size, Oct.lower_length]
set_option maxHeartbeats 1600000 in
set_option maxRecDepth 100000 in
theorem among_w (va : Value) (ls : List (List UInt8)) (w : World) (ha : SIn w va ls) (hl : ls.length ≤ 1000000) (hs : ∀ l ∈ ls, l.length ≤ 9223372036854775807) :
    Calls Tryz.prog 82 #[va] w fun e w' => ∃ b g, e = .returned (.func (.func 110) #[] #[.pointer (some ⟨g, 0, none⟩)]) ∧ NamesAt w w' b g ls.length (inSet ls) := by
  have hmm := @run_makeMap Tryz.prog
  have hmf : ∀ (fn : Fn) (first cap : Array Value) (w : World), (Instr.makeFunc fn first cap).run Tryz.prog w = .ok (.func fn first cap) w := fun _ _ _ _ => rfl
  have hst := NamesAt.start w
  by_cases h0 : ls = []
  · obtain ⟨ao, cap, rfl, _⟩ := ha
    have HL := Lib.hid h0
    have e0 : ls.length = 0 := by rw [h0]; rfl
    rw [e0]
    clear h0 hs hl e0
    go_enter Tryz.func82, Tryz.ntmps82
    go_wp2_with fail
    refine wp_loop_rounds 1 ?_
    rw [rounds_succ]
    go_wp2_with fail
    go_ret
    exact ⟨_, _, rfl, by rw [HL.out]; exact hst⟩
  obtain ⟨b, o, cap, rfl, hc⟩ := ha.at_ h0
  obtain ⟨n, hn⟩ : ∃ n, n = ls.length := ⟨_, rfl⟩
  have HN := Lib.hid hn
  have HC : Hid (∀ w', Below w.heap.size w w' → ∀ j (hj : j < ls.length), w'.cell? ⟨b, o + j, none⟩ = some (.string (str ls[j]))) := hc
  have HS := Lib.hid hs
  rw [← hn] at hl ⊢
  clear ha h0 hc hs hn
  go_enter Tryz.func82, Tryz.ntmps82
  go_wp2_with fail
  go_loopw [5, 9] (fun _ i wr => ∃ k : Nat, k ≤ n ∧ i = .int .i64 k ∧ NamesAt w wr w.heap.size (w.heap.size + 1) k (inSet (ls.take k))) (fun _ i _ => n - (intOf i).toNat)
  case atStart => exact ⟨0, by omega, rfl, by rw [inSet_zero]; exact hst⟩
  case round =>
    obtain ⟨k, hk, rfl, hN⟩ := hrel
    clear hst
    by_cases hlt : k < n
    · have ka : k < ls.length := by have := HN.out; omega
      have c1 := HC.out wr hN.below k ka
      have z : (str ls[k]).size ≤ 9223372036854775807 := by rw [str_size]; exact HS.out _ (List.getElem_mem ka)
      have cL := fun w => Lower_big (str ls[k]) w z
      rw [str_list] at cL
      have z2 : (str (Oct.lower ls[k])).size ≤ 9223372036854775807 := by rw [lower_size]; exact HS.out _ (List.getElem_mem ka)
      have HM : Hid (∀ l, inSet (ls.take (k + 1)) l = (l == (str (Oct.lower ls[k])).data.toList || inSet (ls.take k) l)) := fun l => by rw [str_list]; exact inSet_snoc ls k ka l
      generalize str ls[k] = x at c1 cL
      generalize str (Oct.lower ls[k]) = y at cL z2 HM
      obtain ⟨mem, hmem⟩ : ∃ mem, mem = inSet (ls.take k) := ⟨_, rfl⟩
      rw [← hmem] at hN HM
      have hv := hN.cell
      clear z hmem
      go_wp2_with fail
      go_region_with (go_at_call 101; refine (cL _).mono ?_; rintro e w1 ⟨rfl, hb1⟩; have hN1 := hN.later (undrew hb1); have hv1 := hN1.cell; obtain ⟨w2, hr, hset, htn⟩ := hN1.set.store (by omega) y z2)
      all_goals
        go_wp2_with fail
        go_roundw
        case rel => exact ⟨k + 1, by omega, by go_num, by rw [show inSet (ls.take (k + 1)) = _ from funext HM.out]; exact hN1.turned htn hset⟩
        case measure => simp [intOf]; omega
    · have hE := Fld.take_whole ls k (by have := HN.out; omega)
      obtain rfl : k = n := by omega
      rw [hE] at hN
      clear hE
      go_wp2_with fail
      go_ret
      exact ⟨_, _, rfl, hN⟩
set_option maxHeartbeats 1600000 in
set_option maxRecDepth 100000 in
theorem among1_c (W : World) (f : Fld.F) (b g n : Nat) (mem : List UInt8 → Bool) (w : World) (hN : NamesAt W w b g n mem) (h0 : f.1.length ≤ 1000000) :
    Calls Tryz.prog 110 #[fval f, .pointer (some ⟨g, 0, none⟩)] w fun e w' => e = .returned (.bool (mem (Oct.lower f.1))) ∧ Below w.heap.size w w' := by
  obtain ⟨nm, v⟩ := f
  have h0' : nm.length ≤ 1000000 := h0
  have z : (str nm).size ≤ 9223372036854775807 := by rw [str_size]; omega
  have cL := fun w => Lower_big (str nm) w z
  rw [str_list] at cL
  have z2 : (str (Oct.lower nm)).size ≤ 9223372036854775807 := by rw [lower_size]; omega
  have HM : Hid (mem (Oct.lower nm) = mem (str (Oct.lower nm)).data.toList) := by rw [str_list]; exact Lib.hid rfl
  have hv := hN.cell
  have hn1 := hN.later ((Below.refl _ w).alloc (Nat.le_refl _) (.cells #[.string (str nm), .string (str v)] 53))
  have hv1 := hn1.cell
  have hv1' := fun o => (hn1.later ((Below.refl _ (w.alloc (.cells #[.string (str nm), .string (str v)] 53))).alloc (Nat.le_refl _) o)).cell
  unfold fval
  generalize str nm = x at *
  generalize str v = x' at *
  generalize str (Oct.lower nm) = y at *
  have hb0 : Below w.heap.size w (w.alloc (.cells #[.string x, .string x'] 53)) := (Below.refl _ w).alloc (Nat.le_refl _) _
  have hal : ∀ w1 w2 : World, Below w1.heap.size w1 w2 → ∀ o, Below w1.heap.size w1 (w2.alloc o) := fun w1 w2 h o => h.alloc h.size o
  clear z h0 h0'
  go_enter Tryz.func110, Tryz.ntmps110
  go_wp2_with fail
  go_region_with (go_at_call 101; refine (cL _).mono ?_; rintro e w1 ⟨rfl, hb1⟩; have hb2 : Below (w.alloc (.cells #[.string x, .string x'] 53)).heap.size (w.alloc (.cells #[.string x, .string x'] 53)) w1 := (by first | exact undrew hb1 | exact ((Below.refl _ (w.alloc (.cells #[.string x, .string x'] 53))).alloc (Nat.le_refl _) _).trans ((undrew hb1).mono (by simp))); have hN2 := hn1.later hb2; have hv2 := hN2.cell; have hlk := hN2.set.look y z2; have hN3 := fun o => hn1.later (hal _ _ hb2 o); have hv3 := fun o => (hN3 o).cell; have hlk3 := fun o => (hN3 o).set.look y z2)
  all_goals
    go_wp2_with fail
    go_ret
    exact ⟨ret_bool HM.out.symm, by first | exact hb0.trans (hb2.mono hb0.size) | exact hb0.trans ((hal _ _ hb2 _).mono hb0.size)⟩
end Go.Proofs.YtoanelobggledaaGreatDoor

namespace Go.Proofs.YtoanelobggledaaGreatDoor
open Go.RowKit

def Kept (e : TypeId) (w w' : World) : Prop := ∀ (k : Nat) (o : Obj), w.heap[k]? = some o → (∀ (cs : Array Value) (fz : Nat × Nat), o ≠ Obj.cells cs e fz) → w'.heap[k]? = some o
theorem kept_append {e : TypeId} {w w' : World} {o : Obj} {base s n : Nat} {v : Value} {xs : List Value} (hg : (w.alloc o).grownBy w' v.ownBlock) (hr : (w.alloc o).ownsRow base e s v n xs) : Kept e w w' := by
  intro k b hk hb
  have hk1 : (w.alloc o).heap[k]? = some b := by rw [Below.heap_alloc _ _ _ (lt_of_block hk)]; exact hk
  refine (hg.block k (lt_of_block hk1) (fun he => ?_)).trans hk1
  rcases hr.2 with ⟨hv, _⟩ | ⟨g, cap, cur, hv, _, hh, _⟩
  · rw [hv] at he; simp [Value.ownBlock] at he
  · rw [hv] at he
    have e' : k = g := by simpa [Value.ownBlock] using he
    subst e'
    rw [hh] at hk1
    exact hb _ _ (Option.some.inj hk1).symm
theorem NamesAt.kept {W w w' : World} {b g n : Nat} {mem : List UInt8 → Bool} (h : NamesAt W w b g n mem) {e : TypeId} (hk : Kept e w w') (he : 123 ≠ e) (hb : Below W.heap.size W w') : NamesAt W w' b g n mem := by
  refine ⟨hk _ _ h.var (fun cs fz hc => by injection hc with _ h2 _; exact he h2), h.set.later ?_, h.ne, h.bb, h.bg, hb⟩
  obtain ⟨D, ⟨es, clock, h1, _⟩, _⟩ := h.set
  rw [h1]
  exact hk _ _ h1 (fun cs fz hc => by cases hc)
theorem NamesAt.from_ {W W1 w : World} {b g n : Nat} {mem : List UInt8 → Bool} (h : NamesAt W1 w b g n mem) (hb : Below W.heap.size W W1) : NamesAt W w b g n mem :=
  ⟨h.var, h.set, h.ne, Nat.le_trans hb.size h.bb, Nat.le_trans hb.size h.bg, hb.trans (h.below.mono hb.size)⟩
theorem appS2 {ops : Array Oper} {rest : List Oper} {o : Oper} {a : Act} {Q : Exit → Act → World → Prop} {W w : World} {v : Value} {ls : List (List UInt8)} (h : SBuf W w v ls) (l : List UInt8) (hlen : ls.length ≤ 100000000000)
    (hgd : o.guard = none) (s x : Operand) (ho : o.op = .call { callee := .builtin .append, args := #[s, x], argTypes := #[38, 38] })
    (t : ByteArray) (ht : t = str l) (hs : a.eval s = v) (hx : a.eval x = .slice (some ⟨w.heap.size, 0, none⟩) 1 1)
    (hK : ∀ v' w', SBuf W w' v' (ls ++ [l]) → Kept 9 w w' → wpList Tryz.prog ops Q rest (a.put o.dst v') w') : wpList Tryz.prog ops Q (o :: rest) a (w.alloc (.cells #[.string t] 9)) := by
  obtain ⟨i0, hi, hz0, hz1, hz2⟩ := info_parts strs_info
  have hA := h.after ((Below.refl _ w).alloc (Nat.le_refl _) (.cells #[.string t] 9))
  refine wpList_append_own _ hgd s x _ ho W.heap.size 9 i0 (.string ⟨#[]⟩) 1 16 Tryz.underlying38 hi hz0 hz1 hz2 rfl (by decide) v ls.length (strCells ls) hs hA.1 ⟨w.heap.size, 0, none⟩ 1 1 [.string t] hx rfl ?_ ?_ (by unfold maxLen; omega) (by omega) hA.2.size (fun v' w' h1 h2 h3 => ?_)
  · intro j u hj
    match j, hj with
    | 0, hj =>
      simp at hj; subst hj
      show (w.alloc (.cells #[.string t] 9)).cell? ⟨w.heap.size, 0 + 0, none⟩ = _
      rw [World.cell?_alloc_at _ _ _ _ rfl]; rfl
  · intro u hu; simp at hu; subst hu; rfl
  · refine hK v' w' ⟨?_, hA.2.grown h2 hA.2.size (fun k hk => (hA.1.lt k hk).1)⟩ (kept_append h2 hA.1)
    rw [strCells_snoc, ← ht]
    simpa using h1
theorem sin_one (w : World) (t : ByteArray) (l : List UInt8) (ht : t = str l) : SIn (w.alloc (.cells #[.string t] 9)) (.slice (some ⟨w.heap.size, 0, none⟩) 1 1) [l] := by
  subst ht
  refine ⟨some ⟨w.heap.size, 0, none⟩, 1, rfl, .inr ⟨w.heap.size, 0, rfl, by simp, fun j hj => ?_⟩⟩
  obtain rfl : j = 0 := by simpa using hj
  show (w.alloc (.cells #[.string (str l)] 9)).cell? ⟨w.heap.size, 0 + 0, none⟩ = _
  rw [World.cell?_alloc_at _ _ _ _ rfl]; rfl
theorem inSet_one (n l : List UInt8) : inSet [n] l = (l == Oct.lower n) := by
  unfold inSet; rw [List.map_cons, List.contains_cons]; simp
set_option maxHeartbeats 1600000 in
set_option maxRecDepth 100000 in
theorem Get_w (va : Value) (xs : List Fld.F) (nm : List UInt8) (w : World) (ha : FIn w va xs) (hs : Small xs) (hn1 : nm.length ≤ 9223372036854775807) :
    Calls Tryz.prog 69 #[va, .string (str nm)] w fun e w' => ∃ v, e = .returned v ∧ SBuf w w' v (Fld.get xs nm) := by
  have hb0 : Below w.heap.size w (w.alloc (.cells #[.string (str nm)] 9)) := (Below.refl _ w).alloc (Nat.le_refl _) _
  have cA := among_w _ [nm] _ (sin_one w (str nm) nm rfl) (by show 1 ≤ 1000000; omega) (fun l hl => by simp at hl; subst hl; exact hn1)
  obtain ⟨mem, hmem⟩ : ∃ mem, mem = inSet [nm] := ⟨_, rfl⟩
  rw [← hmem] at cA
  have HM : Hid (∀ f, mem (Oct.lower f.1) = Fld.named nm f) := Lib.hid (fun f => by rw [hmem, inSet_one]; rfl)
  generalize str nm = sn at *
  obtain ⟨aa, ca, rfl, ha⟩ := ha
  obtain ⟨n, hn⟩ : ∃ n, n = xs.length := ⟨_, rfl⟩
  rw [← hn]
  have hn9 : n ≤ 1000000 := by have := hs.1; omega
  have HN := Lib.hid hn
  have HS := Lib.hid hs
  by_cases hz : n = 0
  · subst hz
    have hx : xs = [] := List.eq_nil_of_length_eq_zero hn.symm
    have HX := Lib.hid hx
    clear hn ha hs hx hmem hn1
    go_enter Tryz.func69, Tryz.ntmps69
    go_wp2_with (go_at_call 82; refine cA.mono ?_; rintro e w1 ⟨b, g, rfl, hN⟩)
    refine wp_loop_rounds 1 ?_
    rw [rounds_succ]
    go_wp2_with fail
    go_ret
    exact ⟨_, rfl, by rw [HX.out]; exact ⟨World.ownsRow_nil _ _ _ _, (hN.from_ hb0).below⟩⟩
  obtain ⟨ba, oa, rfl, hC⟩ := Cells.of hn hz ha
  have HC := Lib.hid hC
  clear ha hn hz hC hs hmem hn1
  go_enter Tryz.func69, Tryz.ntmps69
  go_wp2_with (go_at_call 82; refine cA.mono ?_; rintro e w1 ⟨b, g, rfl, hN⟩)
  have hN0 := hN.from_ hb0
  clear cA hN hb0
  go_loopw [5, 8, 14] (fun v _ i wr => ∃ k : Nat, k ≤ n ∧ i = .int .i64 k ∧ SBuf w wr v (Fld.get (xs.take k) nm) ∧ NamesAt w wr b g 1 mem) (fun _ _ i _ => n - (intOf i).toNat)
  case atStart => exact ⟨0, by omega, rfl, ⟨World.ownsRow_nil _ _ _ _, hN0.below⟩, hN0⟩
  case round =>
    obtain ⟨k, hk, rfl, hB, hN⟩ := hrel
    clear hN0
    by_cases hlt : k < n
    · have ka : k < xs.length := by have := HN.out; omega
      obtain ⟨c1, c2⟩ := HC.out.at_ hB.2 k hlt ka
      have z := HS.out.at_ k ka
      have hN1 := hN.later ((Below.refl _ wr).alloc (Nat.le_refl _) (.cells #[.string (str xs[k].1), .string (str xs[k].2)] 53))
      have cM := among1_c w xs[k] b g 1 mem _ hN1 z.1
      rw [HM.out xs[k]] at cM
      unfold fval at cM
      have cC := fun w => Clone_s (str xs[k].2) w (by rw [str_size]; exact z.2)
      have hgl : (Fld.get (xs.take k) nm).length ≤ 100000000000 := by
        have := Fld.get_length (xs.take k) nm; rw [List.length_take] at this; omega
      obtain ⟨x, hx⟩ : ∃ x, x = str xs[k].1 := ⟨_, rfl⟩
      obtain ⟨y, hy⟩ : ∃ y, y = str xs[k].2 := ⟨_, rfl⟩
      rw [← hx] at c1 cM hN1
      rw [← hy] at c2 cM hN1 cC
      have HY := Lib.hid hy
      clear hx hy z
      by_cases hp : Fld.named nm xs[k] = true
      · have HG := Lib.hid (Fld.get_yes ka hp)
        rw [hp] at cM
        clear hp
        go_wp2_with fail
        refine cM.mono ?_
        rintro e w2 ⟨rfl, hb2⟩
        obtain ⟨f0, f1, hb3⟩ := fcell hb2
        go_wp2_with fail
        refine (cC _).mono ?_
        rintro e w3 ⟨rfl, hb4⟩
        have hb5 := hb3.trans (hb4.mono hb3.size)
        have hB2 := hB.after hb5
        have hN2 := hN.later hb5
        go_wp2_with (at_builtin; refine appS2 hB2 xs[k].2 hgl rfl _ _ rfl y HY.out rfl rfl ?_; intro v' w4 hB4 hK4)
        go_roundw
        case rel => exact ⟨k + 1, by omega, by go_num, by rw [HG.out]; exact hB4, hN2.kept hK4 (by decide) hB4.2⟩
        case measure => simp [intOf]; omega
      · have hp' : Fld.named nm xs[k] = false := by simpa using hp
        have HG := Lib.hid (Fld.get_no ka hp')
        rw [hp'] at cM
        clear hp hp'
        go_wp2_with fail
        refine cM.mono ?_
        rintro e w2 ⟨rfl, hb2⟩
        obtain ⟨f0, f1, hb3⟩ := fcell hb2
        go_wp2_with fail
        go_roundw
        case rel => exact ⟨k + 1, by omega, by go_num, by rw [HG.out]; exact hB.after hb3, hN.later hb3⟩
        case measure => simp [intOf]; omega
    · have hE := Fld.take_whole xs k (by have := HN.out; omega)
      rw [hE] at hB
      clear hE
      go_wp2_with fail
      go_ret
      exact ⟨_, rfl, hB⟩
end Go.Proofs.YtoanelobggledaaGreatDoor

namespace Go.Proofs.YtoanelobggledaaGreatDoor
open Go.RowKit

theorem SBuf.one {W w : World} {v : Value} {l : List UInt8} (h : SBuf W w v [l]) : ∃ g cap, v = .slice (some ⟨g, 0, none⟩) 1 cap ∧ w.cell? ⟨g, 0, none⟩ = some (.string (str l)) := by
  obtain ⟨b, o, cap, rfl, hc⟩ := h.sin.at_ (by simp)
  rcases h.1.2 with ⟨hv, _⟩ | ⟨g, cap', cur, hv, _⟩
  · cases hv
  · injection hv with h1 h2 h3
    injection h1 with h1
    injection h1 with h4 h5
    subst h4 h5
    have := hc w (Below.refl _ _) 0 (by simp)
    exact ⟨b, cap, rfl, by simpa using this⟩
set_option maxHeartbeats 800000 in
theorem One_yes (va : Value) (xs : List Fld.F) (nm l : List UInt8) (w : World) (ha : FIn w va xs) (hs : Small xs) (hn1 : nm.length ≤ 9223372036854775807) (hg : Fld.get xs nm = [l]) :
    Calls Tryz.prog 86 #[va, .string (str nm)] w fun e w' => e = .returned (.tuple #[.string (str l), .bool true]) ∧ Below w.heap.size w w' := by
  have cG := Get_w va xs nm w ha hs hn1
  rw [hg] at cG
  generalize str nm = sn at cG
  generalize hl : str l = y
  obtain ⟨ao, ca, rfl, _⟩ := ha
  clear hs hn1 hg
  go_enter Tryz.func86, Tryz.ntmps86
  go_wp2_with fail
  refine cG.mono ?_
  rintro e w1 ⟨v, rfl, hB⟩
  obtain ⟨g, cap, rfl, hc⟩ := hB.one
  rw [hl] at hc
  have hb := hB.2
  clear hB hl
  go_wp2_with fail
  go_ret2
  exact ⟨rfl, hb⟩
set_option maxHeartbeats 800000 in
theorem One_no (va : Value) (xs : List Fld.F) (nm : List UInt8) (w : World) (ha : FIn w va xs) (hs : Small xs) (hn1 : nm.length ≤ 9223372036854775807) (hg : (Fld.get xs nm).length ≠ 1) :
    Calls Tryz.prog 86 #[va, .string (str nm)] w fun e w' => e = .returned (.tuple #[.string ⟨#[]⟩, .bool false]) ∧ Below w.heap.size w w' := by
  have cG := Get_w va xs nm w ha hs hn1
  generalize str nm = sn at cG
  have hl := Fld.get_length xs nm
  have hxl := hs.1
  generalize Fld.get xs nm = ls at *
  obtain ⟨ao, ca, rfl, _⟩ := ha
  have b1 : ((ls.length : Int) != 1) = true := by rw [bne, beq_eq_false_iff_ne.2 (by omega)]; rfl
  have hl9 : ls.length ≤ 1000000 := by omega
  clear hs hn1 hg hl hxl
  go_enter Tryz.func86, Tryz.ntmps86
  go_wp2_with fail
  refine cG.mono ?_
  rintro e w1 ⟨v, rfl, hB⟩
  obtain ⟨ao, cap, rfl, _⟩ := hB.sin
  have hb := hB.2
  clear hB
  go_wp2_with fail
  go_ret2
  exact ⟨rfl, hb⟩
set_option maxHeartbeats 1600000 in
set_option maxRecDepth 100000 in
theorem rGet_w (va : Value) (xs : List Fld.F) (nm : List UInt8) (w : World) (ha : FIn w va xs) (hs : Small xs) (hn1 : nm.length ≤ 1000000) :
    Calls Tryz.prog 24 #[va, .string (str nm)] w fun e w' => ∃ v, e = .returned v ∧ SBuf w w' v (Fld.get xs nm) := by
  obtain ⟨aa, ca, rfl, ha⟩ := ha
  obtain ⟨n, hn⟩ : ∃ n, n = xs.length := ⟨_, rfl⟩
  rw [← hn]
  have hn9 : n ≤ 1000000 := by have := hs.1; omega
  have HN := Lib.hid hn
  have HS := Lib.hid hs
  have zn : (str nm).size ≤ 1000000 := by rw [str_size]; exact hn1
  have cN := fun w => rLower_s (str nm) w zn
  rw [str_list] at cN
  generalize str nm = sn at cN zn
  by_cases hz : n = 0
  · subst hz
    have hx : xs = [] := List.eq_nil_of_length_eq_zero hn.symm
    have HX := Lib.hid hx
    clear hn ha hs hx
    go_enter Tryz.func24, Tryz.ntmps24
    go_wp2_with fail
    refine wp_loop_rounds 1 ?_
    rw [rounds_succ]
    go_wp2_with fail
    go_ret
    exact ⟨_, rfl, by rw [HX.out]; exact SBuf.nil _⟩
  obtain ⟨ba, oa, rfl, hC⟩ := Cells.of hn hz ha
  have HC := Lib.hid hC
  clear ha hn hz hC hs
  go_enter Tryz.func24, Tryz.ntmps24
  go_wp2_with fail
  go_loopw [5, 6] (fun v i wr => ∃ k : Nat, k ≤ n ∧ i = .int .i64 k ∧ SBuf w wr v (Fld.get (xs.take k) nm)) (fun _ i _ => n - (intOf i).toNat)
  case atStart => exact ⟨0, by omega, rfl, SBuf.nil _⟩
  case round =>
    obtain ⟨k, hk, rfl, hB⟩ := hrel
    by_cases hlt : k < n
    · have ka : k < xs.length := by have := HN.out; omega
      obtain ⟨c1, c2⟩ := HC.out.at_ hB.2 k hlt ka
      have z := HS.out.at_ k ka
      have cX := fun w => rLower_s (str xs[k].1) w (by rw [str_size]; exact z.1)
      rw [str_list] at cX
      have hgl : (Fld.get (xs.take k) nm).length ≤ 100000000000 := by
        have := Fld.get_length (xs.take k) nm; rw [List.length_take] at this; omega
      obtain ⟨x, hx⟩ : ∃ x, x = str xs[k].1 := ⟨_, rfl⟩
      obtain ⟨y, hy⟩ : ∃ y, y = str xs[k].2 := ⟨_, rfl⟩
      rw [← hx] at c1 cX
      rw [← hy] at c2
      have HY := Lib.hid hy
      have HX := Lib.hid hx
      clear hx hy z
      by_cases hp : Fld.named nm xs[k] = true
      · have he : Oct.lower xs[k].1 = Oct.lower nm := by simpa [Fld.named] using hp
        have HG := Lib.hid (Fld.get_yes ka hp)
        rw [he] at cX
        clear hp he
        generalize str (Oct.lower nm) = yn at cN cX
        go_wp2_with fail
        refine (cX _).mono ?_
        rintro e w2 ⟨rfl, hb2⟩
        go_wp2_with fail
        refine (cN _).mono ?_
        rintro e w3 ⟨rfl, hb3⟩
        have hb5 := hb2.trans (hb3.mono hb2.size)
        have hB2 := hB.after hb5
        have c1' := (hb5.cell (p := ⟨ba, oa + k * 2, none⟩) (World.block_lt_of_cell? _ _ c1)).trans c1
        have c2' := (hb5.cell (p := ⟨ba, oa + k * 2 + 1, none⟩) (World.block_lt_of_cell? _ _ c2)).trans c2
        go_wp2_with (at_builtin; refine appS hB2 xs[k].2 hgl rfl _ _ rfl y HY.out rfl rfl ?_; intro v' w4 hB4 _)
        go_roundw
        case rel => exact ⟨k + 1, by omega, by go_num, by rw [HG.out]; exact hB4⟩
        case measure => simp [intOf]; omega
      · have hp' : Fld.named nm xs[k] = false := by simpa using hp
        have HG := Lib.hid (Fld.get_no ka hp')
        have hne : ((str (Oct.lower xs[k].1)).toList == (str (Oct.lower nm)).toList) = false := by rw [str_toList, str_toList]; exact hp'
        clear hp hp'
        generalize str (Oct.lower nm) = yn at cN cX hne
        generalize str (Oct.lower xs[k].1) = yx at cX hne
        go_wp2_with fail
        refine (cX _).mono ?_
        rintro e w2 ⟨rfl, hb2⟩
        go_wp2_with fail
        refine (cN _).mono ?_
        rintro e w3 ⟨rfl, hb3⟩
        have hb5 := hb2.trans (hb3.mono hb2.size)
        have hB2 := hB.after hb5
        have c1' := (hb5.cell (p := ⟨ba, oa + k * 2, none⟩) (World.block_lt_of_cell? _ _ c1)).trans c1
        have c2' := (hb5.cell (p := ⟨ba, oa + k * 2 + 1, none⟩) (World.block_lt_of_cell? _ _ c2)).trans c2
        go_wp2_with fail
        go_roundw
        case rel => exact ⟨k + 1, by omega, by go_num, by rw [HG.out]; exact hB2⟩
        case measure => simp [intOf]; omega
    · have hE := Fld.take_whole xs k (by have := HN.out; omega)
      rw [hE] at hB
      clear hE
      go_wp2_with fail
      go_ret
      exact ⟨_, rfl, hB⟩
end Go.Proofs.YtoanelobggledaaGreatDoor

namespace Go.Proofs.YtoanelobggledaaGreatDoor
open Go.RowKit

theorem row_from {w : World} {base base' e s n : Nat} {v : Value} {xs : List Value} (h : w.ownsRow base e s v n xs) (hb : base' ≤ base) : w.ownsRow base' e s v n xs := by
  refine ⟨h.1, ?_⟩
  rcases h.2 with h0 | ⟨g, cap, cur, hv, hg, rest⟩
  · exact .inl h0
  · exact .inr ⟨g, cap, cur, hv, Nat.le_trans hb hg, rest⟩
theorem SBuf.from_ {W W1 w : World} {v : Value} {ls : List (List UInt8)} (h : SBuf W1 w v ls) (hb : Below W.heap.size W W1) : SBuf W w v ls := ⟨row_from h.1 hb.size, hb.trans (h.2.mono hb.size)⟩
end Go.Proofs.YtoanelobggledaaGreatDoor

namespace Go.Proofs.YtoanelobggledaaGreatDoor
open Go.RowKit

def NilOk (v : Value) : Prop := ∀ c, v = .slice none 0 c → c = 0
end Go.Proofs.YtoanelobggledaaGreatDoor

namespace Go.Proofs.YtoanelobggledaaGreatDoor
open Go.RowKit

def BIn (w : World) (v : Value) (l : List UInt8) : Prop := ∃ ao cap, v = .slice ao l.length cap ∧ l.length ≤ cap ∧ cap ≤ 9223372036854775807 ∧ (l = [] ∨ ∃ b o, ao = some ⟨b, o, none⟩ ∧ b < w.heap.size ∧ ∀ j (hj : j < l.length), w.cell? ⟨b, o + j, none⟩ = some (.int .u8 (l[j].toNat : Int)))
theorem ext_head (s : ByteArray) (ln : List UInt8) (k : Nat) (h : s.data.toList = ln) : s.extract 0 k = str (ln.take k) := by
  rw [← str_of (s.extract 0 k), cut_mid, h, List.drop_zero]
theorem ext_tail (s : ByteArray) (ln : List UInt8) (k : Nat) (h : s.data.toList = ln) : (s.extract k s.size).data.toList = ln.drop k := by
  rw [cut_mid, List.take_of_length_le (by rw [Oct.length_size]; exact Nat.le_refl _), h]
end Go.Proofs.YtoanelobggledaaGreatDoor

namespace Go.Proofs.YtoanelobggledaaGreatDoor
open Go.RowKit

theorem BIn.later {w w' : World} {v : Value} {l : List UInt8} (h : BIn w v l) (hb : Below w.heap.size w w') : BIn w' v l := by
  obtain ⟨ao, cap, hv, h1, h2, h⟩ := h
  refine ⟨ao, cap, hv, h1, h2, ?_⟩
  rcases h with h | ⟨b, o, h1, h2, h3⟩
  · exact .inl h
  · exact .inr ⟨b, o, h1, Nat.lt_of_lt_of_le h2 hb.size, fun j hj => by rw [hb.cell (p := ⟨b, o + j, none⟩) h2]; exact h3 j hj⟩
end Go.Proofs.YtoanelobggledaaGreatDoor

namespace Go.Proofs.YtoanelobggledaaGreatDoor
open Go.RowKit

end Go.Proofs.YtoanelobggledaaGreatDoor

