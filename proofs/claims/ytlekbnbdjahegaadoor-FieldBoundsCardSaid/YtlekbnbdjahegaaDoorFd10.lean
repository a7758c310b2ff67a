/- Package field: the library's Grow and Concat, at fields. -/
import Derived.Test.YtlekbnbdjahegaaDoorFd9
import Derived.Lib.AppendZerosOnto
import Derived.Laws.AppendOwnNone
namespace Go.Proofs.YtlekbnbdjahegaaDoor
open Go.RowKit

/-- A nil slice has no room. -/
def NilOk (v : Value) : Prop := ∀ c, v = .slice none 0 c → c = 0
theorem row_nilok {w : World} {base e s n : Nat} {v : Value} {xs : List Value} (h : w.ownsRow base e s v n xs) : NilOk v := by
  intro c hc
  rcases h.2 with ⟨hv, _⟩ | ⟨g, cap, cur, hv, _⟩
  · rw [hv] at hc; injection hc with _ _ h3; exact h3.symm
  · rw [hv] at hc; injection hc with h1; cases h1
theorem fieldCells_one' (fs : List Fld.F) : ∀ u ∈ fieldCells fs, u.oneCell' = true := by
  intro u hu
  unfold fieldCells at hu
  obtain ⟨f, _, hf⟩ := List.mem_flatMap.1 hu
  simp at hf
  rcases hf with rfl | rfl <;> rfl

/-- 'append(fs, gs..)'. -/
theorem appFs {ops : Array Oper} {rest : List Oper} {o : Oper} {a : Act} {Q : Exit → Act → World → Prop} {W w : World} {v u : Value} {fs gs : List Fld.F} (h : FBuf W w v fs) (hu : FIn w u gs) (hnil : NilOk u) (hlen : fs.length + gs.length ≤ 1000000000)
    (hgd : o.guard = none) (s x : Operand) (ho : o.op = .call { callee := .builtin .append, args := #[s, x], argTypes := #[24, 24] })
    (hs : a.eval s = v) (hx : a.eval x = u)
    (hK : ∀ v' w', FBuf W w' v' (fs ++ gs) → wpList Tryd.prog ops Q rest (a.put o.dst v') w') : wpList Tryd.prog ops Q (o :: rest) a w := by
  obtain ⟨i0, hi, hz0, hz1, hz2⟩ := info_parts fields_info
  obtain ⟨ao, cap, rfl, hg⟩ := hu
  cases ao with
  | none =>
    have h0 : gs = [] := by
      rcases hg with h | ⟨b, o, h, _⟩
      · exact h
      · cases h
    subst h0
    obtain rfl : cap = 0 := hnil cap rfl
    refine wpList_append_own_none hgd s x _ ho W.heap.size 49 i0 2 Tryd.underlying24 hi v fs.length (fieldCells fs) hs h.1 hx ?_
    have := hK v w
    rw [List.append_nil] at this
    exact this h
  | some ad =>
    refine wpList_append_own _ hgd s x _ ho W.heap.size 49 i0 _ 2 32 Tryd.underlying24 hi hz0 hz1 hz2 rfl (by decide) v fs.length (fieldCells fs) hs h.1 ad gs.length cap (fieldCells gs) hx (fieldCells_length gs) ?_ (fieldCells_one' gs) (by unfold maxLen; omega) (by omega) h.2.size (fun v' w' h1 h2 _ => ?_)
    · intro j u hj
      have hjl : j < (fieldCells gs).length := (List.getElem?_eq_some_iff.1 hj).1
      rw [fieldCells_length] at hjl
      rcases hg with h | ⟨b, o, h, hb, hc⟩
      · subst h; simp at hjl
      · cases h
        have hk : j / 2 < gs.length := by omega
        have h1 := fieldCells_at gs (j / 2) hk
        have h2 := hc (j / 2) hk
        rw [Addr.add_lit]
        rcases Nat.mod_two_eq_zero_or_one j with e | e
        · have ej : j = j / 2 * 2 := by omega
          rw [ej] at hj ⊢
          rw [h1.1] at hj; rw [← hj]; exact h2.1
        · have ej : j = j / 2 * 2 + 1 := by omega
          rw [ej] at hj ⊢
          rw [h1.2] at hj; rw [← hj]; exact h2.2
    · refine hK v' w' ⟨?_, h.2.grown h2 h.2.size (fun k hk => (h.1.lt k hk).1)⟩
      rw [fieldCells_append, List.length_append]; exact h1

set_option maxHeartbeats 1600000 in
set_option maxRecDepth 100000 in
theorem Grow_w (n : Nat) (w : World) (hn : n ≤ 1000000000) :
    Calls Tryd.prog 46 #[.slice none 0 0, .int .i64 n] w fun e w' => ∃ v, e = .returned v ∧ FBuf w w' v [] := by
  by_cases h0 : n = 0
  · subst h0
    go_enter Tryd.func46, Tryd.ntmps46
    go_wp2_with fail
    go_ret
    exact ⟨_, rfl, FBuf.nil _⟩
  obtain ⟨i0, hi, hz0, hz1, hz2⟩ := info_parts fields_info
  have hpos : 0 < (n : Int) := by omega
  have hrz := Lib.run_append_grow_zeros w 24 3 24 49 i0 _ .i64 .i64 Tryd.underlying24 Tryd.underlying3 hi hz0 none 0 0 [] (by exact run_firstCells_none w.drew i0.size 0 0 0) n (by omega) (by omega) (by omega) (by omega) (by rw [hz2]; omega) (by rw [hz2]; exact growslice_fits (by omega) (by omega))
  have hcap : grownCap w n 0 49 ≤ maxLen := grownCap_le_maxLen w n 0 49 (by unfold maxLen; omega)
  have hge : n ≤ grownCap w n 0 49 := grownCap_ge w _ _ _
  rw [Nat.zero_add] at hrz
  generalize grownCap w n 0 49 = G at hrz hcap hge
  have hrow : FBuf w (w.drew.alloc (.cells (([] : List Value).toArray ++ Builtin.zeroCells (Value.agg #[.string ⟨#[]⟩, .string ⟨#[]⟩]).cells n ++ Builtin.zeroCells (Value.agg #[.string ⟨#[]⟩, .string ⟨#[]⟩]).cells (G - n)) 49)) (.slice (some ⟨w.heap.size, 0, none⟩) 0 G) [] :=
    ⟨World.ownsRow_made w.drew _ G (Nat.le_refl _) hcap (by simp [Builtin.zeroCells, Value.cells]; omega), (Below.refl _ w).drew.alloc (Nat.le_refl _) _⟩
  generalize w.drew.alloc _ = w1 at hrz hrow
  have hG63 : G ≤ 9223372036854775807 := by unfold maxLen at hcap; omega
  clear hcap hi hz0 hz1 hz2 h0
  go_enter Tryd.func46, Tryd.ntmps46
  go_wp2_with (at_builtin; refine Lib.wpList_append_run _ rfl _ _ _ _ rfl _ _ rfl rfl _ _ hrz ?_)
  all_goals (go_ret; exact ⟨_, rfl, hrow⟩)

set_option maxHeartbeats 1600000 in
set_option maxRecDepth 100000 in
theorem Concat_w (va vb : Value) (xs ys : List Fld.F) (g : Nat) (w : World) (ha : FIn w va xs) (hb : FIn w vb ys) (na : NilOk va) (nb : NilOk vb) (hg : g < w.heap.size) (h0 : w.cell? ⟨g, 0, none⟩ = some va) (h1 : w.cell? ⟨g, 1, none⟩ = some vb) (hx : xs.length ≤ 1000000) (hy : ys.length ≤ 1000000) :
    Calls Tryd.prog 34 #[.slice (some ⟨g, 0, none⟩) 2 2] w fun e w' => ∃ v, e = .returned v ∧ FBuf w w' v (xs ++ ys) := by
  have cG := Grow_w (xs.length + ys.length) w (by omega)
  have HA := Lib.hid ha
  have HB := Lib.hid hb
  have NA := Lib.hid na
  have NB := Lib.hid nb
  obtain ⟨aa, ca, hva, _⟩ := ha
  obtain ⟨ab, cb, hvb, _⟩ := hb
  rw [hva] at h0
  rw [hvb] at h1
  have HVA := Lib.hid hva
  have HVB := Lib.hid hvb
  obtain ⟨n, hn⟩ : ∃ n, n = xs.length := ⟨_, rfl⟩
  obtain ⟨m, hm⟩ : ∃ m, m = ys.length := ⟨_, rfl⟩
  have HL := Lib.hid (⟨hn, hm⟩ : n = xs.length ∧ m = ys.length)
  rw [← hn] at h0 hx cG
  rw [← hm] at h1 hy cG
  have e0 : ((n + m : Nat) : Int) = (n : Int) + m := by omega
  rw [e0] at cG
  clear hva hvb na nb hn hm e0
  go_enter Tryd.func34, Tryd.ntmps34
  go_wp2_with fail
  refine wp_loop_rounds 3 ?_
  rw [rounds_succ]
  go_wp2_with fail
  rw [rounds_succ]
  go_wp2_with fail
  rw [rounds_succ]
  go_wp2_with fail
  refine cG.mono ?_
  rintro e w1 ⟨v, rfl, hB⟩
  have h0' := (hB.2.cell (p := ⟨g, 0, none⟩) hg).trans h0
  have f0 : FIn w1 (.slice aa n ca) xs := by have := HA.out.later hB.2; rw [HVA.out, ← HL.out.1] at this; exact this
  have n0 : NilOk (.slice aa n ca) := by have := NA.out; rw [HVA.out, ← HL.out.1] at this; exact this
  have n1 : NilOk (.slice ab m cb) := by have := NB.out; rw [HVB.out, ← HL.out.2] at this; exact this
  have k0 : ([] : List Fld.F).length + xs.length ≤ 1000000000 := by rw [← HL.out.1]; simp; omega
  go_wp2_with fail
  refine wp_loop_rounds 3 ?_
  rw [rounds_succ]
  go_wp2_with (at_builtin; refine appFs hB f0 n0 k0 rfl _ _ rfl rfl rfl ?_; intro v' w2 hB2)
  rw [List.nil_append] at hB2
  have h1'' := (hB2.2.cell (p := ⟨g, 1, none⟩) hg).trans h1
  have f1' : FIn w2 (.slice ab m cb) ys := by have := HB.out.later hB2.2; rw [HVB.out, ← HL.out.2] at this; exact this
  have k1 : xs.length + ys.length ≤ 1000000000 := by rw [← HL.out.1, ← HL.out.2]; omega
  rw [rounds_succ]
  go_wp2_with (at_builtin; refine appFs hB2 f1' n1 k1 rfl _ _ rfl rfl rfl ?_; intro v'' w3 hB3)
  rw [rounds_succ]
  go_wp2_with fail
  go_ret
  exact ⟨_, rfl, hB3⟩
end Go.Proofs.YtlekbnbdjahegaaDoor
