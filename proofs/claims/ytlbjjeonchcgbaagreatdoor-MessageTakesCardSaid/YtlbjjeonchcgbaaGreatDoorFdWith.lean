/- What lies below, out of the texts of the layers under this one: Fd10, Fd11, Fd8, Fd9. -/
import Derived.Test.YtlbjjeonchcgbaaGreatDoorFdBase
import Derived.Lib.AppendZerosOnto
import Derived.Laws.AppendOwnNone
import Derived.Deep.DeepCutAuto
namespace Go.Proofs.YtlbjjeonchcgbaaGreatDoor
open Go.RowKit

theorem SBuf.one {W w : World} {v : Value} {l : List UInt8} (h : SBuf W w v [l]) : ∃ g cap, v = .slice (some ⟨g, 0, none⟩) 1 cap ∧ w.cell? ⟨g, 0, none⟩ = some (.string (str l)) := by
  obtain ⟨b, o, cap, rfl, hc⟩ := h.sin.at_ (by simp)
  rcases h.1.2 with ⟨hv, _⟩ | ⟨g, cap', cur, hv, _⟩
  · cases hv
  · injection hv with h1 h2 h3
    injection h1 with h1
    injection h1 with h4 h5
    subst h4 h5
    have := hc w (Below.refl _ _) 0 (by simp)
    exact ⟨b, cap, rfl, by simpa using this⟩

set_option maxHeartbeats 1600000 in
set_option maxRecDepth 100000 in
theorem rGet_w (va : Value) (xs : List Fld.F) (nm : List UInt8) (w : World) (ha : FIn w va xs) (hs : Small xs) (hn1 : nm.length ≤ 1000000) :
    Calls Tryz.prog 31 #[va, .string (str nm)] w fun e w' => ∃ v, e = .returned v ∧ SBuf w w' v (Fld.get xs nm) := by
  obtain ⟨aa, ca, rfl, ha⟩ := ha
  obtain ⟨n, hn⟩ : ∃ n, n = xs.length := ⟨_, rfl⟩
  rw [← hn]
  have hn9 : n ≤ 1000000 := by have := hs.1; omega
  have HN := Lib.hid hn
  have HS := Lib.hid hs
  have zn : (str nm).size ≤ 1000000 := by rw [str_size]; exact hn1
  have cN := fun w => rLower_s (str nm) w zn
  rw [str_list] at cN
  generalize str nm = sn at cN zn
  by_cases hz : n = 0
  · subst hz
    have hx : xs = [] := List.eq_nil_of_length_eq_zero hn.symm
    have HX := Lib.hid hx
    clear hn ha hs hx
    go_enter Tryz.func31, Tryz.ntmps31
    go_wp2_with fail
    refine wp_loop_rounds 1 ?_
    rw [rounds_succ]
    go_wp2_with fail
    go_ret
    exact ⟨_, rfl, by rw [HX.out]; exact SBuf.nil _⟩
  obtain ⟨ba, oa, rfl, hC⟩ := Cells.of hn hz ha
  have HC := Lib.hid hC
  clear ha hn hz hC hs
  go_enter Tryz.func31, Tryz.ntmps31
  go_wp2_with fail
  go_loopw [5, 6] (fun v i wr => ∃ k : Nat, k ≤ n ∧ i = .int .i64 k ∧ SBuf w wr v (Fld.get (xs.take k) nm)) (fun _ i _ => n - (intOf i).toNat)
  case atStart => exact ⟨0, by omega, rfl, SBuf.nil _⟩
  case round =>
    obtain ⟨k, hk, rfl, hB⟩ := hrel
    by_cases hlt : k < n
    · have ka : k < xs.length := by have := HN.out; omega
      obtain ⟨c1, c2⟩ := HC.out.at_ hB.2 k hlt ka
      have z := HS.out.at_ k ka
      have cX := fun w => rLower_s (str xs[k].1) w (by rw [str_size]; exact z.1)
      rw [str_list] at cX
      have hgl : (Fld.get (xs.take k) nm).length ≤ 100000000000 := by
        have := Fld.get_length (xs.take k) nm; rw [List.length_take] at this; omega
      obtain ⟨x, hx⟩ : ∃ x, x = str xs[k].1 := ⟨_, rfl⟩
      obtain ⟨y, hy⟩ : ∃ y, y = str xs[k].2 := ⟨_, rfl⟩
      rw [← hx] at c1 cX
      rw [← hy] at c2
      have HY := Lib.hid hy
      have HX := Lib.hid hx
      clear hx hy z
      by_cases hp : Fld.named nm xs[k] = true
      · have he : Oct.lower xs[k].1 = Oct.lower nm := by simpa [Fld.named] using hp
        have HG := Lib.hid (Fld.get_yes ka hp)
        rw [he] at cX
        clear hp he
        generalize str (Oct.lower nm) = yn at cN cX
        go_wp2_with fail
        refine (cX _).mono ?_
        rintro e w2 ⟨rfl, hb2⟩
        go_wp2_with fail
        refine (cN _).mono ?_
        rintro e w3 ⟨rfl, hb3⟩
        have hb5 := hb2.trans (hb3.mono hb2.size)
        have hB2 := hB.after hb5
        have c1' := (hb5.cell (p := ⟨ba, oa + k * 2, none⟩) (World.block_lt_of_cell? _ _ c1)).trans c1
        have c2' := (hb5.cell (p := ⟨ba, oa + k * 2 + 1, none⟩) (World.block_lt_of_cell? _ _ c2)).trans c2
        go_wp2_with (at_builtin; refine appS hB2 xs[k].2 hgl rfl _ _ rfl y HY.out rfl rfl ?_; intro v' w4 hB4 _)
        go_roundw
        case rel => exact ⟨k + 1, by omega, by go_num, by rw [HG.out]; exact hB4⟩
        case measure => simp [intOf]; omega
      · have hp' : Fld.named nm xs[k] = false := by simpa using hp
        have HG := Lib.hid (Fld.get_no ka hp')
        have hne : ((str (Oct.lower xs[k].1)).toList == (str (Oct.lower nm)).toList) = false := by rw [str_toList, str_toList]; exact hp'
        clear hp hp'
        generalize str (Oct.lower nm) = yn at cN cX hne
        generalize str (Oct.lower xs[k].1) = yx at cX hne
        go_wp2_with fail
        refine (cX _).mono ?_
        rintro e w2 ⟨rfl, hb2⟩
        go_wp2_with fail
        refine (cN _).mono ?_
        rintro e w3 ⟨rfl, hb3⟩
        have hb5 := hb2.trans (hb3.mono hb2.size)
        have hB2 := hB.after hb5
        have c1' := (hb5.cell (p := ⟨ba, oa + k * 2, none⟩) (World.block_lt_of_cell? _ _ c1)).trans c1
        have c2' := (hb5.cell (p := ⟨ba, oa + k * 2 + 1, none⟩) (World.block_lt_of_cell? _ _ c2)).trans c2
        go_wp2_with fail
        go_roundw
        case rel => exact ⟨k + 1, by omega, by go_num, by rw [HG.out]; exact hB2⟩
        case measure => simp [intOf]; omega
    · have hE := Fld.take_whole xs k (by have := HN.out; omega)
      rw [hE] at hB
      clear hE
      go_wp2_with fail
      go_ret
      exact ⟨_, rfl, hB⟩

end Go.Proofs.YtlbjjeonchcgbaaGreatDoor

namespace Go.Proofs.YtlbjjeonchcgbaaGreatDoor
open Go.RowKit

theorem row_from {w : World} {base base' e s n : Nat} {v : Value} {xs : List Value} (h : w.ownsRow base e s v n xs) (hb : base' ≤ base) : w.ownsRow base' e s v n xs := by
  refine ⟨h.1, ?_⟩
  rcases h.2 with h0 | ⟨g, cap, cur, hv, hg, rest⟩
  · exact .inl h0
  · exact .inr ⟨g, cap, cur, hv, Nat.le_trans hb hg, rest⟩
theorem FBuf.from_ {W W1 w : World} {v : Value} {fs : List Fld.F} (h : FBuf W1 w v fs) (hb : Below W.heap.size W W1) : FBuf W w v fs := ⟨row_from h.1 hb.size, hb.trans (h.2.mono hb.size)⟩
theorem SBuf.from_ {W W1 w : World} {v : Value} {ls : List (List UInt8)} (h : SBuf W1 w v ls) (hb : Below W.heap.size W W1) : SBuf W w v ls := ⟨row_from h.1 hb.size, hb.trans (h.2.mono hb.size)⟩

end Go.Proofs.YtlbjjeonchcgbaaGreatDoor

namespace Go.Proofs.YtlbjjeonchcgbaaGreatDoor
open Go.RowKit

/-- A nil slice has no room. -/
def NilOk (v : Value) : Prop := ∀ c, v = .slice none 0 c → c = 0
theorem row_nilok {w : World} {base e s n : Nat} {v : Value} {xs : List Value} (h : w.ownsRow base e s v n xs) : NilOk v := by
  intro c hc
  rcases h.2 with ⟨hv, _⟩ | ⟨g, cap, cur, hv, _⟩
  · rw [hv] at hc; injection hc with _ _ h3; exact h3.symm
  · rw [hv] at hc; injection hc with h1; cases h1
theorem fieldCells_one' (fs : List Fld.F) : ∀ u ∈ fieldCells fs, u.oneCell' = true := by
  intro u hu
  unfold fieldCells at hu
  obtain ⟨f, _, hf⟩ := List.mem_flatMap.1 hu
  simp at hf
  rcases hf with rfl | rfl <;> rfl

/-- 'append(fs, gs..)'. -/
theorem appFs {ops : Array Oper} {rest : List Oper} {o : Oper} {a : Act} {Q : Exit → Act → World → Prop} {W w : World} {v u : Value} {fs gs : List Fld.F} (h : FBuf W w v fs) (hu : FIn w u gs) (hnil : NilOk u) (hlen : fs.length + gs.length ≤ 1000000000)
    (hgd : o.guard = none) (s x : Operand) (ho : o.op = .call { callee := .builtin .append, args := #[s, x], argTypes := #[26, 26] })
    (hs : a.eval s = v) (hx : a.eval x = u)
    (hK : ∀ v' w', FBuf W w' v' (fs ++ gs) → wpList Tryz.prog ops Q rest (a.put o.dst v') w') : wpList Tryz.prog ops Q (o :: rest) a w := by
  obtain ⟨i0, hi, hz0, hz1, hz2⟩ := info_parts fields_info
  obtain ⟨ao, cap, rfl, hg⟩ := hu
  cases ao with
  | none =>
    have h0 : gs = [] := by
      rcases hg with h | ⟨b, o, h, _⟩
      · exact h
      · cases h
    subst h0
    obtain rfl : cap = 0 := hnil cap rfl
    refine wpList_append_own_none hgd s x _ ho W.heap.size 65 i0 2 Tryz.underlying26 hi v fs.length (fieldCells fs) hs h.1 hx ?_
    have := hK v w
    rw [List.append_nil] at this
    exact this h
  | some ad =>
    refine wpList_append_own _ hgd s x _ ho W.heap.size 65 i0 _ 2 32 Tryz.underlying26 hi hz0 hz1 hz2 rfl (by decide) v fs.length (fieldCells fs) hs h.1 ad gs.length cap (fieldCells gs) hx (fieldCells_length gs) ?_ (fieldCells_one' gs) (by unfold maxLen; omega) (by omega) h.2.size (fun v' w' h1 h2 _ => ?_)
    · intro j u hj
      have hjl : j < (fieldCells gs).length := (List.getElem?_eq_some_iff.1 hj).1
      rw [fieldCells_length] at hjl
      rcases hg with h | ⟨b, o, h, hb, hc⟩
      · subst h; simp at hjl
      · cases h
        have hk : j / 2 < gs.length := by omega
        have h1 := fieldCells_at gs (j / 2) hk
        have h2 := hc (j / 2) hk
        rw [Addr.add_lit]
        rcases Nat.mod_two_eq_zero_or_one j with e | e
        · have ej : j = j / 2 * 2 := by omega
          rw [ej] at hj ⊢
          rw [h1.1] at hj; rw [← hj]; exact h2.1
        · have ej : j = j / 2 * 2 + 1 := by omega
          rw [ej] at hj ⊢
          rw [h1.2] at hj; rw [← hj]; exact h2.2
    · refine hK v' w' ⟨?_, h.2.grown h2 h.2.size (fun k hk => (h.1.lt k hk).1)⟩
      rw [fieldCells_append, List.length_append]; exact h1

set_option maxHeartbeats 1600000 in
set_option maxRecDepth 100000 in
theorem Grow_w (n : Nat) (w : World) (hn : n ≤ 1000000000) :
    Calls Tryz.prog 96 #[.slice none 0 0, .int .i64 n] w fun e w' => ∃ v, e = .returned v ∧ FBuf w w' v [] := by
  by_cases h0 : n = 0
  · subst h0
    go_enter Tryz.func96, Tryz.ntmps96
    go_wp2_with fail
    go_ret
    exact ⟨_, rfl, FBuf.nil _⟩
  obtain ⟨i0, hi, hz0, hz1, hz2⟩ := info_parts fields_info
  have hpos : 0 < (n : Int) := by omega
  have hrz := Lib.run_append_grow_zeros w 26 3 26 65 i0 _ .i64 .i64 Tryz.underlying26 Tryz.underlying3 hi hz0 none 0 0 [] (by exact run_firstCells_none w.drew i0.size 0 0 0) n (by omega) (by omega) (by omega) (by omega) (by rw [hz2]; omega) (by rw [hz2]; exact growslice_fits (by omega) (by omega))
  have hcap : grownCap w n 0 65 ≤ maxLen := grownCap_le_maxLen w n 0 65 (by unfold maxLen; omega)
  have hge : n ≤ grownCap w n 0 65 := grownCap_ge w _ _ _
  rw [Nat.zero_add] at hrz
  generalize grownCap w n 0 65 = G at hrz hcap hge
  have hrow : FBuf w (w.drew.alloc (.cells (([] : List Value).toArray ++ Builtin.zeroCells (Value.agg #[.string ⟨#[]⟩, .string ⟨#[]⟩]).cells n ++ Builtin.zeroCells (Value.agg #[.string ⟨#[]⟩, .string ⟨#[]⟩]).cells (G - n)) 65)) (.slice (some ⟨w.heap.size, 0, none⟩) 0 G) [] :=
    ⟨World.ownsRow_made w.drew _ G (Nat.le_refl _) hcap (by simp [Builtin.zeroCells, Value.cells]; omega), (Below.refl _ w).drew.alloc (Nat.le_refl _) _⟩
  generalize w.drew.alloc _ = w1 at hrz hrow
  have hG63 : G ≤ 9223372036854775807 := by unfold maxLen at hcap; omega
  clear hcap hi hz0 hz1 hz2 h0
  go_enter Tryz.func96, Tryz.ntmps96
  go_wp2_with (at_builtin; refine Lib.wpList_append_run _ rfl _ _ _ _ rfl _ _ rfl rfl _ _ hrz ?_)
  all_goals (go_ret; exact ⟨_, rfl, hrow⟩)

set_option maxHeartbeats 1600000 in
set_option maxRecDepth 100000 in
theorem Concat_w (va vb : Value) (xs ys : List Fld.F) (g : Nat) (w : World) (ha : FIn w va xs) (hb : FIn w vb ys) (na : NilOk va) (nb : NilOk vb) (hg : g < w.heap.size) (h0 : w.cell? ⟨g, 0, none⟩ = some va) (h1 : w.cell? ⟨g, 1, none⟩ = some vb) (hx : xs.length ≤ 1000000) (hy : ys.length ≤ 1000000) :
    Calls Tryz.prog 76 #[.slice (some ⟨g, 0, none⟩) 2 2] w fun e w' => ∃ v, e = .returned v ∧ FBuf w w' v (xs ++ ys) := by
  have cG := Grow_w (xs.length + ys.length) w (by omega)
  have HA := Lib.hid ha
  have HB := Lib.hid hb
  have NA := Lib.hid na
  have NB := Lib.hid nb
  obtain ⟨aa, ca, hva, _⟩ := ha
  obtain ⟨ab, cb, hvb, _⟩ := hb
  rw [hva] at h0
  rw [hvb] at h1
  have HVA := Lib.hid hva
  have HVB := Lib.hid hvb
  obtain ⟨n, hn⟩ : ∃ n, n = xs.length := ⟨_, rfl⟩
  obtain ⟨m, hm⟩ : ∃ m, m = ys.length := ⟨_, rfl⟩
  have HL := Lib.hid (⟨hn, hm⟩ : n = xs.length ∧ m = ys.length)
  rw [← hn] at h0 hx cG
  rw [← hm] at h1 hy cG
  have e0 : ((n + m : Nat) : Int) = (n : Int) + m := by omega
  rw [e0] at cG
  clear hva hvb na nb hn hm e0
  go_enter Tryz.func76, Tryz.ntmps76
  go_wp2_with fail
  refine wp_loop_rounds 3 ?_
  rw [rounds_succ]
  go_wp2_with fail
  rw [rounds_succ]
  go_wp2_with fail
  rw [rounds_succ]
  go_wp2_with fail
  refine cG.mono ?_
  rintro e w1 ⟨v, rfl, hB⟩
  have h0' := (hB.2.cell (p := ⟨g, 0, none⟩) hg).trans h0
  have f0 : FIn w1 (.slice aa n ca) xs := by have := HA.out.later hB.2; rw [HVA.out, ← HL.out.1] at this; exact this
  have n0 : NilOk (.slice aa n ca) := by have := NA.out; rw [HVA.out, ← HL.out.1] at this; exact this
  have n1 : NilOk (.slice ab m cb) := by have := NB.out; rw [HVB.out, ← HL.out.2] at this; exact this
  have k0 : ([] : List Fld.F).length + xs.length ≤ 1000000000 := by rw [← HL.out.1]; simp; omega
  go_wp2_with fail
  refine wp_loop_rounds 3 ?_
  rw [rounds_succ]
  go_wp2_with (at_builtin; refine appFs hB f0 n0 k0 rfl _ _ rfl rfl rfl ?_; intro v' w2 hB2)
  rw [List.nil_append] at hB2
  have h1'' := (hB2.2.cell (p := ⟨g, 1, none⟩) hg).trans h1
  have f1' : FIn w2 (.slice ab m cb) ys := by have := HB.out.later hB2.2; rw [HVB.out, ← HL.out.2] at this; exact this
  have k1 : xs.length + ys.length ≤ 1000000000 := by rw [← HL.out.1, ← HL.out.2]; omega
  rw [rounds_succ]
  go_wp2_with (at_builtin; refine appFs hB2 f1' n1 k1 rfl _ _ rfl rfl rfl ?_; intro v'' w3 hB3)
  rw [rounds_succ]
  go_wp2_with fail
  go_ret
  exact ⟨_, rfl, hB3⟩
end Go.Proofs.YtlbjjeonchcgbaaGreatDoor

namespace Go.Proofs.YtlbjjeonchcgbaaGreatDoor
open Go.RowKit

/-- Two maps of the call's own, behind place W2: nothing has turned since, but the map of names that are placed. -/
structure WAt (W2 w : World) (bl bp nl np : Nat) (look : List UInt8 → Option Int) (pl : List (List UInt8)) : Prop where
  os : w.os = W2.os
  tape : w.tape = W2.tape
  out : w.output = W2.output
  size : W2.heap.size ≤ w.heap.size
  blk : ∀ k, k < W2.heap.size → k ≠ bp → w.heap[k]? = W2.heap[k]?
  last : MapIs w bl nl look
  set : SetIs w bp np (fun l => pl.contains l)
  ne : bl ≠ bp
  ltl : bl < W2.heap.size
  ltp : bp < W2.heap.size
  mp : ∃ es c, W2.heap[bp]? = some (.map es c)
section
variable {W2 w w' : World} {bl bp nl np : Nat} {look : List UInt8 → Option Int} {pl : List (List UInt8)}
theorem WAt.later (h : WAt W2 w bl bp nl np look pl) (hb : Below w.heap.size w w') : WAt W2 w' bl bp nl np look pl :=
  ⟨hb.os.trans h.os, hb.tape.trans h.tape, hb.output.trans h.out, Nat.le_trans h.size hb.size, fun k hk hn => (hb.block k (Nat.lt_of_lt_of_le hk h.size)).trans (h.blk k hk hn),
    h.last.later (hb.block _ h.last.lt), h.set.later (hb.block _ h.set.lt), h.ne, h.ltl, h.ltp, h.mp⟩
theorem WAt.turned {np' : Nat} {pl' : List (List UInt8)} (h : WAt W2 w bl bp nl np look pl) (ht : w.mapTurned w' bp) (hs : SetIs w' bp np' (fun l => pl'.contains l)) : WAt W2 w' bl bp nl np' look pl' := by
  have hg := ht.grown
  exact ⟨hg.os.trans h.os, hg.tape.trans h.tape, hg.output.trans h.out, Nat.le_trans h.size hg.size, fun k hk hn => (hg.block k (Nat.lt_of_lt_of_le hk h.size) (by simpa using hn)).trans (h.blk k hk hn),
    h.last.later (hg.block _ h.last.lt (by simpa using h.ne)), hs, h.ne, h.ltl, h.ltp, h.mp⟩
theorem WAt.grown {row : Option Nat} (h : WAt W2 w bl bp nl np look pl) (hg : w.grownBy w' row) (hr : ∀ k, row = some k → W2.heap.size ≤ k) : WAt W2 w' bl bp nl np look pl := by
  have key : ∀ k, k < W2.heap.size → w'.heap[k]? = w.heap[k]? := fun k hk => hg.block k (Nat.lt_of_lt_of_le hk h.size) (fun e => by have := hr k e.symm; omega)
  exact ⟨hg.os.trans h.os, hg.tape.trans h.tape, hg.output.trans h.out, Nat.le_trans h.size hg.size, fun k hk hn => (key k hk).trans (h.blk k hk hn),
    h.last.later (key _ h.ltl), h.set.later (key _ h.ltp), h.ne, h.ltl, h.ltp, h.mp⟩
/-- A store into a block that was made since. -/
theorem WAt.store {b : Nat} (h : WAt W2 w bl bp nl np look pl) (hb : W2.heap.size ≤ b) (o : Nat) (v : Value) : WAt W2 (w.setCell ⟨b, o, none⟩ v) bl bp nl np look pl := by
  have key : ∀ k, k < W2.heap.size → (w.setCell ⟨b, o, none⟩ v).heap[k]? = w.heap[k]? := fun k hk => Below.heap_setCell _ _ _ _ (by show k ≠ b; omega)
  exact ⟨h.os, h.tape, h.out, by simpa using h.size, fun k hk hn => (key k hk).trans (h.blk k hk hn),
    h.last.later (key _ h.ltl), h.set.later (key _ h.ltp), h.ne, h.ltl, h.ltp, h.mp⟩
theorem WAt.cell (h : WAt W2 w bl bp nl np look pl) {b o : Nat} {v : Value} (hc : W2.cell? ⟨b, o, none⟩ = some v) : w.cell? ⟨b, o, none⟩ = some v := by
  have hb : b < W2.heap.size := World.block_lt_of_cell? W2 ⟨b, o, none⟩ hc
  have hn : b ≠ bp := by
    rintro rfl
    obtain ⟨es, c, he⟩ := h.mp
    simp [World.cell?, he] at hc
  rw [World.cell?_of_block (a := ⟨b, o, none⟩) (h.blk b hb hn)]; exact hc
theorem WAt.below {W : World} (h : WAt W2 w bl bp nl np look pl) (hb : Below W.heap.size W W2) (hp : W.heap.size ≤ bp) : Below W.heap.size W w :=
  ⟨h.os.trans hb.os, h.tape.trans hb.tape, h.out.trans hb.output, Nat.le_trans hb.size h.size, fun k hk => (h.blk k (Nat.lt_of_lt_of_le hk hb.size) (by omega)).trans (hb.block k hk)⟩
end

/-- 'append(fs, f)', the row alone. -/
theorem appRow {ops : Array Oper} {rest : List Oper} {o : Oper} {a : Act} {Q : Exit → Act → World → Prop} {w : World} {base : Nat} {v : Value} {fs : List Fld.F} (h : w.ownsRow base 65 2 v fs.length (fieldCells fs)) (hbase : base ≤ w.heap.size) (f : Fld.F) (hlen : fs.length ≤ 1000000000)
    (hgd : o.guard = none) (s x : Operand) (ho : o.op = .call { callee := .builtin .append, args := #[s, x], argTypes := #[26, 26] })
    (s0 s1 : ByteArray) (h0 : s0 = str f.1) (h1 : s1 = str f.2) (hs : a.eval s = v) (hx : a.eval x = .slice (some ⟨w.heap.size, 0, none⟩) 1 1)
    (hK : ∀ v' w', w'.ownsRow base 65 2 v' (fs ++ [f]).length (fieldCells (fs ++ [f])) → (w.alloc (.cells #[.string s0, .string s1] 65)).grownBy w' v.ownBlock → (∀ k, v.ownBlock = some k → base ≤ k) → wpList Tryz.prog ops Q rest (a.put o.dst v') w') :
    wpList Tryz.prog ops Q (o :: rest) a (w.alloc (.cells #[.string s0, .string s1] 65)) := by
  subst h0 h1
  obtain ⟨i0, hi, hz0, hz1, hz2⟩ := info_parts fields_info
  have hA := h.alloc (.cells #[.string (str f.1), .string (str f.2)] 65)
  refine wpList_append_own _ hgd s x _ ho base 65 i0 _ 2 32 Tryz.underlying26 hi hz0 hz1 hz2 rfl (by decide) v fs.length (fieldCells fs) hs hA ⟨w.heap.size, 0, none⟩ 1 1 (fieldCells [f]) hx rfl ?_ ?_ (by unfold maxLen; omega) (by omega) (by simp; omega) (fun v' w' h1 h2 _ => ?_)
  · intro j u hj
    match j, hj with
    | 0, hj =>
      simp [fieldCells] at hj; subst hj
      show (w.alloc (.cells #[.string (str f.1), .string (str f.2)] 65)).cell? ⟨w.heap.size, 0 + 0, none⟩ = _
      rw [World.cell?_alloc_at _ _ _ _ rfl]; rfl
    | 1, hj =>
      simp [fieldCells] at hj; subst hj
      show (w.alloc (.cells #[.string (str f.1), .string (str f.2)] 65)).cell? ⟨w.heap.size, 0 + 1, none⟩ = _
      rw [World.cell?_alloc_at _ _ _ _ rfl]; rfl
    | j + 2, hj => simp [fieldCells] at hj
  · intro u hu; simp [fieldCells] at hu; rcases hu with rfl | rfl <;> rfl
  · refine hK v' w' ?_ h2 (fun k hk => (hA.lt k hk).1)
    rw [fieldCells_append, List.length_append]; exact h1
theorem fblk {w w1 : World} {x y : ByteArray} (hb : Below (w.alloc (.cells #[.string x, .string y] 65)).heap.size (w.alloc (.cells #[.string x, .string y] 65)) w1) :
    w1.heap[w.heap.size]? = some (.cells #[.string x, .string y] 65 (0, 0)) := by
  rw [hb.block _ (by simp)]; exact heap_alloc_new w _
theorem row_set {w : World} {base e s n b : Nat} {v u : Value} {xs : List Value} (h : w.ownsRow base e s v n xs) (hb : ∀ k, v.ownBlock = some k → k ≠ b) (o : Nat) : (w.setCell ⟨b, o, none⟩ u).ownsRow base e s v n xs := by
  refine ⟨h.1, ?_⟩
  rcases h.2 with h0 | ⟨g, cap, cur, hv, hg, hh, rest⟩
  · exact .inl h0
  · refine .inr ⟨g, cap, cur, hv, hg, ?_, rest⟩
    rw [Below.heap_setCell _ _ _ _ (by show g ≠ b; exact hb g (by rw [hv]; rfl))]; exact hh
theorem sinz (fs gs : List Fld.F) (h : Small fs) (h' : Small gs) : ∀ f ∈ fs ++ gs, f.1.length ≤ 1000000 ∧ f.2.length ≤ 1000000 := fun f hf => (List.mem_append.1 hf).elim (h.2 f) (h'.2 f)

set_option maxHeartbeats 3200000 in
set_option maxRecDepth 100000 in
theorem With_w (va vb : Value) (xs ys : List Fld.F) (w : World) (ha : FIn w va xs) (hb : FIn w vb ys) (na : NilOk va) (nb : NilOk vb) (sx : Small xs) (sy : Small ys) :
    Calls Tryz.prog 49 #[va, vb] w fun e w' => ∃ v, e = .returned v ∧ FBuf w w' v (Fld.withAll xs ys) := by
  have hmm := @run_makeMap Tryz.prog
  have hM0 := MapIs.made w
  have hM1 : MapIs ((w.alloc (.map #[] 0)).alloc (.map #[] 0)) w.heap.size 0 (fun _ => none) := hM0.later (Below.heap_alloc _ _ _ (by simp))
  have hS1 : SetIs ((w.alloc (.map #[] 0)).alloc (.map #[] 0)) (w.heap.size + 1) 0 (fun _ => false) := by have := SetIs.made (w.alloc (.map #[] 0)); simpa using this
  have hB1 : Below w.heap.size w ((w.alloc (.map #[] 0)).alloc (.map #[] 0)) := ((Below.refl _ w).alloc (Nat.le_refl _) _).alloc (by simp) _
  clear hM0
  have HA := Lib.hid ha
  have HB := Lib.hid hb
  have NA := Lib.hid na
  have NB := Lib.hid nb
  have SX := Lib.hid sx
  have SY := Lib.hid sy
  obtain ⟨aa, ca, rfl, _⟩ := ha
  obtain ⟨ab, cb, rfl, hcb⟩ := hb
  obtain ⟨m, hm⟩ : ∃ m, m = ys.length := ⟨_, rfl⟩
  obtain ⟨nx, hnx⟩ : ∃ nx, nx = xs.length := ⟨_, rfl⟩
  have hm9 : m ≤ 1000000 := by have := sy.1; omega
  have HM := Lib.hid hm
  have HNX := Lib.hid hnx
  have HCB := Lib.hid hcb
  rw [← hm, ← hnx]
  rw [← hm] at HB NB
  rw [← hnx] at HA NA
  clear na nb sx sy hm hnx hcb
  go_enter Tryz.func49, Tryz.ntmps49
  go_wp2_with fail
  generalize (w.alloc (.map #[] 0)).alloc (.map #[] 0) = W1 at *
  go_loopw [8, 9, 21] (fun _ _ i wr => ∃ k : Nat, k ≤ m ∧ i = .int .i64 k ∧ MapIs wr w.heap.size k (Fld.lookAt ys k) ∧ SetIs wr (w.heap.size + 1) 0 (fun _ => false) ∧ Below w.heap.size w wr) (fun _ _ i _ => m - (intOf i).toNat)
  case atStart => exact ⟨0, by omega, rfl, hM1, hS1, hB1⟩
  case round =>
    obtain ⟨k, hk, rfl, hMk, hSk, hBk⟩ := hrel
    clear hM1 hS1 hB1
    by_cases hlt : k < m
    · have ka : k < ys.length := by have := HM.out; omega
      obtain ⟨bb, ob, hab, hC⟩ := Cells.of HM.out (by omega) HCB.out
      subst hab
      obtain ⟨c1, c2⟩ := hC.at_ hBk k hlt ka
      have z := SY.out.at_ k ka
      have zs : (str ys[k].1).size ≤ 1000000 := by rw [str_size]; exact z.1
      have cX := fun w => Lower_s (str ys[k].1) w zs
      rw [str_list] at cX
      have z2 : (str (Oct.lower ys[k].1)).size ≤ 9223372036854775807 := by rw [lower_size]; omega
      have HL : Hid (Fld.lookAt ys (k + 1) = fun l => if l = (str (Oct.lower ys[k].1)).data.toList then some (k : Int) else Fld.lookAt ys k l) := Lib.hid (funext fun l => by rw [str_list]; exact Fld.lookAt_succ ys k ka l)
      generalize str ys[k].1 = x at c1 cX
      generalize str ys[k].2 = y at c2
      generalize str (Oct.lower ys[k].1) = s at cX z2 HL
      have hwf : (Lit.int .i64 (k : Int)).wf = true := by
        have hmin : IntKind.i64.min = -9223372036854775808 := rfl
        have hmax : IntKind.i64.max = 9223372036854775807 := rfl
        simp only [Lit.wf, Bool.and_eq_true, decide_eq_true_eq]; omega
      clear z zs hC
      go_wp2_with fail
      refine (cX _).mono ?_
      rintro e w1 ⟨rfl, hb1⟩
      obtain ⟨f0, f1, hb2⟩ := fcell hb1
      obtain ⟨w2, hr, hM2, ht2⟩ := (hMk.later (hb2.block _ hMk.lt)).store (by omega) s z2 k hwf
      have hg2 := ht2.grown
      have hS2 := (hSk.later (hb2.block _ hSk.lt)).later (hg2.block _ (Nat.lt_of_lt_of_le hSk.lt hb2.size) (by simp))
      have hB2 : Below w.heap.size w w2 := (hBk.trans (hb2.mono hBk.size)).grown hg2 (Nat.le_trans hBk.size hb2.size) (fun j hj => by cases hj; exact Nat.le_refl _)
      go_wp2_with fail
      go_roundw
      case rel => exact ⟨k + 1, by omega, by go_num, by rw [HL.out]; exact hM2, hS2, hB2⟩
      case measure => simp [intOf]; omega
    · obtain rfl : k = m := by omega
      have hcon := Concat_w (.slice aa nx ca) (.slice ab k cb) xs ys wr.heap.size (wr.alloc (.cells #[.slice aa nx ca, .slice ab k cb] 26)) ((HA.out.later hBk).later ((Below.refl _ wr).alloc (Nat.le_refl _) _)) ((HB.out.later hBk).later ((Below.refl _ wr).alloc (Nat.le_refl _) _)) NA.out NB.out (by simp)
        (by rw [World.cell?_alloc_at _ _ _ _ rfl]; rfl) (by rw [World.cell?_alloc_at _ _ _ _ rfl]; rfl) SX.out.1 SY.out.1
      have hb3 : Below wr.heap.size wr (wr.alloc (.cells #[.slice aa nx ca, .slice ab k cb] 26)) := (Below.refl _ wr).alloc (Nat.le_refl _) _
      go_wp2_with fail
      refine hcon.mono ?_
      rintro e W2 ⟨v, rfl, hcat⟩
      have hb4 := hb3.trans (hcat.2.mono hb3.size)
      obtain ⟨ac, cc, hvc, hcc⟩ := hcat.fin
      subst hvc
      have hW2 : WAt W2 W2 w.heap.size (w.heap.size + 1) k 0 (Fld.lookAt ys k) [] := by
        have s2 := hSk.later (hb4.block _ hSk.lt)
        refine ⟨rfl, rfl, rfl, Nat.le_refl _, fun _ _ _ => rfl, hMk.later (hb4.block _ hMk.lt), s2, by omega, Nat.lt_of_lt_of_le hMk.lt hb4.size, s2.lt, ?_⟩
        obtain ⟨D, ⟨es, c, he, _⟩, _⟩ := s2
        exact ⟨es, c, he⟩
      have hbw : Below w.heap.size w W2 := hBk.trans (hb4.mono hBk.size)
      obtain ⟨n, hn⟩ : ∃ n, n = (xs ++ ys).length := ⟨_, rfl⟩
      have hn9 : n ≤ 2000000 := by have := SX.out.1; have := SY.out.1; rw [hn, List.length_append]; omega
      rw [← hn]
      have HN := Lib.hid hn
      have HCC := Lib.hid hcc
      have HC2 : Hid (∀ b o, ab = some ⟨b, o, none⟩ → ∀ j (hj : j < ys.length), W2.cell? ⟨b, o + j * 2, none⟩ = some (.string (str ys[j].1)) ∧ W2.cell? ⟨b, o + j * 2 + 1, none⟩ = some (.string (str ys[j].2))) := fun b o hab j hj => by
        obtain ⟨b', o', h1, h2, h3⟩ := HCB.out.resolve_left (fun e => by rw [e] at hj; simp at hj)
        rw [hab] at h1; cases h1
        exact ⟨(hbw.cell (p := ⟨b, o + j * 2, none⟩) h2).trans (h3 j hj).1, (hbw.cell (p := ⟨b, o + j * 2 + 1, none⟩) h2).trans (h3 j hj).2⟩
      have HSZ := Lib.hid (sinz xs ys SX.out SY.out)
      clear hb4 hb3 hcon hMk hSk hBk hcc hcat hn hlt hk
      go_wp2_with fail
      go_loopw [5, 37] (fun v i wx => ∃ j np : Nat, j ≤ n ∧ i = .int .i64 j ∧ np ≤ j ∧ wx.ownsRow W2.heap.size 65 2 v (Fld.wkf ys ((xs ++ ys).take j)).1.length (fieldCells (Fld.wkf ys ((xs ++ ys).take j)).1) ∧ WAt W2 wx w.heap.size (w.heap.size + 1) k np (Fld.lookAt ys k) (Fld.wkf ys ((xs ++ ys).take j)).2) (fun _ i _ => n - (intOf i).toNat)
      case atStart => exact ⟨0, 0, by omega, rfl, by omega, World.ownsRow_nil _ _ _ _, hW2⟩
      case round =>
        obtain ⟨j, np, hj, rfl, hnp, hR, hW⟩ := hrel
        clear hW2
        by_cases hjt : j < n
        · have ja : j < (xs ++ ys).length := by have := HN.out; omega
          have z := HSZ.out _ (List.getElem_mem ja)
          have hgl : (Fld.wkf ys ((xs ++ ys).take j)).1.length ≤ 1000000000 := by
            have := Fld.wkf_length ys ((xs ++ ys).take j) ([], [])
            unfold Fld.wkf
            rw [List.length_take] at this
            simp at this
            omega
          have HF := Lib.hid (Fld.wkf_snoc ys (xs ++ ys) j ja)
          obtain ⟨bc, oc, hac, hlc, hC⟩ := HCC.out.resolve_left (fun e => by rw [e] at ja; simp at ja)
          subst hac
          obtain ⟨d1, d2⟩ := hC j ja
          have c1 := hW.cell d1
          have c2 := hW.cell d2
          clear d1 d2 hC
          obtain ⟨st, hst⟩ : ∃ st, st = Fld.wkf ys ((xs ++ ys).take j) := ⟨_, rfl⟩
          rw [← hst] at hR hW hgl HF
          obtain ⟨f, hf⟩ : ∃ f, f = (xs ++ ys)[j] := ⟨_, rfl⟩
          rw [← hf] at c1 c2 z HF
          clear hst hf
          obtain ⟨out, pl⟩ := st
          have zs : (str f.1).size ≤ 1000000 := by rw [str_size]; exact z.1
          have cX := fun w => Lower_s (str f.1) w zs
          rw [str_list] at cX
          have z2 : (str (Oct.lower f.1)).size ≤ 9223372036854775807 := by rw [lower_size]; omega
          have HK : Hid ((str (Oct.lower f.1)).data.toList = Oct.lower f.1) := Lib.hid (str_list _)
          have cC := fun w => clone_s f w z.1 z.2
          unfold fval at cC
          obtain ⟨x, hx⟩ : ∃ x, x = str f.1 := ⟨_, rfl⟩
          obtain ⟨y, hy⟩ : ∃ y, y = str f.2 := ⟨_, rfl⟩
          rw [← hx] at c1 cX cC
          rw [← hy] at c2 cC
          have HX := Lib.hid hx
          have HY := Lib.hid hy
          generalize str (Oct.lower f.1) = s at cX z2 HK
          clear zs z hx hy
          go_wp2_with fail
          refine (cX _).mono ?_
          rintro e w1 ⟨rfl, hb1⟩
          obtain ⟨f0, f1, hb2⟩ := fcell hb1
          have g1 := fblk hb1
          have hW1 := hW.later hb2
          have hR1 := row_below hR hb2
          have hlk := hW1.set.look s z2
          rw [HK.out] at hlk
          have hb3 : Below w1.heap.size w1 (w1.alloc (.cells #[] 107)) := (Below.refl _ w1).alloc (Nat.le_refl _) _
          have hW3 := hW1.later hb3
          have hR3 := row_below hR1 hb3
          clear hb1
          by_cases hp : pl.contains (Oct.lower f.1) = true
          · have HP := Lib.hid (Fld.wk_placed (more := ys) (st := (out, pl)) hp)
            rw [hp] at hlk
            clear hp
            go_wp2_with fail
            go_roundw
            case rel => exact ⟨j + 1, np, by omega, by go_num, by omega, by rw [HF.out, HP.out]; exact hR3, by rw [HF.out, HP.out]; exact hW3⟩
            case measure => simp [intOf]; omega
          · have hp' : pl.contains (Oct.lower f.1) = false := by simpa using hp
            rw [hp'] at hlk
            cases hl : Fld.lastOf ys (Oct.lower f.1) with
            | none =>
              have HP := Lib.hid (Fld.wk_none (more := ys) (st := (out, pl)) hp' hl)
              obtain ⟨c, hlk2, _⟩ := hW3.last.look s z2
              rw [HK.out, HM.out, Fld.lookAt_none hl] at hlk2
              clear hp hp' hl
              go_upto_region 13 with fail
              have g3 := (hb3.block _ (lt_of_block g1)).trans g1
              clear f0 f1 g1 hlk hR hR1 hW hW1 c1 c2
              generalize w1.alloc (.cells #[] 107) = w3 at *
              obtain ⟨f0, f1, _, _⟩ := blk2 g3
              go_wp2_with fail
              refine (cC _).mono ?_
              rintro e w4 ⟨rfl, hb4⟩
              have hW4 := hW3.later hb4
              have hR4 := row_below hR3 hb4
              go_wp2_with (at_builtin; refine appRow hR4 hW4.size f hgl rfl _ _ rfl x y HX.out HY.out rfl rfl ?_; intro v' w5 hR5 hg5 ho5)
              go_roundw
              case rel => exact ⟨j + 1, np, by omega, by go_num, by omega, by rw [HF.out, HP.out]; exact hR5, by rw [HF.out, HP.out]; exact (hW4.later ((Below.refl _ w4).alloc (Nat.le_refl _) _)).grown hg5 ho5⟩
              case measure => simp [intOf]; omega
            | some g =>
              have HP := Lib.hid (Fld.wk_some (more := ys) (st := (out, pl)) hp' hl)
              obtain ⟨c, hlk2, hci⟩ := hW3.last.look s z2
              obtain ⟨q, hq, hq1, hq2⟩ := Fld.lookAt_some hl
              rw [HK.out, HM.out, hq1] at hlk2 hci
              obtain rfl := hci q rfl
              have hqk : q < k := by rw [HM.out]; exact hq
              obtain ⟨w4, hst, hS4, ht4⟩ := hW3.set.store (by omega) s z2
              have hS4' : SetIs w4 (w.heap.size + 1) (np + 1) (fun l => (Oct.lower f.1 :: pl).contains l) := by
                have e : (fun l => (Oct.lower f.1 :: pl).contains l) = (fun l => l == s.data.toList || pl.contains l) := funext fun l => by rw [List.contains_cons, HK.out]
                rw [e]; exact hS4
              have hW4 := hW3.turned ht4 hS4'
              have g3 := (hb3.block _ (lt_of_block g1)).trans g1
              have hN : W2.heap.size ≤ wr.heap.size := hW.size
              have hown : ∀ b, u5.ownBlock = some b → b ≠ wr.heap.size := fun b hb => Nat.ne_of_lt (hR.lt b hb).2
              have g4 : w4.heap[wr.heap.size]? = some (.cells #[.string x, .string y] 65 (0, 0)) := (ht4.grown.block _ (lt_of_block g3) (by have := hW.ltp; simp; omega)).trans g3
              have hR4 : w4.ownsRow W2.heap.size 65 2 u5 out.length (fieldCells out) := row_after hR3 (fun b cur hb => by
                refine (ht4.grown.block _ (lt_of_block hb) (fun e => ?_)).trans hb
                have e' : b = w.heap.size + 1 := by simpa using e
                subst e'
                obtain ⟨D, ⟨es, cl, he, _⟩, _⟩ := hW3.set
                rw [he] at hb; cases hb)
              obtain ⟨bb, ob, hab, hlb⟩ : ∃ b o, ab = some ⟨b, o, none⟩ ∧ b < w.heap.size := by
                obtain ⟨b', o', h1, h2, _⟩ := HCB.out.resolve_left (fun e => by rw [e] at hq; simp at hq)
                exact ⟨b', o', h1, h2⟩
              subst hab
              obtain ⟨d1, d2⟩ := HC2.out bb ob rfl q hq
              have e1 := hW4.cell d1
              have e2 := hW4.cell d2
              rw [hq2] at e1 e2
              have hgm : g ∈ xs ++ ys := List.mem_append_right _ (hq2 ▸ List.getElem_mem hq)
              have zg := HSZ.out g hgm
              have cG := fun w => clone_s g w zg.1 zg.2
              unfold fval at cG
              obtain ⟨gx, hgx⟩ : ∃ gx, gx = str g.1 := ⟨_, rfl⟩
              obtain ⟨gy, hgy⟩ : ∃ gy, gy = str g.2 := ⟨_, rfl⟩
              rw [← hgx] at e1 cG
              rw [← hgy] at e2 cG
              have HGX := Lib.hid hgx
              have HGY := Lib.hid hgy
              have hqi : (q : Int) < (k : Int) := by omega
              clear hp hp' hl hq1 hq2 hq hci d1 d2 hgm zg hgx hgy cC hS4 hS4' HC2 HCB
              go_upto_region 13 with fail
              clear f0 f1 g1 hlk hR hR1 hW hW1 c1 c2
              generalize w1.alloc (.cells #[] 107) = w3 at *
              obtain ⟨k0, k1, k2, k3⟩ := blk2 g4
              go_upto_region 18 with fail
              have g5 := set2 g4 (.string gx) (.string gy)
              have hW5 := (hW4.store hN 0 (.string gx)).store hN 1 (.string gy)
              have hR5 := row_set (row_set hR4 hown (u := .string gx) 0) hown (u := .string gy) 1
              clear g4 hR4 e1 e2 k0 k1 k2 k3 hlk2 hst ht4 g3 hW4 hown hW3 hR3
              generalize (w4.setCell ⟨wr.heap.size, 0, none⟩ (.string gx)).setCell ⟨wr.heap.size, 1, none⟩ (.string gy) = w5 at *
              obtain ⟨f0, f1, _, _⟩ := blk2 g5
              go_wp2_with fail
              refine (cG _).mono ?_
              rintro e w6 ⟨rfl, hb6⟩
              have hW6 := hW5.later hb6
              have hR6 := row_below hR5 hb6
              go_wp2_with (at_builtin; refine appRow hR6 hW6.size g hgl rfl _ _ rfl gx gy HGX.out HGY.out rfl rfl ?_; intro v' w7 hR7 hg7 ho7)
              go_roundw
              case rel => exact ⟨j + 1, np + 1, by omega, by go_num, by omega, by rw [HF.out, HP.out]; exact hR7, by rw [HF.out, HP.out]; exact (hW6.later ((Below.refl _ w6).alloc (Nat.le_refl _) _)).grown hg7 ho7⟩
              case measure => simp [intOf]; omega
        · have hE := Fld.take_whole (xs ++ ys) j (by have := HN.out; omega)
          rw [hE, Fld.wkf_all] at hR
          have hbf := hW.below hbw (Nat.le_succ _)
          clear hE
          go_wp2_with fail
          go_ret
          exact ⟨_, rfl, row_from hR hbw.size, hbf⟩
end Go.Proofs.YtlbjjeonchcgbaaGreatDoor
