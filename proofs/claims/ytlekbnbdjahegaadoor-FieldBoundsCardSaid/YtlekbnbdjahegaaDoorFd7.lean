/- Package field: what fields have of a name; the others. -/
import Derived.Test.YtlekbnbdjahegaaDoorFd6
import Derived.Test.YtlekbnbdjahegaaDoorFdMathC
namespace Go.Proofs.YtlekbnbdjahegaaDoor
open Go.RowKit

/-- All blocks but rows of the type e lie as they did. -/
def Kept (e : TypeId) (w w' : World) : Prop := ∀ (k : Nat) (o : Obj), w.heap[k]? = some o → (∀ (cs : Array Value) (fz : Nat × Nat), o ≠ Obj.cells cs e fz) → w'.heap[k]? = some o
theorem kept_append {e : TypeId} {w w' : World} {o : Obj} {base s n : Nat} {v : Value} {xs : List Value} (hg : (w.alloc o).grownBy w' v.ownBlock) (hr : (w.alloc o).ownsRow base e s v n xs) : Kept e w w' := by
  intro k b hk hb
  have hk1 : (w.alloc o).heap[k]? = some b := by rw [Below.heap_alloc _ _ _ (lt_of_block hk)]; exact hk
  refine (hg.block k (lt_of_block hk1) (fun he => ?_)).trans hk1
  rcases hr.2 with ⟨hv, _⟩ | ⟨g, cap, cur, hv, _, hh, _⟩
  · rw [hv] at he; simp [Value.ownBlock] at he
  · rw [hv] at he
    have e' : k = g := by simpa [Value.ownBlock] using he
    subst e'
    rw [hh] at hk1
    exact hb _ _ (Option.some.inj hk1).symm
theorem NamesAt.kept {W w w' : World} {b g n : Nat} {mem : List UInt8 → Bool} (h : NamesAt W w b g n mem) {e : TypeId} (hk : Kept e w w') (he : 62 ≠ e) (hb : Below W.heap.size W w') : NamesAt W w' b g n mem := by
  refine ⟨hk _ _ h.var (fun cs fz hc => by injection hc with _ h2 _; exact he h2), h.set.later ?_, h.ne, h.bb, h.bg, hb⟩
  obtain ⟨D, ⟨es, clock, h1, _⟩, _⟩ := h.set
  rw [h1]
  exact hk _ _ h1 (fun cs fz hc => by cases hc)
theorem NamesAt.from_ {W W1 w : World} {b g n : Nat} {mem : List UInt8 → Bool} (h : NamesAt W1 w b g n mem) (hb : Below W.heap.size W W1) : NamesAt W w b g n mem :=
  ⟨h.var, h.set, h.ne, Nat.le_trans hb.size h.bb, Nat.le_trans hb.size h.bg, hb.trans (h.below.mono hb.size)⟩

/-- 'append(values, s)', with a word on the other blocks. -/
theorem appS2 {ops : Array Oper} {rest : List Oper} {o : Oper} {a : Act} {Q : Exit → Act → World → Prop} {W w : World} {v : Value} {ls : List (List UInt8)} (h : SBuf W w v ls) (l : List UInt8) (hlen : ls.length ≤ 100000000000)
    (hgd : o.guard = none) (s x : Operand) (ho : o.op = .call { callee := .builtin .append, args := #[s, x], argTypes := #[39, 39] })
    (t : ByteArray) (ht : t = str l) (hs : a.eval s = v) (hx : a.eval x = .slice (some ⟨w.heap.size, 0, none⟩) 1 1)
    (hK : ∀ v' w', SBuf W w' v' (ls ++ [l]) → Kept 9 w w' → wpList Tryd.prog ops Q rest (a.put o.dst v') w') : wpList Tryd.prog ops Q (o :: rest) a (w.alloc (.cells #[.string t] 9)) := by
  obtain ⟨i0, hi, hz0, hz1, hz2⟩ := info_parts strs_info
  have hA := h.after ((Below.refl _ w).alloc (Nat.le_refl _) (.cells #[.string t] 9))
  refine wpList_append_own _ hgd s x _ ho W.heap.size 9 i0 (.string ⟨#[]⟩) 1 16 Tryd.underlying39 hi hz0 hz1 hz2 rfl (by decide) v ls.length (strCells ls) hs hA.1 ⟨w.heap.size, 0, none⟩ 1 1 [.string t] hx rfl ?_ ?_ (by unfold maxLen; omega) (by omega) hA.2.size (fun v' w' h1 h2 h3 => ?_)
  · intro j u hj
    match j, hj with
    | 0, hj =>
      simp at hj; subst hj
      show (w.alloc (.cells #[.string t] 9)).cell? ⟨w.heap.size, 0 + 0, none⟩ = _
      rw [World.cell?_alloc_at _ _ _ _ rfl]; rfl
  · intro u hu; simp at hu; subst hu; rfl
  · refine hK v' w' ⟨?_, hA.2.grown h2 hA.2.size (fun k hk => (hA.1.lt k hk).1)⟩ (kept_append h2 hA.1)
    rw [strCells_snoc, ← ht]
    simpa using h1
/-- 'append(fs, f)', with a word on the other blocks. -/
theorem appF2 {ops : Array Oper} {rest : List Oper} {o : Oper} {a : Act} {Q : Exit → Act → World → Prop} {W w : World} {v : Value} {fs : List Fld.F} (h : FBuf W w v fs) (f : Fld.F) (hlen : fs.length ≤ 1000000000)
    (hgd : o.guard = none) (s x : Operand) (ho : o.op = .call { callee := .builtin .append, args := #[s, x], argTypes := #[24, 24] })
    (s0 s1 : ByteArray) (h0 : s0 = str f.1) (h1 : s1 = str f.2) (hs : a.eval s = v) (hx : a.eval x = .slice (some ⟨w.heap.size, 0, none⟩) 1 1)
    (hK : ∀ v' w', FBuf W w' v' (fs ++ [f]) → Kept 49 w w' → wpList Tryd.prog ops Q rest (a.put o.dst v') w') : wpList Tryd.prog ops Q (o :: rest) a (w.alloc (.cells #[.string s0, .string s1] 49)) := by
  subst h0 h1
  obtain ⟨i0, hi, hz0, hz1, hz2⟩ := info_parts fields_info
  have hA := h.after ((Below.refl _ w).alloc (Nat.le_refl _) (.cells #[.string (str f.1), .string (str f.2)] 49))
  refine wpList_append_own _ hgd s x _ ho W.heap.size 49 i0 _ 2 32 Tryd.underlying24 hi hz0 hz1 hz2 rfl (by decide) v fs.length (fieldCells fs) hs hA.1 ⟨w.heap.size, 0, none⟩ 1 1 (fieldCells [f]) hx rfl ?_ ?_ (by unfold maxLen; omega) (by omega) hA.2.size (fun v' w' h1 h2 _ => ?_)
  · intro j u hj
    match j, hj with
    | 0, hj =>
      simp [fieldCells] at hj; subst hj
      show (w.alloc (.cells #[.string (str f.1), .string (str f.2)] 49)).cell? ⟨w.heap.size, 0 + 0, none⟩ = _
      rw [World.cell?_alloc_at _ _ _ _ rfl]; rfl
    | 1, hj =>
      simp [fieldCells] at hj; subst hj
      show (w.alloc (.cells #[.string (str f.1), .string (str f.2)] 49)).cell? ⟨w.heap.size, 0 + 1, none⟩ = _
      rw [World.cell?_alloc_at _ _ _ _ rfl]; rfl
    | j + 2, hj => simp [fieldCells] at hj
  · intro u hu; simp [fieldCells] at hu; rcases hu with rfl | rfl <;> rfl
  · refine hK v' w' ⟨?_, hA.2.grown h2 hA.2.size (fun k hk => (hA.1.lt k hk).1)⟩ (kept_append h2 hA.1)
    rw [fieldCells_append, List.length_append]; exact h1

theorem sin_one (w : World) (t : ByteArray) (l : List UInt8) (ht : t = str l) : SIn (w.alloc (.cells #[.string t] 9)) (.slice (some ⟨w.heap.size, 0, none⟩) 1 1) [l] := by
  subst ht
  refine ⟨some ⟨w.heap.size, 0, none⟩, 1, rfl, .inr ⟨w.heap.size, 0, rfl, by simp, fun j hj => ?_⟩⟩
  obtain rfl : j = 0 := by simpa using hj
  show (w.alloc (.cells #[.string (str l)] 9)).cell? ⟨w.heap.size, 0 + 0, none⟩ = _
  rw [World.cell?_alloc_at _ _ _ _ rfl]; rfl
theorem inSet_one (n l : List UInt8) : inSet [n] l = (l == Oct.lower n) := by
  unfold inSet; rw [List.map_cons, List.contains_cons]; simp

set_option maxHeartbeats 1600000 in
set_option maxRecDepth 100000 in
theorem Get_w (va : Value) (xs : List Fld.F) (nm : List UInt8) (w : World) (ha : FIn w va xs) (hs : Small xs) (hn1 : nm.length ≤ 9223372036854775807) :
    Calls Tryd.prog 20 #[va, .string (str nm)] w fun e w' => ∃ v, e = .returned v ∧ SBuf w w' v (Fld.get xs nm) := by
  have hb0 : Below w.heap.size w (w.alloc (.cells #[.string (str nm)] 9)) := (Below.refl _ w).alloc (Nat.le_refl _) _
  have cA := among_w _ [nm] _ (sin_one w (str nm) nm rfl) (by show 1 ≤ 1000000; omega) (fun l hl => by simp at hl; subst hl; exact hn1)
  obtain ⟨mem, hmem⟩ : ∃ mem, mem = inSet [nm] := ⟨_, rfl⟩
  rw [← hmem] at cA
  have HM : Hid (∀ f, mem (Oct.lower f.1) = Fld.named nm f) := Lib.hid (fun f => by rw [hmem, inSet_one]; rfl)
  generalize str nm = sn at *
  obtain ⟨aa, ca, rfl, ha⟩ := ha
  obtain ⟨n, hn⟩ : ∃ n, n = xs.length := ⟨_, rfl⟩
  rw [← hn]
  have hn9 : n ≤ 1000000 := by have := hs.1; omega
  have HN := Lib.hid hn
  have HS := Lib.hid hs
  by_cases hz : n = 0
  · subst hz
    have hx : xs = [] := List.eq_nil_of_length_eq_zero hn.symm
    have HX := Lib.hid hx
    clear hn ha hs hx hmem hn1
    go_enter Tryd.func20, Tryd.ntmps20
    go_wp2_with (go_at_call 31; refine cA.mono ?_; rintro e w1 ⟨b, g, rfl, hN⟩)
    refine wp_loop_rounds 1 ?_
    rw [rounds_succ]
    go_wp2_with fail
    go_ret
    exact ⟨_, rfl, by rw [HX.out]; exact ⟨World.ownsRow_nil _ _ _ _, (hN.from_ hb0).below⟩⟩
  obtain ⟨ba, oa, rfl, hC⟩ := Cells.of hn hz ha
  have HC := Lib.hid hC
  clear ha hn hz hC hs hmem hn1
  go_enter Tryd.func20, Tryd.ntmps20
  go_wp2_with (go_at_call 31; refine cA.mono ?_; rintro e w1 ⟨b, g, rfl, hN⟩)
  have hN0 := hN.from_ hb0
  clear cA hN hb0
  go_loopw [5, 8, 14] (fun v _ i wr => ∃ k : Nat, k ≤ n ∧ i = .int .i64 k ∧ SBuf w wr v (Fld.get (xs.take k) nm) ∧ NamesAt w wr b g 1 mem) (fun _ _ i _ => n - (intOf i).toNat)
  case atStart => exact ⟨0, by omega, rfl, ⟨World.ownsRow_nil _ _ _ _, hN0.below⟩, hN0⟩
  case round =>
    obtain ⟨k, hk, rfl, hB, hN⟩ := hrel
    clear hN0
    by_cases hlt : k < n
    · have ka : k < xs.length := by have := HN.out; omega
      obtain ⟨c1, c2⟩ := HC.out.at_ hB.2 k hlt ka
      have z := HS.out.at_ k ka
      have hN1 := hN.later ((Below.refl _ wr).alloc (Nat.le_refl _) (.cells #[.string (str xs[k].1), .string (str xs[k].2)] 49))
      have cM := among1_c w xs[k] b g 1 mem _ hN1 z.1
      rw [HM.out xs[k]] at cM
      unfold fval at cM
      have cC := fun w => Clone_s (str xs[k].2) w (by rw [str_size]; exact z.2)
      have hgl : (Fld.get (xs.take k) nm).length ≤ 100000000000 := by
        have := Fld.get_length (xs.take k) nm; rw [List.length_take] at this; omega
      obtain ⟨x, hx⟩ : ∃ x, x = str xs[k].1 := ⟨_, rfl⟩
      obtain ⟨y, hy⟩ : ∃ y, y = str xs[k].2 := ⟨_, rfl⟩
      rw [← hx] at c1 cM hN1
      rw [← hy] at c2 cM hN1 cC
      have HY := Lib.hid hy
      clear hx hy z
      by_cases hp : Fld.named nm xs[k] = true
      · have HG := Lib.hid (Fld.get_yes ka hp)
        rw [hp] at cM
        clear hp
        go_wp2_with fail
        refine cM.mono ?_
        rintro e w2 ⟨rfl, hb2⟩
        obtain ⟨f0, f1, hb3⟩ := fcell hb2
        go_wp2_with fail
        refine (cC _).mono ?_
        rintro e w3 ⟨rfl, hb4⟩
        have hb5 := hb3.trans (hb4.mono hb3.size)
        have hB2 := hB.after hb5
        have hN2 := hN.later hb5
        go_wp2_with (at_builtin; refine appS2 hB2 xs[k].2 hgl rfl _ _ rfl y HY.out rfl rfl ?_; intro v' w4 hB4 hK4)
        go_roundw
        case rel => exact ⟨k + 1, by omega, by go_num, by rw [HG.out]; exact hB4, hN2.kept hK4 (by decide) hB4.2⟩
        case measure => simp [intOf]; omega
      · have hp' : Fld.named nm xs[k] = false := by simpa using hp
        have HG := Lib.hid (Fld.get_no ka hp')
        rw [hp'] at cM
        clear hp hp'
        go_wp2_with fail
        refine cM.mono ?_
        rintro e w2 ⟨rfl, hb2⟩
        obtain ⟨f0, f1, hb3⟩ := fcell hb2
        go_wp2_with fail
        go_roundw
        case rel => exact ⟨k + 1, by omega, by go_num, by rw [HG.out]; exact hB.after hb3, hN.later hb3⟩
        case measure => simp [intOf]; omega
    · have hE := Fld.take_whole xs k (by have := HN.out; omega)
      rw [hE] at hB
      clear hE
      go_wp2_with fail
      go_ret
      exact ⟨_, rfl, hB⟩

end Go.Proofs.YtlekbnbdjahegaaDoor
