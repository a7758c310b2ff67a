/- Package device: faults told; what a crash leaves. -/
import Derived.Test.YtjdmmnpfjbnhoaaDvP6
import Derived.Test.YtjdmmnpfjbnhoaaDvP4
import Derived.Deep.Upon
namespace Go.Proofs.Ytjdmmnpfjbnhoaa
open Go.RowKit

/-! ### whose blocks -/
def Own0 (g bs bv : Nat) (wv : Value) : Nat → Prop := fun k => k = g ∨ k = bs ∨ k = bv ∨ wv.ownBlock = some k
section
variable {w w' : World} {g n bs bv : Nat} {F F' : Nat → Prop} {wv fv cn cl : Value} {S V : List Dv.Sec} {W : List (Nat × Dv.Sec)}
theorem Med.own (h : Med w g F n bs bv wv fv cn cl S V W) : Med w g (Own0 g bs bv wv) n bs bv wv fv cn cl S V W :=
  ⟨h.blk, h.sure, h.seen, h.wait, h.ne, .inl rfl, .inr (.inl rfl), .inr (.inr (.inl rfl)), fun _ hk => .inr (.inr (.inr hk)), h.lS, h.lV, h.le, h.gS, h.gV, h.gW⟩
theorem Med.own_le (h : Med w g F n bs bv wv fv cn cl S V W) : ∀ k, Own0 g bs bv wv k → F k := by
  rintro k (rfl | rfl | rfl | hk)
  · exact h.hg
  · exact h.hs
  · exact h.hv
  · exact h.hw k hk
theorem Med.foot (h : Med w g F n bs bv wv fv cn cl S V W) (hF : ∀ k, Own0 g bs bv wv k → F' k) : Med w g F' n bs bv wv fv cn cl S V W := h.own.mono hF
theorem Fails.off {bad : List Int} {fv' : Value} (hf : Fails w F fv' bad) (h : Med w g F n bs bv wv fv cn cl S V W) (ht : Touch (Own0 g bs bv wv) w w') : Fails w' F fv' bad := by
  obtain ⟨zs, h1, h2, h3, h4, h5⟩ := hf
  refine ⟨zs, h1.keep fun hn k hk => ht.block k (h1.lt hn k hk) ?_, h2, h3, h4, h5⟩
  obtain ⟨ao, cap, hv, _, _, h6⟩ := h1
  obtain ⟨b, e, C, hC, _⟩ := h6.resolve_left hn
  rw [hv, e] at hk
  cases hk
  rintro (e9 | e9 | e9 | e9)
  · exact ne_block hC h.blk (by decide) e9
  · exact ne_block hC h.sure (by decide) e9
  · exact ne_block hC h.seen (by decide) e9
  · exact h.wait.ne hC (by decide) _ e9 rfl
end
theorem BsOut.anti {F F' : Nat → Prop} {w : World} {v : Value} {ls : List (List UInt8)} (h : BsOut F w v ls) (hF : ∀ k, F' k → F k) : BsOut F' w v ls := by
  obtain ⟨ao, cap, hv, h1, h2, h3⟩ := h
  refine ⟨ao, cap, hv, h1, h2, ?_⟩
  rcases h3 with h | ⟨b, o, e, hb, hn, hc⟩
  · exact .inl h
  · refine .inr ⟨b, o, e, hb, fun hf => hn (hF b hf), fun j hj => ?_⟩
    obtain ⟨u, hu, h4, h5, h6⟩ := hc j hj
    exact ⟨u, hu, h4, h5, fun ad n c e2 hl hf => h6 ad n c e2 hl (hF _ hf)⟩

/-! ### Fail -/
theorem int_info : (Try.prog.info? 3).map (fun i => (i.zero, i.size, i.bytes)) = some (some (.int .i64 0), 1, 8) := by kernel_rfl
theorem append_ints {F : Nat → Prop} (w : World) (ty : TypeId) (v : Value) (l : List Int) (h : IOut F w v l) (hl : l.length ≤ 100000) : ∃ v' w', (Builtin.append_ #[53, 53] ty #[.slice none 0 0, v]).run Try.prog w = .ok v' w' ∧ w'.ownsRow w.heap.size 3 1 v' l.length (l.map (Value.int .i64)) ∧ Below w.heap.size w w' := by
  obtain ⟨i0, hi, hz0, hz1, hz2⟩ := info_parts int_info
  obtain ⟨ao, cap, rfl, h1, h2, h3⟩ := h
  cases ao with
  | none =>
    have h0 : l = [] := by
      rcases h3 with h | ⟨b, o, h, _⟩
      · exact h
      · cases h
    subst h0
    have hr := run_append_nothing (P := Try.prog) w 53 53 ty 3 i0 Try.underlying53 hi none 0 0 (Nat.le_refl _) _ (Src.ofNil w Try.underlying53 cap)
    exact ⟨_, _, hr, World.ownsRow_nil _ _ _ _, Below.refl _ _⟩
  | some ad =>
    obtain ⟨v', w', hr, ho, hg, _⟩ := run_append_own (P := Try.prog) w w.heap.size 53 ty 3 i0 (.int .i64 0) 1 8 Try.underlying53 hi hz0 hz1 hz2 rfl (by decide) (.slice none 0 0) 0 [] (World.ownsRow_nil _ _ _ _) ad l.length cap (l.map (Value.int .i64)) (by simp) (fun j u hj => by
      rcases h3 with h | ⟨b, o, h, hb, hF, hc⟩
      · subst h; simp at hj
      · cases h
        have hjl : j < l.length := by have := (List.getElem?_eq_some_iff.1 hj).1; simpa using this
        rw [Addr.add_lit, hc j hjl, ← hj]
        simp [hjl]) (fun u hu => by obtain ⟨x, _, rfl⟩ := List.mem_map.1 hu; rfl) (by unfold maxLen; omega) (by omega) (Nat.le_refl _)
    rw [Nat.zero_add, List.nil_append] at ho
    exact ⟨v', w', hr, ho, ⟨hg.os, hg.tape, hg.output, hg.size, fun k hk => hg.block k hk (fun e => by cases e)⟩⟩
theorem wpList_append_ints {ops : Array Oper} {rest : List Oper} {o : Oper} {a : Act} {Q : Exit → Act → World → Prop} {F : Nat → Prop} {w : World} {v : Value} {l : List Int} (hgd : o.guard = none) (x : Operand)
    (ho : o.op = .call { callee := .builtin .append, args := #[.const (.slice none 0 0), x], argTypes := #[53, 53] }) (hx : a.eval x = v) (h : IOut F w v l) (hl : l.length ≤ 100000)
    (hK : ∀ v' w', w'.ownsRow w.heap.size 3 1 v' l.length (l.map (Value.int .i64)) → Below w.heap.size w w' → wpList Try.prog ops Q rest (a.put o.dst v') w') : wpList Try.prog ops Q (o :: rest) a w :=
  wpList_plain hgd fun K hk => by
    obtain ⟨v', w', hr, h2, h3⟩ := append_ints w o.type v l h hl
    unfold Oper.wp execOp
    have hc : a.eval (.const (.slice none 0 0)) = .slice none 0 0 := rfl
    simp only [ho, resolve, invoke, builtin, Sem.run_bind, Sem.run_pure, Result.andThen_ok, List.map_toArray, List.map_cons, List.map_nil, hc, hx, hr]
    exact hk _ _ (hK v' w' h2 h3)
def sorted (l : List Int) : List Int := l.mergeSort fun x y => decide (x ≤ y)
theorem sorted_length (l : List Int) : (sorted l).length = l.length := List.length_mergeSort l
theorem sorted_pairwise (l : List Int) : (sorted l).Pairwise (· ≤ ·) := by
  have := List.pairwise_mergeSort (le := fun x y : Int => decide (x ≤ y)) (fun a b c h1 h2 => by simp only [decide_eq_true_eq] at *; omega) (fun a b => by simp only [Bool.or_eq_true, decide_eq_true_eq]; omega) l
  exact this.imp (fun h => by simpa using h)
theorem sorted_contains (l : List Int) (x : Int) : (sorted l).contains x = l.contains x := by
  rw [Bool.eq_iff_iff]
  simp [sorted]
end Go.Proofs.Ytjdmmnpfjbnhoaa
