/- The program's package page: octets copied into a block of the call's own; Pack. -/
import Derived.Test.YtlipgphmhkjnpaaDoorPgW1
import Derived.Laws.CopyOwn
import Derived.OwnWalkIn
namespace Go.Proofs.YtlipgphmhkjnpaaDoor
open Go.RowKit

theorem byteCells_append (a b : List UInt8) : Lib.byteCells (a ++ b) = Lib.byteCells a ++ Lib.byteCells b := by simp [Lib.byteCells]
theorem byteCells_length (a : List UInt8) : (Lib.byteCells a).length = a.length := by simp [Lib.byteCells]
theorem splice_take {α : Type} (C p : List α) (off n : Nat) (h : off + p.length ≤ n) (hn : n ≤ C.length) :
    (C.take off ++ p ++ C.drop (off + p.length)).take n = (C.take n).take off ++ (p ++ (C.take n).drop (off + p.length)) := by
  have e1 : (C.take off).length = off := by rw [List.length_take]; omega
  rw [List.append_assoc, List.take_append, e1, List.take_append, List.take_of_length_le (by omega : (C.take off).length ≤ n), List.take_of_length_le (by omega : p.length ≤ n - off), List.take_take, Nat.min_eq_left (by omega), List.drop_take]
  rw [show n - off - p.length = n - (off + p.length) by omega]
/-- 'copy' of octets into a block of the call's own. -/
theorem copy_run {w : World} {g off dLen dCap : Nat} {dp : Option Addr} {u : Value} {p l : List UInt8} (hB : Blk w g l) (hu : BIn w u p) (hp : p.length ≤ dLen) (hfit : off + p.length ≤ l.length) (hdp : 0 < p.length → dp = some ⟨g, off, none⟩) :
    ∃ w', (Builtin.copy_ #[23, 23] 3 #[.slice dp dLen dCap, u]).run Tryd.prog w = .ok (goInt p.length) w' ∧ Blk w' g (l.take off ++ (p ++ l.drop (off + p.length))) ∧ (∀ (B : Nat) (a : World), Below B a w → B ≤ g → Below B a w') ∧
      (∀ k, k ≠ g → w'.heap[k]? = w.heap[k]?) ∧ w'.heap.size = w.heap.size := by
  obtain ⟨ao, cap, rfl, hlc, _, hg⟩ := hu
  have hsz : (Tryd.prog.info? 5).map (·.size) = some 1 := by kernel_rfl
  by_cases h0 : p.length = 0
  · obtain rfl : p = [] := List.eq_nil_of_length_eq_zero h0
    refine ⟨w, run_copy_none (P := Tryd.prog) w 23 23 3 5 dp ao dLen dCap 0 cap Tryd.underlying23 hsz (by simp), ?_, fun _ _ h _ => h, fun _ _ => rfl, rfl⟩
    rw [List.nil_append, List.length_nil, Nat.add_zero, List.take_append_drop]
    exact hB
  · obtain rfl := hdp (by omega)
    obtain ⟨b, o, rfl, hb, hc⟩ := hg.resolve_left (fun e => h0 (by rw [e]; rfl))
    obtain ⟨C, h1, h2, h3⟩ := hB
    have hrun := run_copy_row (P := Tryd.prog) w 23 23 3 5 g off dLen dCap ⟨b, o, none⟩ p.length cap C 5 (Lib.byteCells p) Tryd.underlying23 hsz h1 (by rw [byteCells_length]; show _ = min p.length dLen; omega)
      (fun j v hj => by
        have hjl : j < p.length := by rw [← byteCells_length]; exact (List.getElem?_eq_some_iff.1 hj).1
        rw [Addr.add_lit, hc j hjl, ← hj]
        simp [Lib.byteCells, hjl]) (by rw [byteCells_length]; omega) (fun v hv => by
        unfold Lib.byteCells at hv
        obtain ⟨x, _, rfl⟩ := List.mem_map.1 hv
        rfl)
    rw [byteCells_length] at hrun
    refine ⟨_, hrun, ⟨_, setRow_heap _ _ _ _ _ _ h1, ?_, ?_⟩, fun B a h hg => below_setRow h hg _, fun k hk => setRow_other w g k _ hk, by simp [World.setRow]⟩
    · simp only [List.length_append, List.length_take, List.length_drop, List.size_toArray, byteCells_length, Array.length_toList]
      omega
    · have hlen : (l.take off ++ (p ++ l.drop (off + p.length))).length = l.length := by simp only [List.length_append, List.length_take, List.length_drop]; omega
      have ht : (Lib.byteCells l).take off = Lib.byteCells (l.take off) := by simp [Lib.byteCells]
      have hd : (Lib.byteCells l).drop (off + p.length) = Lib.byteCells (l.drop (off + p.length)) := by simp [Lib.byteCells]
      rw [hlen, byteCells_append, byteCells_append, ← ht, ← hd, ← h3, List.toList_toArray]
      rw [← byteCells_length p]
      exact splice_take _ _ _ _ (by rw [byteCells_length]; omega) (by rw [Array.length_toList]; omega)
theorem wpList_copy_blk {ops : Array Oper} {rest : List Oper} {o : Oper} {a : Act} {w : World} {Q : Exit → Act → World → Prop} (hgd : o.guard = none) (d s : Operand)
    (ho : o.op = .call { callee := .builtin .copy, args := #[d, s], argTypes := #[23, 23] }) (hty : o.type = 3) {u v : Value} (hd : a.eval d = v) (hs : a.eval s = u) {x : Value} {w' : World}
    (hrun : (Builtin.copy_ #[23, 23] 3 #[v, u]).run Tryd.prog w = .ok x w') (h : wpList Tryd.prog ops Q rest (a.put o.dst x) w') : wpList Tryd.prog ops Q (o :: rest) a w := by
  refine wpList_plain hgd fun K hK => ?_
  unfold Oper.wp
  simp [execOp, ho, resolve, invoke, builtin, hd, hs, hrun, hty, Result.andThen]
  exact hK _ _ h
theorem wpListIn_copy_blk {F : Fence} {n : Nat} {ops : Array Oper} {rest : List Oper} {o : Oper} {a : Act} {w : World} {Q : Exit → Act → World → Prop} (hgd : o.guard = none) (d s : Operand)
    (ho : o.op = .call { callee := .builtin .copy, args := #[d, s], argTypes := #[23, 23] }) (hty : o.type = 3) {u v : Value} (hd : a.eval d = v) (hs : a.eval s = u) {x : Value} {w' : World}
    (hrun : (Builtin.copy_ #[23, 23] 3 #[v, u]).run Tryd.prog w = .ok x w') (h : wpListIn F n Tryd.prog ops Q rest (a.put o.dst x) w') : wpListIn F n Tryd.prog ops Q (o :: rest) a w := by
  refine wpListIn_plain hgd fun K hK => ?_
  unfold Oper.wpIn
  refine ⟨?_, ?_⟩
  · simp [Oper.about, ho, resolve, Target.leads, Sem.run_pure]
  · rw [Oper.semAt_plain F _ _ (by rw [ho]; intro c hc'; cases hc')]
    simp [execOp, ho, resolve, invoke, builtin, hd, hs, hrun, hty, Result.andThen]
    exact hK _ _ h
/-- The same as one step of a walk, the place given. -/
theorem wpList_copy_in {ops : Array Oper} {rest : List Oper} {o : Oper} {a : Act} {w : World} {Q : Exit → Act → World → Prop} (hgd : o.guard = none) (d s : Operand)
    (ho : o.op = .call { callee := .builtin .copy, args := #[d, s], argTypes := #[23, 23] }) (hty : o.type = 3) {dp : Option Addr} {dLen dCap : Nat} {u : Value} (hd : a.eval d = .slice dp dLen dCap) (hs : a.eval s = u)
    {g off : Nat} {p l : List UInt8} (hB : Blk w g l) (hu : BIn w u p) (hp : p.length ≤ dLen) (hfit : off + p.length ≤ l.length) (hdp : 0 < p.length → dp = some ⟨g, off, none⟩) {m : Nat} (hm : p.length = m)
    (h : ∀ w', Hid (Blk w' g (l.take off ++ (p ++ l.drop (off + p.length)))) → Hid ((∀ (B : Nat) (a : World), Below B a w → B ≤ g → Below B a w') ∧ (∀ k, k ≠ g → w'.heap[k]? = w.heap[k]?) ∧ w'.heap.size = w.heap.size) → wpList Tryd.prog ops Q rest (a.put o.dst (goInt m)) w') : wpList Tryd.prog ops Q (o :: rest) a w := by
  subst hm
  obtain ⟨w', hrun, h1, h2, h3, h4⟩ := copy_run (dCap := dCap) hB hu hp hfit hdp
  exact wpList_copy_blk hgd d s ho hty hd hs hrun (h w' (Lib.hid h1) (Lib.hid ⟨h2, h3, h4⟩))
theorem wpListIn_copy_in {F : Fence} {n : Nat} {ops : Array Oper} {rest : List Oper} {o : Oper} {a : Act} {w : World} {Q : Exit → Act → World → Prop} (hgd : o.guard = none) (d s : Operand)
    (ho : o.op = .call { callee := .builtin .copy, args := #[d, s], argTypes := #[23, 23] }) (hty : o.type = 3) {dp : Option Addr} {dLen dCap : Nat} {u : Value} (hd : a.eval d = .slice dp dLen dCap) (hs : a.eval s = u)
    {g off : Nat} {p l : List UInt8} (hB : Blk w g l) (hu : BIn w u p) (hp : p.length ≤ dLen) (hfit : off + p.length ≤ l.length) (hdp : 0 < p.length → dp = some ⟨g, off, none⟩) {m : Nat} (hm : p.length = m)
    (h : ∀ w', Hid (Blk w' g (l.take off ++ (p ++ l.drop (off + p.length)))) → Hid ((∀ (B : Nat) (a : World), Below B a w → B ≤ g → Below B a w') ∧ (∀ k, k ≠ g → w'.heap[k]? = w.heap[k]?) ∧ w'.heap.size = w.heap.size) → wpListIn F n Tryd.prog ops Q rest (a.put o.dst (goInt m)) w') : wpListIn F n Tryd.prog ops Q (o :: rest) a w := by
  subst hm
  obtain ⟨w', hrun, h1, h2, h3, h4⟩ := copy_run (dCap := dCap) hB hu hp hfit hdp
  exact wpListIn_copy_blk hgd d s ho hty hd hs hrun (h w' (Lib.hid h1) (Lib.hid ⟨h2, h3, h4⟩))
end Go.Proofs.YtlipgphmhkjnpaaDoor
