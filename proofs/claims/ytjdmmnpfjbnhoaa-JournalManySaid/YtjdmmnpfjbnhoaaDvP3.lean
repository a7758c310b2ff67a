/- Package device: writes are laid to wait. -/
import Derived.Test.YtjdmmnpfjbnhoaaDvP2
import Derived.Test.YtjdmmnpfjbnhoaaHeld
import Derived.Test.YtjdmmnpfjbnhoaaTail
import Derived.Great.BuildSlice
import Derived.Great.Walk
import Derived.Deep.RegionHeld3
namespace Dv
theorem sees_more (d : S) (a : Nat) (ls : List Sec) (k : Nat) (hk : k < ls.length) : ({ d with wait := d.wait ++ lay a (ls.take (k + 1)) } : S) = { d with wait := (d.wait ++ lay a (ls.take k)) ++ [(a + k, ls[k])] } := by
  rw [List.take_succ_eq_append_getElem hk, lay_snoc, List.length_take, Nat.min_eq_left (Nat.le_of_lt hk), List.append_assoc]
end Dv
namespace Go.Proofs.Ytjdmmnpfjbnhoaa
open Go.RowKit

theorem Below.row {n : Nat} {W w : World} {g : Nat} (h : Below n W w) (hg : n ≤ g) (cs : Array Value) : Below n W (w.setRow g cs) := by
  refine h.trans ⟨rfl, rfl, rfl, by simp [World.setRow], fun k hk => ?_⟩
  have hne : g ≠ k := by omega
  simp [World.setRow, Array.getElem?_modify, hne]
/-- All of a part written anew. -/
theorem fold_set (l : List Value) : ∀ (n : Nat) (Z : Array Value), n + l.length = Z.size → ((l.zipIdx n).foldl (fun cs x => cs.setIfInBounds (0 + x.2) x.1) Z) = (Z.toList.take n ++ l).toArray := by
  induction l with
  | nil =>
    intro n Z h
    have : Z.toList.take n = Z.toList := List.take_of_length_le (by simp at h ⊢; omega)
    simp [this]
  | cons x l ih =>
    intro n Z h
    rw [List.zipIdx_cons, List.foldl_cons, ih (n + 1) _ (by simp at h ⊢; omega)]
    have hn : n < Z.toList.length := by simp at h ⊢; omega
    congr 1
    rw [Nat.zero_add, Array.toList_setIfInBounds, List.take_add_one, List.getElem?_set_self hn, List.take_set_of_le (Nat.le_refl n)]
    simp
theorem fill_one (c : Nat) (Z cc : Array Value) (hZ : Z.size = c) (hc : cc.size = c) : Instr.fill (fun i => some (i * c, c)) Z [(0, .agg cc)] = some cc := by
  unfold Instr.fill Instr.fill
  simp only [Value.cells, Nat.zero_mul, hc, hZ]
  rw [if_neg (by simp)]
  have h := fold_set cc.toList 0 Z (by simp; omega)
  rw [← Array.foldl_toList, Array.toList_zipIdx, h]
  simp
theorem exec_seg {P : Program} {o : Oper} {a : Act} {w : World} {T : TypeId} {x : Operand} (ho : o.op = .load T x) (ad : Addr) (hx : a.eval x = .pointer (some ad)) (cs : Array Value) (d : TypeDesc) (hc : ∀ j v, cs.toList[j]? = some v → w.cell? (ad.add j) = some v)
    (hu : P.underlying T = some d) (hd : (match d with | .struct _ | .array _ _ => true | _ => false) = true) (hi : (P.info? T).map (·.size) = some cs.size) : (execOp a.eval o).run P w = .ok (.value (.agg cs)) w := by
  unfold execOp
  simp only [ho, hx, Instr.loadAt, Instr.sureAddr, Sem.run_bind, Sem.run_pure, Result.andThen_ok, run_loadVar_seg w ad T cs d hc hu hd hi]
theorem load_waits {w : World} {g k : Nat} {x : Option Addr} {l c : Nat} (h : w.cell? ⟨g, k, none⟩ = some (.slice x l c)) : (Instr.loadAt 49 (.pointer (some ⟨g, k, none⟩))).run Try.prog w = .ok (.slice x l c) w := by go_simp
theorem store_waits {w : World} {g k : Nat} {u : Value} {x : Option Addr} {l c : Nat} (h : w.cell? ⟨g, k, none⟩ = some u) (hf : w.frozen? ⟨g, k, none⟩ = false) : (Instr.storeAt 49 (.pointer (some ⟨g, k, none⟩)) (.slice x l c)).run Try.prog w = .ok () (w.setCell ⟨g, k, none⟩ (.slice x l c)) := by go_simp
theorem write_info : (Try.prog.info? 102).map (fun i => (i.zero.map (·.cells.size), i.size, decide (i.bytes ≤ 1000))) = some (some 65, 65, true) := by kernel_rfl
/-- What a row of sectors holds at a place, in a later world. -/
theorem BsOut.at_ {F : Nat → Prop} {w wr : World} {v : Value} {ls : List (List UInt8)} (h : BsOut F w v ls) (ht : ∀ k, k < w.heap.size → ¬ F k → wr.heap[k]? = w.heap[k]?) (k : Nat) (hk : k < ls.length) (h64 : ls[k].length = 64) :
    ∃ b o cap bk ok ck, v = .slice (some ⟨b, o, none⟩) ls.length cap ∧ ls.length ≤ cap ∧ wr.cell? ⟨b, o + k, none⟩ = some (.slice (some ⟨bk, ok, none⟩) 64 ck) ∧ 64 ≤ ck ∧ ck ≤ 9223372036854775807 ∧ bk < w.heap.size ∧ (∀ j u, (Lib.byteCells ls[k])[j]? = some u → wr.cell? ((⟨bk, ok, none⟩ : Addr).add j) = some u) := by
  obtain ⟨ao, cap, hv, h1, h2, h3⟩ := h
  rcases h3 with h | ⟨b, o, e, hb, hF, hc⟩
  · subst h; cases hk
  · obtain ⟨u, hu, ⟨au, cu, hue, h4, h5, h6⟩, hn, hFu⟩ := hc k hk
    have hne : ls[k] ≠ [] := fun e => by rw [e] at h64; cases h64
    rcases h6 with h | ⟨bk, ok, e2, hbk, hck⟩
    · exact absurd h hne
    · subst e e2
      refine ⟨b, o, cap, bk, ok, cu, hv, h1, ?_, by omega, h5, hbk, fun j x hj => ?_⟩
      · rw [World.cell?_of_block (a := ⟨b, o + k, none⟩) (ht b hb hF), hu, hue, h64]
      · have hj64 : j < ls[k].length := by
          have := (List.getElem?_eq_some_iff.1 hj).1
          rw [Lib.byteCells_length] at this; exact this
        rw [Addr.add_lit, World.cell?_of_block (a := ⟨bk, ok + j, none⟩) (ht bk hbk (hFu _ _ _ hue hne)), hck j hj64, ← hj]
        simp [Lib.byteCells, hj64]

/-- 'var x T', boxed. -/
theorem run_alloc_zero {P : Program} (w : World) (ty : TypeId) (z : Array Value) (hz : ((P.info? ty).bind (·.zero)).map (·.cells) = some z) : (Instr.alloc ty true (.tuple #[])).run P w = .ok (.pointer (some ⟨w.heap.size, 0, none⟩)) (w.alloc (.cells z ty)) := by
  cases hi : P.info? ty with
  | none => rw [hi] at hz; cases hz
  | some i =>
    cases hzz : i.zero with
    | none => rw [hi] at hz; simp [hzz] at hz
    | some y =>
      have e : y.cells = z := by rw [hi] at hz; simpa [hzz] using hz
      subst e
      simp [Instr.alloc, zeroValue, typeInfo, hi, hzz, newVar, newRow]
theorem wpList_alloc_zero {P : Program} {ops : Array Oper} {rest : List Oper} {o : Oper} {a : Act} {w : World} {Q : Exit → Act → World → Prop} (hgd : o.guard = none) (ty : TypeId) (ho : o.op = .alloc ty) (z : Array Value) (hz : ((P.info? ty).bind (·.zero)).map (·.cells) = some z)
    (h : wpList P ops Q rest (a.put o.dst (.pointer (some ⟨w.heap.size, 0, none⟩))) (w.alloc (.cells z ty))) : wpList P ops Q (o :: rest) a w :=
  wpList_plain hgd fun K hK => by
    unfold Oper.wp execOp
    simp only [ho, Sem.run_bind, Sem.run_pure, Result.andThen_ok, run_alloc_zero w ty z hz]
    exact hK _ _ h
theorem wpList_copy_to {P : Program} {w : World} {ops : Array Oper} {rest : List Oper} {o : Oper} {a : Act} {Q : Exit → Act → World → Prop} (hgd : o.guard = none) (d s : Operand) (dT sT : TypeId)
    (ho : o.op = .call { callee := .builtin .copy, args := #[d, s], argTypes := #[dT, sT] }) (elem : TypeId) (hu : P.underlying dT = some (.slice elem)) (hsz : (P.info? elem).map (·.size) = some 1)
    (g off dLen dCap : Nat) (ad : Addr) (sLen sCap : Nat) (hd : a.eval d = .slice (some ⟨g, off, none⟩) dLen dCap) (hs : a.eval s = .slice (some ad) sLen sCap)
    (cur : Array Value) (t : TypeId) (hg : w.heap[g]? = some (.cells cur t (0, 0))) (cs : List Value) (hn : cs.length = Nat.min sLen dLen)
    (hsrc : ∀ j v, cs[j]? = some v → w.cell? (ad.add j) = some v) (hfit : off + cs.length ≤ cur.size) (h1 : ∀ v ∈ cs, v.oneCell' = true) (cx : Array Value) (hcx : (cur.toList.take off ++ (cs ++ cur.toList.drop (off + cs.length))).toArray = cx) (n : Nat) (hl : cs.length = n)
    (h : wpList P ops Q rest (a.put o.dst (goInt n)) (w.setRow g cx)) : wpList P ops Q (o :: rest) a w := by
  subst hcx hl
  exact wpList_copy_own hgd d s dT sT ho elem hu hsz g off dLen dCap ad sLen sCap hd hs cur t hg cs hn hsrc hfit h1 h
theorem wpList_store_to {P : Program} {ops : Array Oper} {rest : List Oper} {o : Oper} {a : Act} {w : World} {Q : Exit → Act → World → Prop} (hgd : o.guard = none) (ty : TypeId) (x y : Operand) (ho : o.op = .store ty x y)
    (g off : Nat) (cells : Array Value) (hx : a.eval x = .pointer (some ⟨g, off, none⟩)) (hy : a.eval y = .agg cells)
    (t : TypeId) (old : Array Value) (hg : w.heap[g]? = some (.cells old t (0, 0))) (hi : (P.info? ty).map (·.size) = some cells.size)
    (hold : off + cells.size ≤ old.size) (h1 : ∀ v ∈ cells.toList, v.oneCell' = true) (R : Array Value) (hR : (old.toList.take off ++ cells.toList ++ old.toList.drop (off + cells.toList.length)).toArray = R)
    (h : wpList P ops Q rest (a.put o.dst undef) (w.setRow g R)) : wpList P ops Q (o :: rest) a w := by
  subst hR
  exact wpList_store_seg hgd ty x y ho g off cells hx hy t old hg hi hold h1 h
theorem write_zero : ((Try.prog.info? 102).bind (·.zero)).map (·.cells) = some (wcells (0, List.replicate 64 0)).toArray := by kernel_rfl
theorem write_built (p : Nat) : Try.prog.built 102 [(1, .int .i64 (p : Int))] = some (wcells (p, List.replicate 64 0)).toArray := by kernel_rfl
theorem write_size : (Try.prog.info? 102).map (·.size) = some 65 := by kernel_rfl
theorem sector_size : (Try.prog.info? 100).map (·.size) = some 64 := by kernel_rfl

theorem exec_blk {P : Program} {o : Oper} {a : Act} {w : World} {T : TypeId} {x : Operand} (ho : o.op = .load T x) (g : Nat) (hx : a.eval x = .pointer (some ⟨g, 0, none⟩)) (t : TypeId) (cs : Array Value) (fr : Nat × Nat) (d : TypeDesc) (hg : w.heap[g]? = some (.cells cs t fr))
    (hu : P.underlying T = some d) (hd : (match d with | .struct _ | .array _ _ => true | _ => false) = true) (hi : (P.info? T).map (·.size) = some cs.size) : (execOp a.eval o).run P w = .ok (.value (.agg cs)) w := by
  unfold execOp
  simp only [ho, hx, Instr.loadAt, Instr.sureAddr, Sem.run_bind, Sem.run_pure, Result.andThen_ok, run_loadVar_row w g t T cs fr d hg hu hd hi]
theorem exec_built {o : Oper} {a : Act} {x : Operand} (ho : o.op = .buildSlice 49 1 #[(0, x)]) (w : World) (cx : Array Value) (hc : cx.size = 65) (hx : a.eval x = .agg cx) :
    (execOp a.eval o).run Try.prog w = .ok (.value (.slice (some ⟨w.heap.size, 0, none⟩) 1 1)) (w.alloc (.cells cx 102)) := by
  have h9 := write_info
  cases hi : Try.prog.info? 102 with
  | none => rw [hi] at h9; cases h9
  | some ii =>
    rw [hi] at h9
    simp only [Option.map_some, Option.some.injEq, Prod.mk.injEq, decide_eq_true_eq] at h9
    obtain ⟨h1, h2, _⟩ := h9
    cases hz : ii.zero with
    | none => rw [hz] at h1; cases h1
    | some z =>
      have hf : Instr.fill (fun i => some (i * ii.size, ii.size)) ((Array.range (1 * ii.size)).map (z.cells[· % z.cells.size]!)) (#[(0, Value.agg cx)]).toList = some cx := by
        rw [h2]; exact fill_one 65 _ cx (by simp) hc
      have hr := run_buildSlice (P := Try.prog) w 49 102 1 #[(0, .agg cx)] cx ii z Try.underlying49 hi hz (by rw [h2]; decide) (by rw [h2]; decide) hf
      unfold execOp
      simp only [ho, List.map_toArray, List.map_cons, List.map_nil, hx, Sem.run_bind, hr, Result.andThen_ok, Sem.run_pure]
theorem wp_store_one {P : Program} {o : Oper} {a : Act} {w w' : World} {K : Act → World → Prop} {Q : Exit → Act → World → Prop} {T : TypeId} {x y : Operand} {p v : Value} (ho : o.op = .store T x y) (hx : a.eval x = p) (hy : a.eval y = v) (hr : (Instr.storeAt T p v).run P w = .ok () w') (h : K (a.put o.dst undef) w') : o.wp P a w K Q := by
  unfold Oper.wp execOp
  simp only [ho, hx, hy, Sem.run_bind, hr, Result.andThen_ok, Sem.run_pure]
  exact h
/-- An append's row lies where it lay, or in new memory. -/
theorem run_append_whose {P : Program} (w : World) (t ty e : TypeId) (i : TypeInfo) (z : Value) (size bytes : Nat) (ht : P.underlying t = some (.slice e)) (hi : P.info? e = some i) (hz : i.zero = some z)
    (hsize : i.size = size) (hby : i.bytes = bytes) (hzs : z.cells.size = size) (hsz : 0 < size)
    (v : Value) (n : Nat) (xs : List Value) (hown : w.ownsRow 0 e size v n xs)
    (a : Addr) (m c : Nat) (news : List Value) (hl : news.length = m * size) (hnews : ∀ j u, news[j]? = some u → w.cell? (a.add j) = some u) (h1 : ∀ u ∈ news, u.oneCell' = true)
    (h63 : n + m ≤ maxLen) (hbytes : (n + m) * bytes ≤ 140737488355328) :
    ∃ v' w', (Builtin.append_ #[t, t] ty #[v, .slice (some a) m c]).run P w = .ok v' w' ∧ w'.ownsRow 0 e size v' (n + m) (xs ++ news) ∧ w.grownBy w' v.ownBlock ∧ ∀ k, v'.ownBlock = some k → v.ownBlock = some k ∨ w.heap.size ≤ k := by
  obtain ⟨v', w', hr, h2, h3, _⟩ := run_append_own (P := P) w 0 t ty e i z size bytes ht hi hz hsize hby hzs hsz v n xs hown a m c news hl hnews h1 h63 hbytes (Nat.zero_le _)
  refine ⟨v', w', hr, h2, h3, fun k hk => ?_⟩
  rcases hown.2 with ⟨rfl, rfl⟩ | ⟨g, cap, cur, rfl, hbg, hg, hnc, hcm, hcs, htake⟩
  · obtain ⟨v2, w2, hr2, h4, _⟩ := run_append_own (P := P) w w.heap.size t ty e i z size bytes ht hi hz hsize hby hzs hsz _ 0 [] (World.ownsRow_nil w _ e size) a m c news hl hnews h1 h63 hbytes (Nat.le_refl _)
    rw [hr] at hr2
    injection hr2 with e1 e2
    subst e1 e2
    exact .inr (h4.lt k hk).1
  · subst hsize hby
    by_cases hroom : n + m ≤ cap
    · have hfit : n * i.size + news.length ≤ cur.size := by rw [hl, hcs, ← Nat.add_mul]; exact Nat.mul_le_mul_right _ hroom
      have hr2 := run_append_room (P := P) w t ty e i ht hi g n cap cur hg a m c news hl hnews h1 hroom hfit
      rw [hr] at hr2
      injection hr2 with e1 e2
      subst e1
      exact .inl hk
    · have holds : ∀ j u, xs[j]? = some u → w.cell? ((⟨g, 0, none⟩ : Addr).add j) = some u := hown.cells (g := g) rfl
      have hr2 := run_append_grow (P := P) w t ty e i z ht hi hz ⟨g, 0, none⟩ n cap xs hown.1 holds a m c news hl hnews (by omega) (by unfold maxLen at h63; omega) (growslice_fits (by omega) hbytes)
      rw [hr] at hr2
      injection hr2 with e1 e2
      subst e1
      cases hk
      exact .inr (Nat.le_refl _)
theorem wp_append_whose {P : Program} (w : World) {o : Oper} {a : Act} {K : Act → World → Prop} {Q : Exit → Act → World → Prop} (s x : Operand) (t : TypeId)
    (ho : o.op = .call { callee := .builtin .append, args := #[s, x], argTypes := #[t, t] })
    (e : TypeId) (i : TypeInfo) (z : Value) (size bytes : Nat) (ht : P.underlying t = some (.slice e)) (hi : P.info? e = some i) (hz : i.zero = some z)
    (hsize : i.size = size) (hby : i.bytes = bytes) (hzs : z.cells.size = size) (hsz : 0 < size)
    (v : Value) (n : Nat) (xs : List Value) (hs : a.eval s = v) (hown : w.ownsRow 0 e size v n xs)
    (ad : Addr) (m c : Nat) (news : List Value) (hx : a.eval x = .slice (some ad) m c) (hl : news.length = m * size) (hnews : ∀ j u, news[j]? = some u → w.cell? (ad.add j) = some u) (h1 : ∀ u ∈ news, u.oneCell' = true)
    (h63 : n + m ≤ maxLen) (hbytes : (n + m) * bytes ≤ 140737488355328)
    (h : ∀ v' w', w'.ownsRow 0 e size v' (n + m) (xs ++ news) → w.grownBy w' v.ownBlock → (∀ k, v'.ownBlock = some k → v.ownBlock = some k ∨ w.heap.size ≤ k) → K (a.put o.dst v') w') : o.wp P a w K Q := by
  obtain ⟨v', w', hr, h2, h3, h4⟩ := run_append_whose (P := P) w t o.type e i z size bytes ht hi hz hsize hby hzs hsz v n xs hown ad m c news hl hnews h1 h63 hbytes
  unfold Oper.wp execOp
  simp only [ho, resolve, invoke, builtin, Sem.run_bind, Sem.run_pure, Result.andThen_ok, List.map_toArray, List.map_cons, List.map_nil, hs, hx, hr]
  exact h v' w' h2 h3 h4
/-- Behind an append onto the waits: all but them is as it was. -/
theorem Med.grown_waits {w w' : World} {g n bs bv : Nat} {F : Nat → Prop} {wv fv cn cl : Value} {S V : List Dv.Sec} {W : List (Nat × Dv.Sec)} (h : Med w g F n bs bv wv fv cn cl S V W) (hg : w.grownBy w' wv.ownBlock) (_hF : True) :
    w'.cell? ⟨g, 2, none⟩ = some wv ∧ w'.frozen? ⟨g, 2, none⟩ = false ∧ ∀ (wv' : Value) (W' : List (Nat × Dv.Sec)), Wts w' wv' W' → (∀ k, wv'.ownBlock = some k → F k) → (∀ x ∈ W', x.1 < n ∧ x.2.length = 64) → Med (w'.setCell ⟨g, 2, none⟩ wv') g F n bs bv wv' fv cn cl S V W' := by
  have kg : w'.heap[g]? = w.heap[g]? := hg.block g (lt_of_block h.blk) (fun e => h.wait.ne h.blk (by decide) g e.symm rfl)
  have ks : w'.heap[bs]? = w.heap[bs]? := hg.block bs (lt_of_block h.sure) (fun e => h.wait.ne h.sure (by decide) bs e.symm rfl)
  have kv : w'.heap[bv]? = w.heap[bv]? := hg.block bv (lt_of_block h.seen) (fun e => h.wait.ne h.seen (by decide) bv e.symm rfl)
  have hb : w'.heap[g]? = _ := kg.trans h.blk
  refine ⟨(blk_cell hb 2 _ rfl).1, (blk_cell hb 2 _ rfl).2, fun wv' W' hW hF hl => ?_⟩
  have hk : ∀ k, k ≠ g → (w'.setCell ⟨g, 2, none⟩ wv').heap[k]? = w'.heap[k]? := fun k hk => heap_setCell_other w' ⟨g, 2, none⟩ k wv' hk
  exact ⟨heap_setCell_same w' g 2 _ _ wv' hb, h.sure.keep ((hk bs (Ne.symm h.gs.1)).trans ks), h.seen.keep ((hk bv (Ne.symm h.gs.2)).trans kv), hW.keep (fun k hv => hk k (hW.ne hb (by decide) k hv)), h.ne, h.hg, h.hs, h.hv, hF, h.lS, h.lV, h.le, h.gS, h.gV, hl⟩

set_option maxHeartbeats 3200000 in
set_option maxRecDepth 100000 in
theorem put_w (w : World) (g : Nat) (F : Nat → Prop) (n bs bv : Nat) (wv fv cn cl : Value) (d : Dv.S) (a : Nat) (ls : List Dv.Sec) (v : Value) (h : Med w g F n bs bv wv fv cn cl d.safe (Dv.sees d) d.wait) (hv : BsOut F w v ls)
    (hls : ∀ x ∈ ls, x.length = 64) (hat : a + ls.length ≤ n) (hW : d.wait.length ≤ 100000) (hl : ls.length ≤ 1000) :
    Calls Try.prog 67 #[.pointer (some ⟨g, 0, none⟩), .int .i64 (a : Int), v] w fun e w' => e = .returned (.tuple #[]) ∧ Touch (fun k => F k ∨ w.heap.size ≤ k) w w' ∧ ∃ wv', Med w' g (fun k => F k ∨ w.heap.size ≤ k) n bs bv wv' fv cn cl d.safe (Dv.sees { d with wait := d.wait ++ Dv.lay a ls }) (d.wait ++ Dv.lay a ls) := by
  obtain ⟨G, hG⟩ : ∃ G : Nat → Prop, G = fun k => F k ∨ w.heap.size ≤ k := ⟨_, rfl⟩
  rw [← hG]
  have HGn : Hid (∀ k, w.heap.size ≤ k → G k) := Lib.hid (fun k hk => by rw [hG]; exact .inr hk)
  have hM0 : Med w g G n bs bv wv fv cn cl d.safe (Dv.sees d) d.wait := h.mono (fun k hk => by rw [hG]; exact .inl hk)
  have HAT := Lib.hid (fun (wr : World) (ht : Touch G w wr) (k : Nat) (hk : k < ls.length) => hv.at_ (wr := wr) (fun j hj hF => ht.block j hj (fun hg => by rw [hG] at hg; rcases hg with h | h; exact hF h; omega)) k hk (hls _ (List.getElem_mem hk)))
  have HLS := Lib.hid hls
  obtain ⟨av, cv, rfl, hcv, hcv9, _⟩ := id hv
  obtain ⟨m, hm⟩ : ∃ m, m = ls.length := ⟨_, rfl⟩
  have HM := Lib.hid hm
  rw [← hm] at hat hl hcv ⊢
  have hn9 := h.le
  have HZ : Hid (Dv.sees { d with wait := d.wait ++ Dv.lay a (ls.take 0) } = Dv.sees d ∧ d.wait ++ Dv.lay a (ls.take 0) = d.wait) := Lib.hid (by simp [Dv.lay])
  clear hv hls hm hG h
  go_enter Try.func67, Try.ntmps67
  go_wp2_with fail
  go_loopw [11] (fun i wr => ∃ k : Nat, k ≤ m ∧ i = .int .i64 k ∧ Touch G w wr ∧ ∃ wv', Med wr g G n bs bv wv' fv cn cl d.safe (Dv.sees { d with wait := d.wait ++ Dv.lay a (ls.take k) }) (d.wait ++ Dv.lay a (ls.take k))) (fun i _ => m - (intOf i).toNat)
  case atStart => exact ⟨0, Nat.zero_le _, rfl, Touch.refl _ _, wv, by rw [HZ.out.1, HZ.out.2]; exact hM0⟩
  case round =>
    clear hM0 wv
    obtain ⟨k, hk, rfl, ht, wv, hM⟩ := hrel
    by_cases hlt : k < m
    · have hki : (k : Int) < m := by omega
      have hkl : k < ls.length := by rw [← HM.out]; exact hlt
      obtain ⟨b, o, cap, bk, ok, ck, hve, hc1, hc2, hck, hck9, hbk, hsrc⟩ := HAT.out wr ht k hkl
      rw [← HM.out] at hve
      cases hve
      have HM0 := Lib.hid hM
      have HT := Lib.hid ht
      obtain ⟨p, hp⟩ : ∃ p, p = a + k := ⟨_, rfl⟩
      have hw1 : IntKind.i64.wrap ((a : Int) + k) = (p : Int) := by rw [IntKind.wrap_i64]; omega
      have HP := Lib.hid hp
      have hpn : p < n := by omega
      have hz : (wcells (p, List.replicate 64 0)).toArray.size = 65 := by rw [List.size_toArray, wcells_length (by simp)]
      have hy : (wcells (0, List.replicate 64 0)).toArray.size = 65 := by rw [List.size_toArray, wcells_length (by simp)]
      have hz1 : (wcells (p, List.replicate 64 0)).toArray.all (·.oneCell') = true := Array.all_eq_true_iff_forall_mem.2 (fun v hv => wcells_one _ v (by simpa using hv))
      have hbt := write_built p
      have hzr := write_zero
      generalize hcc : (wcells (p, List.replicate 64 0)).toArray = cc at hz hz1 hbt
      generalize (wcells (0, List.replicate 64 0)).toArray = cy at hy hzr
      have HCC := Lib.hid hcc
      clear hcc hp
      have HSRC := Lib.hid hsrc
      clear hM ht hsrc
      go_upto_region 3 with fail
      go_cut [8] (fun u8 wx => ∃ q, u8 = .pointer (some ⟨q, 0, none⟩) ∧ q = wr.heap.size ∧ Below wr.heap.size wr wx ∧ wx.heap[q]? = some (.cells cc 102 (0, 0)))
      case first =>
        go_wp2_with (first
          | refine wpList_buildTo rfl 102 #[(1, .tmp 18)] rfl _ rfl cc (by rw [List.map_toArray]; exact hbt) ?_
          | refine wpList_alloc_zero rfl 102 rfl cy hzr ?_
          | refine wpList_store_row rfl 102 (.tmp 8) (.tmp 19) rfl wr.heap.size cc rfl rfl 102 cy (heap_alloc_new wr _) (by rw [hz]; exact write_size) (by rw [hz, hy]) hz1 ?_)
        go_meet
        exact ⟨wr.heap.size, rfl, rfl, Below.row ((Below.refl _ wr).alloc (Nat.le_refl _) _) (Nat.le_refl _) _, setRow_heap _ _ _ _ _ _ (heap_alloc_new wr _)⟩
      case rest =>
        obtain ⟨q, rfl, hq, hb2, hz2⟩ := hcut
        have HQ := Lib.hid hq
        have hqg := Nat.le_of_eq hq.symm
        clear hq
        obtain ⟨x, hx⟩ : ∃ x, x = ls[k] := ⟨_, rfl⟩
        have hx64 : x.length = 64 := by rw [hx]; exact HLS.out _ (List.getElem_mem hkl)
        have hsrc : ∀ j u, (Lib.byteCells x)[j]? = some u → wc.cell? ((⟨bk, ok, none⟩ : Addr).add j) = some u := fun j u hj => by
          have h9 := HSRC.out j u (by rw [← hx]; exact hj)
          rw [Addr.add_lit] at h9 ⊢
          rw [hb2.cell (p := ⟨bk, ok + j, none⟩) (World.block_lt_of_cell? wr _ h9)]
          exact h9
        obtain ⟨cx, hcx⟩ : ∃ cx, cx = (wcells (p, x)).toArray := ⟨_, rfl⟩
        have hcl : (Lib.byteCells x).length = 64 := by rw [Lib.byteCells_length, hx64]
        have hcx1 : (cc.toList.take 0 ++ (Lib.byteCells x ++ cc.toList.drop (0 + (Lib.byteCells x).length))).toArray = cx := by
          rw [hcx, ← HCC.out, hcl]
          unfold wcells
          have e : (Lib.byteCells (List.replicate 64 0)).length = 64 := by rw [Lib.byteCells_length]; simp
          simp only [List.take_zero, List.nil_append, Nat.zero_add]
          rw [List.drop_append, List.drop_of_length_le (by omega), e]
          rfl
        have hcs : (Lib.byteCells x).length = Nat.min 64 64 := hcl
        have hfit : 0 + (Lib.byteCells x).length ≤ cc.size := by rw [hcl, hz]; decide
        have hone := bytes_one x
        have HX := Lib.hid hx
        have HCX := Lib.hid hcx
        generalize Lib.byteCells x = xs at hcl hcs hsrc hfit hone hcx1
        clear hx hcx HSRC hc2
        go_upto_region 5 with (refine wpList_copy_to rfl (.tmp 21) (.tmp 22) 22 22 rfl 5 Try.underlying22 (by kernel_rfl) q 0 64 64 ⟨bk, ok, none⟩ 64 ck rfl rfl cc 102 hz2 xs hcs hsrc hfit hone cx hcx1 64 hcl ?_)
        have hb3 : Below wr.heap.size wr (wc.setRow q cx) := Below.row hb2 hqg cx
        have hq3 : (wc.setRow q cx).heap[q]? = some (.cells cx 102 (0, 0)) := setRow_heap _ _ _ _ _ _ hz2
        generalize wc.setRow q cx = w3 at hb3 hq3 ⊢
        clear hb2 hz2 hsrc hcx1 hfit hone hcs hcl xs wc
        obtain ⟨va, vc, rfl, hvn, hvc, _⟩ := HM0.out.wait.shape
        have hWL : (d.wait ++ Dv.lay a (ls.take k)).length ≤ 101000 := by
          rw [List.length_append, Dv.lay_length, List.length_take]; have := HM.out; omega
        obtain ⟨SK, hSK⟩ : ∃ SK, SK = d.safe := ⟨_, rfl⟩
        obtain ⟨VK, hVK⟩ : ∃ VK, VK = Dv.sees { d with wait := d.wait ++ Dv.lay a (ls.take k) } := ⟨_, rfl⟩
        obtain ⟨WK, hWK⟩ : ∃ WK, WK = d.wait ++ Dv.lay a (ls.take k) := ⟨_, rfl⟩
        have HSK := Lib.hid hSK
        have HVK := Lib.hid hVK
        have HWK := Lib.hid hWK
        rw [← hVK, ← hSK, ← hWK] at HM0
        rw [← hWK] at hWL hvn
        obtain ⟨vn, hvn9⟩ : ∃ vn, vn = WK.length := ⟨_, rfl⟩
        rw [← hvn9] at HM0
        obtain ⟨ii, hii, hz3, hz4, hz5⟩ : ∃ ii, Try.prog.info? 102 = some ii ∧ ii.zero.map (·.cells.size) = some 65 ∧ ii.size = 65 ∧ ii.bytes ≤ 1000 := by
          have h9 := write_info
          cases hi : Try.prog.info? 102 with
          | none => rw [hi] at h9; cases h9
          | some ii => rw [hi] at h9; simp only [Option.map_some, Option.some.injEq, Prod.mk.injEq, decide_eq_true_eq] at h9; exact ⟨ii, rfl, h9⟩
        obtain ⟨zz, hzz, hzc⟩ : ∃ zz, ii.zero = some zz ∧ zz.cells.size = 65 := by
          cases h9 : ii.zero with
          | none => rw [h9] at hz3; cases hz3
          | some zz => rw [h9] at hz3; exact ⟨zz, rfl, by simpa using hz3⟩
        obtain ⟨bb, hbb⟩ : ∃ bb, ii.bytes = bb := ⟨_, rfl⟩
        have hb9 : bb ≤ 1000 := by omega
        have hsz := hz4
        have hcz : cx.size = 65 := by rw [HCX.out, List.size_toArray, wcells_length hx64]
        have hone2 : ∀ u ∈ cx.toList, u.oneCell' = true := by rw [HCX.out]; exact wcells_one _
        have HGW : Hid (∀ y ∈ WK ++ [(p, x)], y.1 < n ∧ y.2.length = 64) := Lib.hid (fun y hy => by
          rcases List.mem_append.1 hy with h | h
          · exact HM0.out.gW y h
          · rw [List.mem_singleton.1 h]; exact ⟨hpn, hx64⟩)
        clear hSK hVK hWK
        go_simp
        go_cut [] (fun wx => ∃ wv', Med wx g G n bs bv wv' fv cn cl SK VK (WK ++ [(p, x)]) ∧ Touch G wr wx ∧ wx.heap[q]? = some (.cells cx 102 (0, 0)))
        case first =>
          refine wp_region_noPanic ?_
          refine wp_region_held (S := fun _ => True) (by kernel_rfl) ?_
          change wpAnyH _ _ _ _ _ _ _ _ w3.drew
          have hb4 : Below wr.heap.size wr w3.drew := hb3.drew
          have hq4 : w3.drew.heap[q]? = some (.cells cx 102 (0, 0)) := hq3
          generalize w3.drew = w4 at hb4 hq4 ⊢
          clear hb3 hq3 w3
          refine held_of_takes (fuel := 7) (by kernel_rfl) (fun _ _ _ _ _ h => h) trivial [0, 1, 2, 3] _ _ (by kernel_rfl) ?_
          refine Takes.val (.pointer (some ⟨g, 0, none⟩)) rfl rfl (fun _ _ => by kernel_rfl) ?_
          refine Takes.val (.pointer (some ⟨g, 0, none⟩)) rfl rfl (fun _ _ => by kernel_rfl) ?_
          refine Takes.val (.pointer (some ⟨g, 0, none⟩)) rfl rfl (fun _ _ => by kernel_rfl) ?_
          refine Takes.val (.pointer (some ⟨g, 2, none⟩)) rfl rfl (fun _ _ => by kernel_rfl) ?_
          have HM4 := HM0.out.later hb4
          have c2 := HM4.c2
          have hb5 : Below wr.heap.size wr (w4.alloc (.cells cx 102)) := hb4.alloc hb4.size _
          have HM5 := HM0.out.later hb5
          have c5 := HM5.c2
          have hq5 : (w4.alloc (.cells cx 102)).heap[q]? = some (.cells cx 102 (0, 0)) := by rw [((Below.refl _ w4).alloc (Nat.le_refl _) _).block q (lt_of_block hq4)]; exact hq4
          have hr5 := heap_alloc_new w4 (.cells cx 102)
          refine wpAnyH_all (rs := [4, 5]) (by kernel_rfl) (by simp) (fun i hi => ?_)
          simp only [List.mem_cons, List.not_mem_nil, or_false] at hi
          rcases hi with rfl | rfl
          · refine wpOp_make (v := .slice va vn vc) (w' := w4) rfl rfl (exec_load (s := 27) rfl (by kernel_rfl) (load_waits c2)) ⟨trivial, ?_⟩
            refine wpAnyH_all (rs := [5]) (by kernel_rfl) (by simp) (fun i hi => ?_)
            obtain rfl := List.mem_singleton.1 hi
            refine wpOp_make (v := .agg cx) (w' := w4) rfl rfl (exec_blk rfl q (by kernel_rfl) 102 cx (0, 0) _ hq4 Try.underlying102 rfl (by rw [hcz]; exact write_size)) ⟨trivial, ?_⟩
            refine wpAnyH_all (rs := [6]) (by kernel_rfl) (by simp) (fun i hi => ?_)
            obtain rfl := List.mem_singleton.1 hi
            refine wpOp_make (v := .slice (some ⟨w4.heap.size, 0, none⟩) 1 1) (w' := w4.alloc (.cells cx 102)) rfl rfl (exec_built rfl w4 cx hcz (by kernel_rfl)) ⟨trivial, ?_⟩
            refine wpAnyH_all (rs := [7]) (by kernel_rfl) (by simp) (fun i hi => ?_)
            obtain rfl := List.mem_singleton.1 hi
            generalize w4.alloc (.cells cx 102) = w5 at hb5 HM5 hq5 hr5 ⊢
            generalize w4.heap.size = r at hr5 ⊢
            refine wpOp_plain rfl rfl (wp_append_whose w5 (.tmp 28) (.tmp 30) 49 rfl 102 ii zz 65 bb Try.underlying49 hii hzz hsz hbb hzc (by decide) (.slice va vn vc) WK.length (WK.flatMap wcells) (by kernel_rfl) HM5.wait ⟨r, 0, none⟩ 1 1 cx.toList (by kernel_rfl) (by rw [Array.length_toList, hcz]) (fun j u hj => by rw [Addr.add_lit, Nat.zero_add]; simp only [World.cell?, hr5]; simpa using hj) hone2 (by unfold maxLen; omega) (by have := Nat.mul_le_mul (show WK.length + 1 ≤ 101001 by omega) hb9; omega) (fun v6 w6 ho6 hg6 hk6 => ⟨trivial, ?_⟩))
            have hM6 := HM5.grown_waits hg6 trivial
            have hq6 : w6.heap[q]? = some (.cells cx 102 (0, 0)) := by
              rw [hg6.block q (lt_of_block hq5) (fun e => by have h9 := HM0.out.wait.lt q e.symm; have := HQ.out; omega)]; exact hq5

            have hT6 : Touch G wr w6 := by
              refine ⟨hg6.os.trans hb5.os, hg6.tape.trans hb5.tape, hg6.output.trans hb5.output, Nat.le_trans hb5.size hg6.size, fun k2 hk2 hn2 => ?_⟩
              rw [hg6.block k2 (Nat.lt_of_lt_of_le hk2 hb5.size) (fun e => hn2 (HM0.out.hw k2 e.symm)), hb5.block k2 hk2]
            have hW6 : Wts w6 v6 (WK ++ [(p, x)]) := by
              unfold Wts
              rw [List.length_append, List.flatMap_append]
              have e9 : cx.toList = [(p, x)].flatMap wcells := by rw [HCX.out]; simp
              rw [e9] at ho6
              exact ho6
            obtain ⟨va6, vc6, rfl, _, _, _⟩ := hW6.shape
            have k2 := hM6.1
            have f2 := hM6.2.1
            refine held_of_takes (fuel := 1) (by kernel_rfl) (fun _ _ _ _ _ h => h) trivial [8, 9] _ _ (by kernel_rfl) ?_
            refine Takes.val (.pointer (some ⟨g, 0, none⟩)) rfl rfl (fun _ _ => by kernel_rfl) ?_
            refine Takes.val (.pointer (some ⟨g, 2, none⟩)) rfl rfl (fun _ _ => by kernel_rfl) ?_
            refine wpAnyH_all (rs := [10]) (by kernel_rfl) (by simp) (fun i hi => ?_)
            obtain rfl := List.mem_singleton.1 hi
            refine wpOp_known (.store 49 (.tmp 33) (.tmp 31)) none (by kernel_rfl) (fun o e1 e2 => wp_store_one (p := .pointer (some ⟨g, 2, none⟩)) (v := .slice va6 (WK ++ [(p, x)]).length vc6) (w' := w6.setCell ⟨g, 2, none⟩ (.slice va6 (WK ++ [(p, x)]).length vc6)) e1 (by kernel_rfl) (by kernel_rfl) (store_waits k2 f2) ?_)
            rw [e2]
            refine ⟨trivial, ?_⟩
            refine wpAnyH_done (P := Try.prog) (by kernel_rfl) ?_ 0
            have hM7 := hM6.2.2 _ _ hW6 (fun k3 hk3 => by rcases hk6 k3 hk3 with h9 | h9; exact HM0.out.hw k3 h9; exact HGn.out k3 (Nat.le_trans (Nat.le_trans HT.out.size hb5.size) h9)) HGW.out
            have hq7 : (w6.setCell ⟨g, 2, none⟩ (.slice va6 (WK ++ [(p, x)]).length vc6)).heap[q]? = some (.cells cx 102 (0, 0)) := by
              rw [heap_setCell_other w6 ⟨g, 2, none⟩ q _ (fun e => by have e9 : q = g := e; have h9 := lt_of_block HM0.out.blk; have := HQ.out; omega)]; exact hq6
            have hT7 := hT6.trans (Touch.cell HM0.out.hg 2 (.slice va6 (WK ++ [(p, x)]).length vc6))
            generalize w6.setCell ⟨g, 2, none⟩ (.slice va6 (WK ++ [(p, x)]).length vc6) = w7 at hM7 hq7 hT7 ⊢
            refine NoPanic.normal ?_
            go_simp
            go_wp2_with fail
            go_meet
            exact ⟨_, hM7, hT7, hq7⟩
          · refine wpOp_make (v := .agg cx) (w' := w4) rfl rfl (exec_blk rfl q (by kernel_rfl) 102 cx (0, 0) _ hq4 Try.underlying102 rfl (by rw [hcz]; exact write_size)) ⟨trivial, ?_⟩
            refine wpAnyH_all (rs := [4, 6]) (by kernel_rfl) (by simp) (fun i hi => ?_)
            simp only [List.mem_cons, List.not_mem_nil, or_false] at hi
            rcases hi with rfl | rfl
            · refine wpOp_make (v := .slice va vn vc) (w' := w4) rfl rfl (exec_load (s := 27) rfl (by kernel_rfl) (load_waits c2)) ⟨trivial, ?_⟩
              refine wpAnyH_all (rs := [6]) (by kernel_rfl) (by simp) (fun i hi => ?_)
              obtain rfl := List.mem_singleton.1 hi
              refine wpOp_make (v := .slice (some ⟨w4.heap.size, 0, none⟩) 1 1) (w' := w4.alloc (.cells cx 102)) rfl rfl (exec_built rfl w4 cx hcz (by kernel_rfl)) ⟨trivial, ?_⟩
              refine wpAnyH_all (rs := [7]) (by kernel_rfl) (by simp) (fun i hi => ?_)
              obtain rfl := List.mem_singleton.1 hi
              generalize w4.alloc (.cells cx 102) = w5 at hb5 HM5 hq5 hr5 ⊢
              generalize w4.heap.size = r at hr5 ⊢
              refine wpOp_plain rfl rfl (wp_append_whose w5 (.tmp 28) (.tmp 30) 49 rfl 102 ii zz 65 bb Try.underlying49 hii hzz hsz hbb hzc (by decide) (.slice va vn vc) WK.length (WK.flatMap wcells) (by kernel_rfl) HM5.wait ⟨r, 0, none⟩ 1 1 cx.toList (by kernel_rfl) (by rw [Array.length_toList, hcz]) (fun j u hj => by rw [Addr.add_lit, Nat.zero_add]; simp only [World.cell?, hr5]; simpa using hj) hone2 (by unfold maxLen; omega) (by have := Nat.mul_le_mul (show WK.length + 1 ≤ 101001 by omega) hb9; omega) (fun v6 w6 ho6 hg6 hk6 => ⟨trivial, ?_⟩))
              have hM6 := HM5.grown_waits hg6 trivial
              have hq6 : w6.heap[q]? = some (.cells cx 102 (0, 0)) := by
                rw [hg6.block q (lt_of_block hq5) (fun e => by have h9 := HM0.out.wait.lt q e.symm; have := HQ.out; omega)]; exact hq5

              have hT6 : Touch G wr w6 := by
                refine ⟨hg6.os.trans hb5.os, hg6.tape.trans hb5.tape, hg6.output.trans hb5.output, Nat.le_trans hb5.size hg6.size, fun k2 hk2 hn2 => ?_⟩
                rw [hg6.block k2 (Nat.lt_of_lt_of_le hk2 hb5.size) (fun e => hn2 (HM0.out.hw k2 e.symm)), hb5.block k2 hk2]
              have hW6 : Wts w6 v6 (WK ++ [(p, x)]) := by
                unfold Wts
                rw [List.length_append, List.flatMap_append]
                have e9 : cx.toList = [(p, x)].flatMap wcells := by rw [HCX.out]; simp
                rw [e9] at ho6
                exact ho6
              obtain ⟨va6, vc6, rfl, _, _, _⟩ := hW6.shape
              have k2 := hM6.1
              have f2 := hM6.2.1
              refine held_of_takes (fuel := 1) (by kernel_rfl) (fun _ _ _ _ _ h => h) trivial [8, 9] _ _ (by kernel_rfl) ?_
              refine Takes.val (.pointer (some ⟨g, 0, none⟩)) rfl rfl (fun _ _ => by kernel_rfl) ?_
              refine Takes.val (.pointer (some ⟨g, 2, none⟩)) rfl rfl (fun _ _ => by kernel_rfl) ?_
              refine wpAnyH_all (rs := [10]) (by kernel_rfl) (by simp) (fun i hi => ?_)
              obtain rfl := List.mem_singleton.1 hi
              refine wpOp_known (.store 49 (.tmp 33) (.tmp 31)) none (by kernel_rfl) (fun o e1 e2 => wp_store_one (p := .pointer (some ⟨g, 2, none⟩)) (v := .slice va6 (WK ++ [(p, x)]).length vc6) (w' := w6.setCell ⟨g, 2, none⟩ (.slice va6 (WK ++ [(p, x)]).length vc6)) e1 (by kernel_rfl) (by kernel_rfl) (store_waits k2 f2) ?_)
              rw [e2]
              refine ⟨trivial, ?_⟩
              refine wpAnyH_done (P := Try.prog) (by kernel_rfl) ?_ 0
              have hM7 := hM6.2.2 _ _ hW6 (fun k3 hk3 => by rcases hk6 k3 hk3 with h9 | h9; exact HM0.out.hw k3 h9; exact HGn.out k3 (Nat.le_trans (Nat.le_trans HT.out.size hb5.size) h9)) HGW.out
              have hq7 : (w6.setCell ⟨g, 2, none⟩ (.slice va6 (WK ++ [(p, x)]).length vc6)).heap[q]? = some (.cells cx 102 (0, 0)) := by
                rw [heap_setCell_other w6 ⟨g, 2, none⟩ q _ (fun e => by have e9 : q = g := e; have h9 := lt_of_block HM0.out.blk; have := HQ.out; omega)]; exact hq6
              have hT7 := hT6.trans (Touch.cell HM0.out.hg 2 (.slice va6 (WK ++ [(p, x)]).length vc6))
              generalize w6.setCell ⟨g, 2, none⟩ (.slice va6 (WK ++ [(p, x)]).length vc6) = w7 at hM7 hq7 hT7 ⊢
              refine NoPanic.normal ?_
              go_simp
              go_wp2_with fail
              go_meet
              exact ⟨_, hM7, hT7, hq7⟩
            · refine wpOp_make (v := .slice (some ⟨w4.heap.size, 0, none⟩) 1 1) (w' := w4.alloc (.cells cx 102)) rfl rfl (exec_built rfl w4 cx hcz (by kernel_rfl)) ⟨trivial, ?_⟩
              refine wpAnyH_all (rs := [4]) (by kernel_rfl) (by simp) (fun i hi => ?_)
              obtain rfl := List.mem_singleton.1 hi
              refine wpOp_make (v := .slice va vn vc) (w' := (w4.alloc (.cells cx 102))) rfl rfl (exec_load (s := 27) rfl (by kernel_rfl) (load_waits c5)) ⟨trivial, ?_⟩
              refine wpAnyH_all (rs := [7]) (by kernel_rfl) (by simp) (fun i hi => ?_)
              obtain rfl := List.mem_singleton.1 hi
              generalize w4.alloc (.cells cx 102) = w5 at hb5 HM5 hq5 hr5 ⊢
              generalize w4.heap.size = r at hr5 ⊢
              refine wpOp_plain rfl rfl (wp_append_whose w5 (.tmp 28) (.tmp 30) 49 rfl 102 ii zz 65 bb Try.underlying49 hii hzz hsz hbb hzc (by decide) (.slice va vn vc) WK.length (WK.flatMap wcells) (by kernel_rfl) HM5.wait ⟨r, 0, none⟩ 1 1 cx.toList (by kernel_rfl) (by rw [Array.length_toList, hcz]) (fun j u hj => by rw [Addr.add_lit, Nat.zero_add]; simp only [World.cell?, hr5]; simpa using hj) hone2 (by unfold maxLen; omega) (by have := Nat.mul_le_mul (show WK.length + 1 ≤ 101001 by omega) hb9; omega) (fun v6 w6 ho6 hg6 hk6 => ⟨trivial, ?_⟩))
              have hM6 := HM5.grown_waits hg6 trivial
              have hq6 : w6.heap[q]? = some (.cells cx 102 (0, 0)) := by
                rw [hg6.block q (lt_of_block hq5) (fun e => by have h9 := HM0.out.wait.lt q e.symm; have := HQ.out; omega)]; exact hq5

              have hT6 : Touch G wr w6 := by
                refine ⟨hg6.os.trans hb5.os, hg6.tape.trans hb5.tape, hg6.output.trans hb5.output, Nat.le_trans hb5.size hg6.size, fun k2 hk2 hn2 => ?_⟩
                rw [hg6.block k2 (Nat.lt_of_lt_of_le hk2 hb5.size) (fun e => hn2 (HM0.out.hw k2 e.symm)), hb5.block k2 hk2]
              have hW6 : Wts w6 v6 (WK ++ [(p, x)]) := by
                unfold Wts
                rw [List.length_append, List.flatMap_append]
                have e9 : cx.toList = [(p, x)].flatMap wcells := by rw [HCX.out]; simp
                rw [e9] at ho6
                exact ho6
              obtain ⟨va6, vc6, rfl, _, _, _⟩ := hW6.shape
              have k2 := hM6.1
              have f2 := hM6.2.1
              refine held_of_takes (fuel := 1) (by kernel_rfl) (fun _ _ _ _ _ h => h) trivial [8, 9] _ _ (by kernel_rfl) ?_
              refine Takes.val (.pointer (some ⟨g, 0, none⟩)) rfl rfl (fun _ _ => by kernel_rfl) ?_
              refine Takes.val (.pointer (some ⟨g, 2, none⟩)) rfl rfl (fun _ _ => by kernel_rfl) ?_
              refine wpAnyH_all (rs := [10]) (by kernel_rfl) (by simp) (fun i hi => ?_)
              obtain rfl := List.mem_singleton.1 hi
              refine wpOp_known (.store 49 (.tmp 33) (.tmp 31)) none (by kernel_rfl) (fun o e1 e2 => wp_store_one (p := .pointer (some ⟨g, 2, none⟩)) (v := .slice va6 (WK ++ [(p, x)]).length vc6) (w' := w6.setCell ⟨g, 2, none⟩ (.slice va6 (WK ++ [(p, x)]).length vc6)) e1 (by kernel_rfl) (by kernel_rfl) (store_waits k2 f2) ?_)
              rw [e2]
              refine ⟨trivial, ?_⟩
              refine wpAnyH_done (P := Try.prog) (by kernel_rfl) ?_ 0
              have hM7 := hM6.2.2 _ _ hW6 (fun k3 hk3 => by rcases hk6 k3 hk3 with h9 | h9; exact HM0.out.hw k3 h9; exact HGn.out k3 (Nat.le_trans (Nat.le_trans HT.out.size hb5.size) h9)) HGW.out
              have hq7 : (w6.setCell ⟨g, 2, none⟩ (.slice va6 (WK ++ [(p, x)]).length vc6)).heap[q]? = some (.cells cx 102 (0, 0)) := by
                rw [heap_setCell_other w6 ⟨g, 2, none⟩ q _ (fun e => by have e9 : q = g := e; have h9 := lt_of_block HM0.out.blk; have := HQ.out; omega)]; exact hq6
              have hT7 := hT6.trans (Touch.cell HM0.out.hg 2 (.slice va6 (WK ++ [(p, x)]).length vc6))
              generalize w6.setCell ⟨g, 2, none⟩ (.slice va6 (WK ++ [(p, x)]).length vc6) = w7 at hM7 hq7 hT7 ⊢
              refine NoPanic.normal ?_
              go_simp
              go_wp2_with fail
              go_meet
              exact ⟨_, hM7, hT7, hq7⟩
        case rest =>
          obtain ⟨wv6, hM7, hT7, hq7⟩ := hcut
          have hM7H := Lib.hid hM7
          have hT7H := Lib.hid hT7
          have l1 := fun p9 : LateOf wc => p9.cell hM7.c1
          have l2 := fun p9 : LateOf wc => p9.cell (show wc.cell? ⟨q, 64, none⟩ = some (.int .i64 (p : Int)) by
            simp only [World.cell?, hq7, HCX.out]
            unfold wcells
            have e9 : (Lib.byteCells x).length = 64 := by rw [Lib.byteCells_length, hx64]
            simp [e9])
          have l3 : ∀ W, (∃ p9 : LateOf wc, W = p9.w) → ∀ j u, (Lib.byteCells x).toArray.toList[j]? = some u → W.cell? ((⟨q, 0, none⟩ : Addr).add j) = some u := fun W ⟨p9, hp9⟩ j u hj => by
            subst hp9
            rw [Addr.add_lit, Nat.zero_add]
            refine p9.cell ?_
            simp only [World.cell?, hq7, HCX.out]
            have hj9 : (Lib.byteCells x)[j]? = some u := by simpa using hj
            have hjl := (List.getElem?_eq_some_iff.1 hj9).1
            unfold wcells
            rw [List.getElem?_toArray, List.getElem?_append_left hjl]
            simpa using hj9
          have hs3 : (Lib.byteCells x).toArray.size = 64 := by rw [List.size_toArray, Lib.byteCells_length, hx64]
          have hone3 : ∀ v ∈ (Lib.byteCells x).toArray.toList, v.oneCell' = true := bytes_one x
          have hVl : (secs VK).toArray.size = n * 64 := by rw [List.size_toArray, secs_length hM7.gV, hM7.lV]
          obtain ⟨R, hR⟩ : ∃ R, ((secs VK).toArray.toList.take (p * 64) ++ (Lib.byteCells x).toArray.toList ++ (secs VK).toArray.toList.drop (p * 64 + (Lib.byteCells x).toArray.toList.length)).toArray = R := ⟨_, rfl⟩
          have HR := Lib.hid hR
          have hpi : (p : Int) < n := by omega
          generalize hxc : (Lib.byteCells x).toArray = xc at l3 hs3 hone3 hR
          have HXC := Lib.hid hxc
          clear hxc hM7 hT7 hq7
          go_upto_region 6 with fail
          refine wp_region_late_tail 9 (by kernel_rfl) (by kernel_rfl) ?_
          simp only [List.take_succ_cons, List.take_zero, List.drop_succ_cons, List.drop_zero]
          iterate 7 quiet_step (fail)
          refine quiet_seg rfl 100 (.tmp 40) rfl ⟨q, 0, none⟩ rfl xc _ l3 Try.underlying100 rfl (by rw [hs3]; exact sector_size) ?_
          quiet_step (fail)
          refine wpQuiet_nil ?_
          intro w8 hw'
          have hb8 : Below wc.heap.size wc w8 := by obtain ⟨p9, rfl⟩ := hw'; exact p9.h
          have hM8 := hM7H.out.later hb8
          have hs8 := hM8.seen
          unfold Secs at hs8
          have HM8 := Lib.hid hM8
          have HT8 : Hid (Touch G w w8) := Lib.hid ((HT.out.trans hT7H.out).trans (Touch.of hb8))
          clear hw' hM8 l1 l2 l3 hb8 hM7H hT7H
          go_wp2_with (refine wpList_store_to rfl 100 (.tmp 42) (.tmp 41) rfl bv (p * 64) xc rfl rfl 100 (secs VK).toArray hs8 (by rw [hs3]; exact sector_size) (by rw [hs3, hVl]; omega) hone3 R hR ?_)
          have hM9 : Med (w8.setRow bv R) g G n bs bv wv6 fv cn cl SK (VK.set p x) (WK ++ [(p, x)]) := by
            have h9 := HM8.out.see p hpn x hx64
            have e9 : ((secs VK).toArray.toList.take (p * 64) ++ Lib.byteCells x ++ (secs VK).toArray.toList.drop (p * 64 + (Lib.byteCells x).length)).toArray = R := HR.out
            rw [e9] at h9
            exact h9
          have hT9 : Touch G w (w8.setRow bv R) := HT8.out.trans (Touch.row HM8.out.hv R)
          generalize w8.setRow bv R = w9 at hM9 hT9 ⊢
          clear hs8
          go_roundw
          case rel =>
            refine ⟨k + 1, by omega, by go_num, hT9, wv6, ?_⟩
            rw [HSK.out, HVK.out, HWK.out, HX.out, HP.out] at hM9
            rw [Dv.sees_more d a ls k hkl, Dv.see_snoc { d with wait := d.wait ++ Dv.lay a (ls.take k) }, List.take_succ_eq_append_getElem hkl, Dv.lay_snoc, List.length_take, Nat.min_eq_left (Nat.le_of_lt hkl), ← List.append_assoc]
            exact hM9
          case measure => simp [intOf]; omega
    · have hki : ¬ (k : Int) < m := by omega
      have HE : Hid (ls.take k = ls) := Lib.hid (List.take_of_length_le (by rw [← HM.out]; omega))
      rw [HE.out] at hM
      have HMM := Lib.hid hM
      clear hlt hk hM
      go_wp2_with fail
      go_end0
      exact ⟨rfl, ht, wv, HMM.out⟩
end Go.Proofs.Ytjdmmnpfjbnhoaa
