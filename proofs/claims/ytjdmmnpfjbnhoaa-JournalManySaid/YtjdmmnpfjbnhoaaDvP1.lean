/- Package device in memory: rows of sectors (64 cells each), of writes that wait (65 cells each), the device's block; a row's segment loaded and stored whole. -/
import Derived.Test.YtjdmmnpfjbnhoaaDv2
import Derived.Test.YtjdmmnpfjbnhoaaDvFlat
import Derived.Laws.CopyOwn
namespace Go.Proofs.Ytjdmmnpfjbnhoaa
open Go.RowKit

section
variable {P : Program}
/-- A segment of a row, loaded as one value. -/
theorem run_loadVar_seg (w : World) (a : Addr) (ty : TypeId) (cs : Array Value) (d : TypeDesc) (hc : ∀ j v, cs.toList[j]? = some v → w.cell? (a.add j) = some v)
    (hu : P.underlying ty = some d) (hd : (match d with | .struct _ | .array _ _ => true | _ => false) = true) (hi : (P.info? ty).map (·.size) = some cs.size) :
    (loadVar ty a).run P w = .ok (.agg cs) w := by
  have hl : (loadCells a cs.toList.length).run P w = .ok cs.toList.toArray w := run_loadCells_list (P := P) w a cs.toList hc
  cases hq : P.info? ty with
  | none => simp [hq] at hi
  | some i =>
    have hs : i.size = cs.size := by simpa [hq] using hi
    have hagg : (isAgg ty).run P w = .ok true w := by
      unfold isAgg
      rw [Sem.run_bind, run_underlying hu w]
      cases d <;> simp_all
    simp only [Array.length_toList, Array.toArray_toList] at hl
    simp [loadVar, Sem.run_bind, hagg, sizeOf, typeInfo, hq, hs, hl]
theorem wpList_load_seg {ops : Array Oper} {rest : List Oper} {o : Oper} {a : Act} {w : World} {Q : Exit → Act → World → Prop} (hgd : o.guard = none) (ty : TypeId) (x : Operand) (ho : o.op = .load ty x)
    (ad : Addr) (hx : a.eval x = .pointer (some ad)) (cs : Array Value) (d : TypeDesc) (hc : ∀ j v, cs.toList[j]? = some v → w.cell? (ad.add j) = some v)
    (hu : P.underlying ty = some d) (hd : (match d with | .struct _ | .array _ _ => true | _ => false) = true) (hi : (P.info? ty).map (·.size) = some cs.size)
    (h : wpList P ops Q rest (a.put o.dst (.agg cs)) w) : wpList P ops Q (o :: rest) a w :=
  wpList_plain hgd fun K hK => by
    unfold Oper.wp execOp
    simp only [ho, hx, Instr.loadAt, Instr.sureAddr, Sem.run_bind, Sem.run_pure, Result.andThen_ok, run_loadVar_seg w ad ty cs d hc hu hd hi]
    exact hK _ _ h
theorem quiet_seg {ops : Array Oper} {C : World → Prop} {Q : Act → Prop} {a : Act} {o : Oper} {rest : List Oper} (hgd : o.guard = none) (ty : TypeId) (x : Operand) (ho : o.op = .load ty x)
    (ad : Addr) (hx : a.eval x = .pointer (some ad)) (cs : Array Value) (d : TypeDesc) (hc : ∀ w, C w → ∀ j v, cs.toList[j]? = some v → w.cell? (ad.add j) = some v)
    (hu : P.underlying ty = some d) (hd : (match d with | .struct _ | .array _ _ => true | _ => false) = true) (hi : (P.info? ty).map (·.size) = some cs.size)
    (h : wpQuiet P ops C Q rest (a.put o.dst (.agg cs))) : wpQuiet P ops C Q (o :: rest) a := by
  unfold wpQuiet
  rw [if_pos (by simp [Region.wanted, hgd])]
  refine ⟨.agg cs, fun w hw => ?_, h⟩
  unfold Oper.quietAt execOp
  simp only [ho, hx, Instr.loadAt, Instr.sureAddr, Sem.run_bind, Sem.run_pure, Result.andThen_ok, run_loadVar_seg w ad ty cs d (hc w hw) hu hd hi]
  exact ⟨rfl, rfl⟩
/-- A segment of a row, stored as one value. -/
theorem run_storeVar_seg (w : World) (g o : Nat) (t ty : TypeId) (old cells : Array Value) (hg : w.heap[g]? = some (.cells old t (0, 0))) (hi : (P.info? ty).map (·.size) = some cells.size)
    (ho : o + cells.size ≤ old.size) (h1 : ∀ v ∈ cells.toList, v.oneCell' = true) :
    (storeVar ty ⟨g, o, none⟩ (.agg cells)).run P w = .ok () (w.setRow g (old.toList.take o ++ cells.toList ++ old.toList.drop (o + cells.toList.length)).toArray) := by
  have := run_storeCells_at P g o t cells.toList 0 old w hg (by simpa using ho) h1
  rw [Nat.add_zero] at this
  generalize w.setRow g (old.toList.take o ++ cells.toList ++ old.toList.drop (o + cells.toList.length)).toArray = w2 at this ⊢
  cases hq : P.info? ty with
  | none => simp [hq] at hi
  | some i =>
    have hs : cells.size = i.size := by simp [hq] at hi; omega
    simp [storeVar, sizeOf, typeInfo, hq, Value.cells, hs, this]
theorem wp_store_seg {o : Oper} {a : Act} {w : World} {K : Act → World → Prop} {Q : Exit → Act → World → Prop} (ty : TypeId) (x y : Operand) (ho : o.op = .store ty x y)
    (g off : Nat) (cells : Array Value) (hx : a.eval x = .pointer (some ⟨g, off, none⟩)) (hy : a.eval y = .agg cells)
    (t : TypeId) (old : Array Value) (hg : w.heap[g]? = some (.cells old t (0, 0))) (hi : (P.info? ty).map (·.size) = some cells.size)
    (hold : off + cells.size ≤ old.size) (h1 : ∀ v ∈ cells.toList, v.oneCell' = true)
    (h : K (a.put o.dst undef) (w.setRow g (old.toList.take off ++ cells.toList ++ old.toList.drop (off + cells.toList.length)).toArray)) : o.wp P a w K Q := by
  unfold Oper.wp execOp
  simp only [ho, hx, hy, Instr.storeAt, Instr.sureAddr, Sem.run_bind, Sem.run_pure, Result.andThen_ok, run_storeVar_seg w g off t ty old cells hg hi hold h1]
  exact h
theorem wpList_store_seg {ops : Array Oper} {rest : List Oper} {o : Oper} {a : Act} {w : World} {Q : Exit → Act → World → Prop} (hgd : o.guard = none) (ty : TypeId) (x y : Operand) (ho : o.op = .store ty x y)
    (g off : Nat) (cells : Array Value) (hx : a.eval x = .pointer (some ⟨g, off, none⟩)) (hy : a.eval y = .agg cells)
    (t : TypeId) (old : Array Value) (hg : w.heap[g]? = some (.cells old t (0, 0))) (hi : (P.info? ty).map (·.size) = some cells.size)
    (hold : off + cells.size ≤ old.size) (h1 : ∀ v ∈ cells.toList, v.oneCell' = true)
    (h : wpList P ops Q rest (a.put o.dst undef) (w.setRow g (old.toList.take off ++ cells.toList ++ old.toList.drop (off + cells.toList.length)).toArray)) : wpList P ops Q (o :: rest) a w :=
  wpList_plain hgd fun _ hK => wp_store_seg ty x y ho g off cells hx hy t old hg hi hold h1 (hK _ _ h)
end

theorem bytes_one (l : List UInt8) : ∀ v ∈ Lib.byteCells l, v.oneCell' = true := fun v hv => by
  unfold Lib.byteCells at hv
  obtain ⟨d, _, rfl⟩ := List.mem_map.1 hv
  rfl
theorem ownsRow_keep {w w' : World} {base : Nat} {e : TypeId} {size n : Nat} {v : Value} {xs : List Value} (h : w.ownsRow base e size v n xs) (hk : ∀ k, v.ownBlock = some k → w'.heap[k]? = w.heap[k]?) : w'.ownsRow base e size v n xs := by
  refine ⟨h.1, ?_⟩
  rcases h.2 with h0 | ⟨g, cap, cur, hv, hb, hh, rest⟩
  · exact .inl h0
  · exact .inr ⟨g, cap, cur, hv, hb, by rw [hk g (by rw [hv]; rfl)]; exact hh, rest⟩
theorem row_mono {w : World} {base base' e s n : Nat} {v : Value} {xs : List Value} (h : w.ownsRow base e s v n xs) (hb : base' ≤ base) : w.ownsRow base' e s v n xs := by
  refine ⟨h.1, ?_⟩
  rcases h.2 with h0 | ⟨g, cap, cur, hv, hg, hh, rest⟩
  · exact .inl h0
  · exact .inr ⟨g, cap, cur, hv, Nat.le_trans hb hg, hh, rest⟩
theorem own_shape {w : World} {base : Nat} {e : TypeId} {size n : Nat} {v : Value} {xs : List Value} (h : w.ownsRow base e size v n xs) : ∃ a c, v = .slice a n c ∧ n ≤ c ∧ c ≤ 9223372036854775807 := by
  rcases h.2 with ⟨hv, h0⟩ | ⟨g, cap, cur, hv, hb, hh, h1, h2, _⟩
  · exact ⟨none, 0, by rw [hv, h0], by omega, by decide⟩
  · exact ⟨_, cap, hv, h1, by unfold maxLen at h2; omega⟩
/-- The rows lie in other blocks than the device: their cells are of other types. -/
theorem ne_block {w : World} {g b : Nat} {C C' : Array Value} {T T' : TypeId} {m m' : Nat × Nat} (h : w.heap[g]? = some (.cells C T m)) (h' : w.heap[b]? = some (.cells C' T' m')) (hT : T ≠ T') : g ≠ b := fun e => by
  subst e
  rw [h] at h'
  injection h' with h'
  injection h' with _ h2
  exact hT h2
theorem blk_cell {w : World} {g : Nat} {C : Array Value} {T : TypeId} (h : w.heap[g]? = some (.cells C T (0, 0))) (k : Nat) (v : Value) (hk : C[k]? = some v) : w.cell? ⟨g, k, none⟩ = some v ∧ w.frozen? ⟨g, k, none⟩ = false := by
  constructor
  · simp only [World.cell?, h]; simpa using hk
  · simp only [World.frozen?, h]; simp

/-! ### rows of sectors -/
def secs (ls : List Dv.Sec) : List Value := ls.flatMap Lib.byteCells
theorem secs_row {ls : List Dv.Sec} (h : ∀ x ∈ ls, x.length = 64) : ∀ x ∈ ls, (Lib.byteCells x).length = 64 := fun x hx => by rw [Lib.byteCells_length]; exact h x hx
theorem secs_length {ls : List Dv.Sec} (h : ∀ x ∈ ls, x.length = 64) : (secs ls).length = ls.length * 64 := Dv.flat_len (secs_row h)
theorem secs_at {ls : List Dv.Sec} (h : ∀ x ∈ ls, x.length = 64) (k : Nat) (hk : k < ls.length) (j : Nat) (hj : j < 64) : (secs ls)[k * 64 + j]? = (Lib.byteCells ls[k])[j]? := Dv.flat_at (secs_row h) k j hk hj
/-- The beginning of a sector written anew. -/
theorem secs_set {ls : List Dv.Sec} (h : ∀ x ∈ ls, x.length = 64) (k : Nat) (hk : k < ls.length) (z : List UInt8) (hz : z.length ≤ 64) :
    (secs ls).take (k * 64) ++ Lib.byteCells z ++ (secs ls).drop (k * 64 + (Lib.byteCells z).length) = secs (ls.set k (z ++ (ls.getD k []).drop z.length)) := by
  have e : ls.getD k [] = ls[k] := by rw [List.getD_eq_getElem?_getD, List.getElem?_eq_getElem hk]; rfl
  rw [e]
  refine Dv.flat_set (secs_row h) k hk (Lib.byteCells z) (by rw [Lib.byteCells_length]; exact hz) _ ?_
  simp [Lib.byteCells, List.map_drop]
theorem secs_replicate (n : Nat) : secs (List.replicate n (List.replicate 64 0)) = List.replicate (n * 64) (.int .u8 0) := by
  unfold secs
  rw [List.flatMap_replicate]
  have e : Lib.byteCells (List.replicate 64 0) = List.replicate 64 (.int .u8 0) := by simp [Lib.byteCells]
  rw [e]
  induction n with
  | zero => rfl
  | succ n ih => rw [List.replicate_succ, List.flatten_cons, ih, List.replicate_append_replicate, Nat.add_mul, Nat.one_mul, Nat.add_comm]
/-- Block b holds these sectors. -/
def Secs (w : World) (b : Nat) (ls : List Dv.Sec) : Prop := w.heap[b]? = some (.cells (secs ls).toArray 100 (0, 0))
theorem Secs.cell {w : World} {b : Nat} {ls : List Dv.Sec} (h : Secs w b ls) (hl : ∀ x ∈ ls, x.length = 64) (k : Nat) (hk : k < ls.length) : ∀ j v, (Lib.byteCells ls[k])[j]? = some v → w.cell? ((⟨b, k * 64, none⟩ : Addr).add j) = some v := fun j v hj => by
  have hj64 : j < 64 := by
    have := (List.getElem?_eq_some_iff.1 hj).1
    rw [Lib.byteCells_length, hl _ (List.getElem_mem hk)] at this; exact this
  rw [Addr.add_lit]
  simp only [World.cell?, show w.heap[b]? = _ from h]
  rw [← hj, ← secs_at hl k hk j hj64]
  simp
theorem Secs.keep {w w' : World} {b : Nat} {ls : List Dv.Sec} (h : Secs w b ls) (hk : w'.heap[b]? = w.heap[b]?) : Secs w' b ls := by unfold Secs; rw [hk]; exact h
theorem Secs.put {w : World} {b : Nat} {ls : List Dv.Sec} (h : Secs w b ls) (hl : ∀ x ∈ ls, x.length = 64) (k : Nat) (hk : k < ls.length) (z : List UInt8) (hz : z.length ≤ 64) :
    Secs (w.setRow b ((secs ls).toArray.toList.take (k * 64) ++ Lib.byteCells z ++ (secs ls).toArray.toList.drop (k * 64 + (Lib.byteCells z).length)).toArray) b (ls.set k (z ++ (ls.getD k []).drop z.length)) := by
  unfold Secs
  rw [setRow_heap w b (secs ls).toArray _ _ _ h, ← secs_set hl k hk z hz]

/-! ### writes that wait -/
def wcells (x : Nat × Dv.Sec) : List Value := Lib.byteCells x.2 ++ [.int .i64 (x.1 : Int)]
theorem wcells_length {x : Nat × Dv.Sec} (h : x.2.length = 64) : (wcells x).length = 65 := by unfold wcells; rw [List.length_append, Lib.byteCells_length, h]; rfl
theorem wcells_one (x : Nat × Dv.Sec) : ∀ v ∈ wcells x, v.oneCell' = true := fun v hv => by
  rcases List.mem_append.1 hv with h | h
  · exact bytes_one _ v h
  · rw [List.mem_singleton.1 h]; rfl
def Wts (w : World) (v : Value) (ws : List (Nat × Dv.Sec)) : Prop := w.ownsRow 0 102 65 v ws.length (ws.flatMap wcells)
theorem Wts.keep {w w' : World} {v : Value} {ws : List (Nat × Dv.Sec)} (h : Wts w v ws) (hk : ∀ k, v.ownBlock = some k → w'.heap[k]? = w.heap[k]?) : Wts w' v ws := ownsRow_keep h hk
theorem Wts.cell {w : World} {b n cap : Nat} {ad : Addr} {ws : List (Nat × Dv.Sec)} (h : Wts w (.slice (some ad) n cap) ws) (hl : ∀ x ∈ ws, x.2.length = 64) (k : Nat) (hk : k < ws.length) (hb : ad.block = b) : ad = ⟨b, 0, none⟩ ∧ ∀ j v, (wcells ws[k])[j]? = some v → w.cell? ((⟨b, k * 65, none⟩ : Addr).add j) = some v := by
  rcases h.2 with ⟨h0, _⟩ | ⟨g, cap', cur, hv, _, hh, h1, h2, h3, h4⟩
  · cases h0
  · cases hv
    subst hb
    refine ⟨rfl, fun j v hj => ?_⟩
    have hj65 : j < 65 := by
      have := (List.getElem?_eq_some_iff.1 hj).1
      rw [wcells_length (hl _ (List.getElem_mem hk))] at this; exact this
    rw [Addr.add_lit]
    simp only [World.cell?, hh]
    have e := Dv.flat_at (f := wcells) (c := 65) (fun x hx => wcells_length (hl x hx)) k j hk hj65
    rw [← h4, List.getElem?_take_of_lt (by omega)] at e
    rw [← hj, ← e]
    simp
theorem Wts.shape {w : World} {v : Value} {ws : List (Nat × Dv.Sec)} (h : Wts w v ws) : ∃ a c, v = .slice a ws.length c ∧ ws.length ≤ c ∧ c ≤ 9223372036854775807 ∧ (ws ≠ [] → ∃ b, a = some ⟨b, 0, none⟩ ∧ b < w.heap.size) := by
  rcases h.2 with ⟨hv, h0⟩ | ⟨g, cap, cur, hv, hb, hh, h1, h2, _⟩
  · exact ⟨none, 0, by rw [hv, h0], by omega, by decide, fun hn => absurd (List.eq_nil_of_length_eq_zero h0) hn⟩
  · exact ⟨_, cap, hv, h1, by unfold maxLen at h2; omega, fun _ => ⟨g, rfl, lt_of_block hh⟩⟩

/-! ### which calls fail -/
def ILies (w : World) (v : Value) (zs : List Int) : Prop := ∃ ao cap, v = .slice ao zs.length cap ∧ zs.length ≤ cap ∧ cap ≤ 9223372036854775807 ∧ (zs = [] ∨ ∃ b, ao = some ⟨b, 0, none⟩ ∧ ∃ C : Array Value, w.heap[b]? = some (.cells C 3 (0, 0)) ∧ ∀ j (hj : j < zs.length), C[j]? = some (.int .i64 zs[j]))
/-- fv: the numbers of the calls that fail, sorted. -/
def Fails (w : World) (F : Nat → Prop) (v : Value) (bad : List Int) : Prop := ∃ zs, ILies w v zs ∧ zs.Pairwise (· ≤ ·) ∧ (∀ x, zs.contains x = bad.contains x) ∧ zs.length ≤ 200000 ∧ ∀ k, zs ≠ [] → v.ownBlock = some k → F k
theorem ILies.keep {w w' : World} {v : Value} {zs : List Int} (h : ILies w v zs) (hk : zs ≠ [] → ∀ k, v.ownBlock = some k → w'.heap[k]? = w.heap[k]?) : ILies w' v zs := by
  obtain ⟨ao, cap, hv, h1, h2, h3⟩ := h
  refine ⟨ao, cap, hv, h1, h2, ?_⟩
  rcases h3 with h | ⟨b, e, C, hC, hc⟩
  · exact .inl h
  · by_cases h0 : zs = []
    · exact .inl h0
    · exact .inr ⟨b, e, C, by rw [hk h0 b (by rw [hv, e]; rfl)]; exact hC, hc⟩
theorem ILies.lt {w : World} {v : Value} {zs : List Int} (h : ILies w v zs) (hn : zs ≠ []) : ∀ k, v.ownBlock = some k → k < w.heap.size := fun k hk => by
  obtain ⟨ao, cap, hv, h1, h2, h3⟩ := h
  obtain ⟨b, e, C, hC, _⟩ := h3.resolve_left hn
  rw [hv, e] at hk
  cases hk
  exact lt_of_block hC
theorem ILies.ne {w : World} {v : Value} {zs : List Int} {g : Nat} {C : Array Value} {m : Nat × Nat} (h : ILies w v zs) (hn : zs ≠ []) (hb : w.heap[g]? = some (.cells C 57 m)) : ∀ k, v.ownBlock = some k → k ≠ g := fun k hk => by
  obtain ⟨ao, cap, hv, h1, h2, h3⟩ := h
  obtain ⟨b, e, C9, hC, _⟩ := h3.resolve_left hn
  rw [hv, e] at hk
  cases hk
  exact ne_block hC hb (by decide)
theorem Fails.keep {w w' : World} {F : Nat → Prop} {v : Value} {bad : List Int} (h : Fails w F v bad) (hk : ∀ k, k < w.heap.size → F k → w'.heap[k]? = w.heap[k]?) : Fails w' F v bad := by
  obtain ⟨zs, h1, h2, h3, h4, h5⟩ := h
  exact ⟨zs, h1.keep fun hn k hv => hk k (h1.lt hn k hv) (h5 k hn hv), h2, h3, h4, h5⟩
theorem Fails.mono {w : World} {F F' : Nat → Prop} {v : Value} {bad : List Int} (h : Fails w F v bad) (hF : ∀ k, F k → F' k) : Fails w F' v bad := by
  obtain ⟨zs, h1, h2, h3, h4, h5⟩ := h
  exact ⟨zs, h1, h2, h3, h4, fun k hn hv => hF k (h5 k hn hv)⟩

/-! ### the device's block -/
def row_ (b n : Nat) : Value := .slice (some ⟨b, 0, none⟩) n n
/-- The device at block g, its sectors sure and seen, its writes. -/
structure Med (w : World) (g : Nat) (F : Nat → Prop) (n bs bv : Nat) (wv fv cn cl : Value) (S V : List Dv.Sec) (W : List (Nat × Dv.Sec)) : Prop where
  blk : w.heap[g]? = some (.cells #[.slice (some ⟨bs, 0, none⟩) n n, .slice (some ⟨bv, 0, none⟩) n n, wv, fv, cn, cl] 57 (0, 0))
  sure : Secs w bs S
  seen : Secs w bv V
  wait : Wts w wv W
  ne : bs ≠ bv
  hg : F g
  hs : F bs
  hv : F bv
  hw : ∀ k, wv.ownBlock = some k → F k
  lS : S.length = n
  lV : V.length = n
  le : n ≤ 65536
  gS : ∀ x ∈ S, x.length = 64
  gV : ∀ x ∈ V, x.length = 64
  gW : ∀ x ∈ W, x.1 < n ∧ x.2.length = 64
section
variable {w w' : World} {g n bs bv : Nat} {F F' : Nat → Prop} {wv fv cn cl : Value} {S V : List Dv.Sec} {W : List (Nat × Dv.Sec)}
theorem Wts.lt (h : Wts w wv W) : ∀ k, wv.ownBlock = some k → k < w.heap.size := fun k hk => (World.ownsRow.lt h k hk).2
theorem Med.keep (h : Med w g F n bs bv wv fv cn cl S V W) (hk : ∀ k, k < w.heap.size → F k → w'.heap[k]? = w.heap[k]?) : Med w' g F n bs bv wv fv cn cl S V W :=
  ⟨by rw [hk g (lt_of_block h.blk) h.hg]; exact h.blk, h.sure.keep (hk bs (lt_of_block h.sure) h.hs), h.seen.keep (hk bv (lt_of_block h.seen) h.hv), h.wait.keep (fun k hv => hk k (h.wait.lt k hv) (h.hw k hv)), h.ne, h.hg, h.hs, h.hv, h.hw, h.lS, h.lV, h.le, h.gS, h.gV, h.gW⟩
theorem Med.mono (h : Med w g F n bs bv wv fv cn cl S V W) (hF : ∀ k, F k → F' k) : Med w g F' n bs bv wv fv cn cl S V W :=
  ⟨h.blk, h.sure, h.seen, h.wait, h.ne, hF _ h.hg, hF _ h.hs, hF _ h.hv, fun k hk => hF k (h.hw k hk), h.lS, h.lV, h.le, h.gS, h.gV, h.gW⟩
theorem Med.later (h : Med w g F n bs bv wv fv cn cl S V W) (hb : Below w.heap.size w w') : Med w' g F n bs bv wv fv cn cl S V W := h.keep fun k hk _ => hb.block k hk
theorem Med.c0 (h : Med w g F n bs bv wv fv cn cl S V W) : w.cell? ⟨g, 0, none⟩ = some (.slice (some ⟨bs, 0, none⟩) n n) := (blk_cell h.blk 0 _ rfl).1
theorem Med.c1 (h : Med w g F n bs bv wv fv cn cl S V W) : w.cell? ⟨g, 1, none⟩ = some (.slice (some ⟨bv, 0, none⟩) n n) := (blk_cell h.blk 1 _ rfl).1
theorem Med.c2 (h : Med w g F n bs bv wv fv cn cl S V W) : w.cell? ⟨g, 2, none⟩ = some wv := (blk_cell h.blk 2 _ rfl).1
theorem Med.c3 (h : Med w g F n bs bv wv fv cn cl S V W) : w.cell? ⟨g, 3, none⟩ = some fv := (blk_cell h.blk 3 _ rfl).1
theorem Med.c4 (h : Med w g F n bs bv wv fv cn cl S V W) : w.cell? ⟨g, 4, none⟩ = some cn := (blk_cell h.blk 4 _ rfl).1
theorem Med.c5 (h : Med w g F n bs bv wv fv cn cl S V W) : w.cell? ⟨g, 5, none⟩ = some cl := (blk_cell h.blk 5 _ rfl).1
theorem Med.free (h : Med w g F n bs bv wv fv cn cl S V W) (j : Nat) : w.frozen? ⟨g, j, none⟩ = false := by simp only [World.frozen?, h.blk]; simp
theorem Med.gs (h : Med w g F n bs bv wv fv cn cl S V W) : g ≠ bs ∧ g ≠ bv := ⟨ne_block h.blk h.sure (by decide), ne_block h.blk h.seen (by decide)⟩
theorem Wts.ne {b : Nat} {C : Array Value} {T : TypeId} {m : Nat × Nat} (h : Wts w wv W) (hb : w.heap[b]? = some (.cells C T m)) (hT : T ≠ 102) : ∀ k, wv.ownBlock = some k → k ≠ b := fun k hk e => by
  rcases h.2 with ⟨hv, _⟩ | ⟨q, cap, cur, hv, _, hh, _⟩
  · rw [hv] at hk; cases hk
  · rw [hv] at hk; cases hk
    subst e
    rw [hh] at hb
    injection hb with hb
    injection hb with _ h2
    exact hT h2.symm
/-- The device's block, but for one cell, or all of the last three, as it was: the rest. -/
theorem Med.block (h : Med w g F n bs bv wv fv cn cl S V W) {fv' cn' cl' : Value} (hb : w'.heap[g]? = some (.cells #[.slice (some ⟨bs, 0, none⟩) n n, .slice (some ⟨bv, 0, none⟩) n n, wv, fv', cn', cl'] 57 (0, 0))) (hk : ∀ k, k < w.heap.size → F k → k ≠ g → w'.heap[k]? = w.heap[k]?) : Med w' g F n bs bv wv fv' cn' cl' S V W :=
  ⟨hb, h.sure.keep (hk bs (lt_of_block h.sure) h.hs (Ne.symm h.gs.1)), h.seen.keep (hk bv (lt_of_block h.seen) h.hv (Ne.symm h.gs.2)), h.wait.keep (fun k hv => hk k (h.wait.lt k hv) (h.hw k hv) (h.wait.ne h.blk (by decide) k hv)), h.ne, h.hg, h.hs, h.hv, h.hw, h.lS, h.lV, h.le, h.gS, h.gV, h.gW⟩
/-- Other writes wait. -/
theorem Med.waits (h : Med w g F n bs bv wv fv cn cl S V W) {wv' : Value} {W' : List (Nat × Dv.Sec)} (hW : Wts w wv' W') (hF : ∀ k, wv'.ownBlock = some k → F k) (hl : ∀ x ∈ W', x.1 < n ∧ x.2.length = 64) : Med (w.setCell ⟨g, 2, none⟩ wv') g F n bs bv wv' fv cn cl S V W' := by
  have hk : ∀ k, k ≠ g → (w.setCell ⟨g, 2, none⟩ wv').heap[k]? = w.heap[k]? := fun k hk => heap_setCell_other w ⟨g, 2, none⟩ k wv' hk
  exact ⟨heap_setCell_same w g 2 _ _ wv' h.blk, h.sure.keep (hk bs (Ne.symm h.gs.1)), h.seen.keep (hk bv (Ne.symm h.gs.2)), hW.keep (fun k hv => hk k (hW.ne h.blk (by decide) k hv)), h.ne, h.hg, h.hs, h.hv, hF, h.lS, h.lV, h.le, h.gS, h.gV, hl⟩
/-- A sector is seen anew. -/
theorem Med.see (h : Med w g F n bs bv wv fv cn cl S V W) (k : Nat) (hk : k < n) (z : List UInt8) (hz : z.length = 64) :
    Med (w.setRow bv ((secs V).toArray.toList.take (k * 64) ++ Lib.byteCells z ++ (secs V).toArray.toList.drop (k * 64 + (Lib.byteCells z).length)).toArray) g F n bs bv wv fv cn cl S (V.set k z) W := by
  have hkV : k < V.length := by rw [h.lV]; exact hk
  have e := h.seen.put h.gV k hkV z (by omega)
  have e2 : z ++ (V.getD k []).drop z.length = z := by
    rw [List.drop_of_length_le, List.append_nil]
    rw [List.getD_eq_getElem?_getD, List.getElem?_eq_getElem hkV, hz]
    exact Nat.le_of_eq (h.gV _ (List.getElem_mem hkV))
  rw [e2] at e
  have hkk : ∀ j, j ≠ bv → (w.setRow bv ((secs V).toArray.toList.take (k * 64) ++ Lib.byteCells z ++ (secs V).toArray.toList.drop (k * 64 + (Lib.byteCells z).length)).toArray).heap[j]? = w.heap[j]? := fun j hj => setRow_other w bv j _ (fun e => hj e)
  refine ⟨by rw [hkk g h.gs.2]; exact h.blk, h.sure.keep (hkk bs h.ne), e, h.wait.keep (fun j hv => hkk j (h.wait.ne h.seen (by decide) j hv)), h.ne, h.hg, h.hs, h.hv, h.hw, h.lS, by rw [List.length_set]; exact h.lV, h.le, h.gS, fun x hx => ?_, h.gW⟩
  rcases List.mem_or_eq_of_mem_set hx with hx | rfl
  · exact h.gV x hx
  · exact hz
/-- The beginning of a sector comes to be sure. -/
theorem Med.sures (h : Med w g F n bs bv wv fv cn cl S V W) (k : Nat) (hk : k < n) (z : List UInt8) (hz : z.length ≤ 64) :
    Med (w.setRow bs ((secs S).toArray.toList.take (k * 64) ++ Lib.byteCells z ++ (secs S).toArray.toList.drop (k * 64 + (Lib.byteCells z).length)).toArray) g F n bs bv wv fv cn cl (S.set k (z ++ (S.getD k []).drop z.length)) V W := by
  have hkS : k < S.length := by rw [h.lS]; exact hk
  have e := h.sure.put h.gS k hkS z hz
  have hkk : ∀ j, j ≠ bs → (w.setRow bs ((secs S).toArray.toList.take (k * 64) ++ Lib.byteCells z ++ (secs S).toArray.toList.drop (k * 64 + (Lib.byteCells z).length)).toArray).heap[j]? = w.heap[j]? := fun j hj => setRow_other w bs j _ (fun e => hj e)
  refine ⟨by rw [hkk g h.gs.1]; exact h.blk, e, h.seen.keep (hkk bv (Ne.symm h.ne)), h.wait.keep (fun j hv => hkk j (h.wait.ne h.sure (by decide) j hv)), h.ne, h.hg, h.hs, h.hv, h.hw, by rw [List.length_set]; exact h.lS, h.lV, h.le, fun x hx => ?_, h.gV, h.gW⟩
  rcases List.mem_or_eq_of_mem_set hx with hx | rfl
  · exact h.gS x hx
  · rw [List.length_append, List.length_drop, List.getD_eq_getElem?_getD, List.getElem?_eq_getElem hkS]
    have h4 := h.gS _ (List.getElem_mem hkS)
    simp only [Option.getD_some]
    omega
end

/-! ### what a call turns -/
theorem Touch.refl (F : Nat → Prop) (w : World) : Touch F w w := ⟨rfl, rfl, rfl, Nat.le_refl _, fun _ _ _ => rfl⟩
theorem Touch.trans {F : Nat → Prop} {a b c : World} (h : Touch F a b) (h' : Touch F b c) : Touch F a c :=
  ⟨h'.os.trans h.os, h'.tape.trans h.tape, h'.output.trans h.output, Nat.le_trans h.size h'.size, fun k hk hn => (h'.block k (Nat.lt_of_lt_of_le hk h.size) hn).trans (h.block k hk hn)⟩
theorem Touch.mono {F F' : Nat → Prop} {a b : World} (h : Touch F a b) (hF : ∀ k, k < a.heap.size → F k → F' k) : Touch F' a b :=
  ⟨h.os, h.tape, h.output, h.size, fun k hk hn => h.block k hk (fun hf => hn (hF k hk hf))⟩
theorem Touch.cell {F : Nat → Prop} {w : World} {g : Nat} (hg : F g) (k : Nat) (v : Value) : Touch F w (w.setCell ⟨g, k, none⟩ v) :=
  ⟨rfl, rfl, rfl, by simp, fun j _ hn => heap_setCell_other w ⟨g, k, none⟩ j v (fun e => hn (by rw [e]; exact hg))⟩
theorem Touch.row {F : Nat → Prop} {w : World} {g : Nat} (hg : F g) (cs : Array Value) : Touch F w (w.setRow g cs) :=
  ⟨rfl, rfl, rfl, by simp, fun j _ hn => setRow_other w g j cs (fun e => hn (by rw [e]; exact hg))⟩
theorem Touch.grown {F : Nat → Prop} {w w' : World} {row : Option Nat} (h : w.grownBy w' row) (hr : ∀ k, row = some k → F k) : Touch F w w' :=
  ⟨h.os, h.tape, h.output, h.size, fun j hj hn => h.block j hj (fun e => hn (hr j e.symm))⟩
end Go.Proofs.Ytjdmmnpfjbnhoaa
